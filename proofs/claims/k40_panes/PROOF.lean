import PyProof.Rows.All
import Wide.All
import OpenK.AllK
import Wide.FinOn
import Lean
import PyProof.EqAt
import PyProof.EqKinds
import PyProof.TupleCall
import PyProof.NeKinds
import PyProof.CompFree
import PyProof.CompUse
import PyProof.ZipIter
import PyProof.StrWalks
import PyProof.ListRange
import PyProof.ListMulRoad
import KE.KMinBuiltin
import PyProof.Rows.CallKw2
import KE.KSortTup
import PyProof.StrCalls2
import PyProof.StrLawsChain
import PyProof.StrLawsTight
import PyProof.Rows.StrItems
import KE.KxAffix
import PySem.Challenge.RW_cardplaces_k40_panes
set_option Elab.async false
set_option linter.all false
set_option maxRecDepth 100000
namespace L2
open PySem PySem.Spec PyProof.Rows

noncomputable abbrev Key := Sum Int Str
noncomputable def keyIs : Key → Value → Bool
  | .inl k, v => Value.isInt k v
  | .inr x, v => Value.isStrOf x v
noncomputable def keyH (w : World) : Key → Int
  | .inl k => hashInt k
  | .inr x => hashStr w x
theorem keyIs_shape : ∀ {k : Key} {v : Value}, keyIs k v = true → (∃ i t, k = Sum.inl i ∧ v = Value.int i t) ∨ (∃ x t, k = Sum.inr x ∧ v = Value.str x t)
  | .inl i, v, h => by
    obtain ⟨t, e⟩ := Value.isInt_shape (k := i) (v := v) h
    exact .inl ⟨i, t, rfl, e⟩
  | .inr x, v, h => by
    obtain ⟨t, e⟩ := Value.isStrOf_shape (x := x) (v := v) h
    exact .inr ⟨x, t, rfl, e⟩
theorem keyIs_int (i : Int) (t : Tok) : keyIs (.inl i) (.int i t) = true := by simp [keyIs, Value.isInt]
theorem keyIs_str (x : Str) (t : Tok) : keyIs (.inr x) (.str x t) = true := by simp [keyIs, Value.isStrOf]
theorem key_ll (a b : Int) : decide ((Sum.inl a : Key) = Sum.inl b) = (a == b) := by
  by_cases e : a = b
  · subst e; simp
  · have h : ¬ (Sum.inl a : Key) = Sum.inl b := fun q => e (Sum.inl.inj q)
    rw [decide_eq_false h]
    exact (beq_eq_false_iff_ne.mpr e).symm
theorem key_rr (a b : Str) : decide ((Sum.inr a : Key) = Sum.inr b) = decide (a = b) := by
  by_cases e : a = b
  · subst e; simp
  · have h : ¬ (Sum.inr a : Key) = Sum.inr b := fun q => e (Sum.inr.inj q)
    rw [decide_eq_false h, decide_eq_false e]
theorem key_lr (a : Int) (b : Str) : decide ((Sum.inl a : Key) = Sum.inr b) = false := decide_eq_false (fun q => nomatch q)
theorem key_rl (a : Str) (b : Int) : decide ((Sum.inr a : Key) = Sum.inl b) = false := decide_eq_false (fun q => nomatch q)

noncomputable def mixKind (prog : Program) (w : World) : PySem.KeyKind prog w Key where
  is := keyIs
  hash := keyH w
  inj := fun v a b ha hb => by
    rcases keyIs_shape ha with ⟨i, t, rfl, rfl⟩ | ⟨x, t, rfl, rfl⟩
    · rcases keyIs_shape hb with ⟨j, u, rfl, e⟩ | ⟨y, u, rfl, e⟩
      · injection e with e1 _; rw [e1]
      · exact nomatch e
    · rcases keyIs_shape hb with ⟨j, u, rfl, e⟩ | ⟨y, u, rfl, e⟩
      · exact nomatch e
      · injection e with e1 _; rw [e1]
  byValue := fun k v h => by
    rcases keyIs_shape h with ⟨i, t, rfl, rfl⟩ | ⟨x, t, rfl, rfl⟩ <;> rfl
  pyHash := fun hv h => by
    rcases keyIs_shape hv with ⟨i, t, rfl, rfl⟩ | ⟨x, t, rfl, rfl⟩
    · exact wpAny_pyHash_int h
    · exact wpAny_pyHash_str h
  eqBool := fun hu hv h => by
    rcases keyIs_shape hu with ⟨i, t, rfl, rfl⟩ | ⟨x, t, rfl, rfl⟩
    · rcases keyIs_shape hv with ⟨j, u, rfl, rfl⟩ | ⟨y, u, rfl, rfl⟩
      · rw [key_ll] at h; exact wpAny_eqBool_int h
      · rw [key_lr] at h; exact SeqAt.EqAt.int_str i t y u _ _ _ _ h
    · rcases keyIs_shape hv with ⟨j, u, rfl, rfl⟩ | ⟨y, u, rfl, rfl⟩
      · rw [key_rl] at h; exact SeqAt.EqAt.str_int x t j u _ _ _ _ h
      · rw [key_rr] at h; exact wpAny_eqBool_str h
  «strs» := fun k x t v h => by
    rcases keyIs_shape h with ⟨i, u, rfl, e⟩ | ⟨y, u, rfl, e⟩
    · exact nomatch e
    · injection e with e1 _
      subst e1
      cases v <;> rfl

theorem mixKind_int (prog : Program) (w : World) (i : Int) (t : Tok) : (mixKind prog w).is (.inl i) (.int i t) = true := keyIs_int i t
theorem mixKind_str (prog : Program) (w : World) (x : Str) (t : Tok) : (mixKind prog w).is (.inr x) (.str x t) = true := keyIs_str x t
end L2

namespace L2
open PySem PySem.Spec PyProof.Rows

inductive V where
  | non | bl (b : Bool) | int (i : Int) | str (x : Str) | byt (b : Array UInt8) | flt (b : UInt64) | ref (a : Addr) | ty (n : String)
  deriving DecidableEq

noncomputable def RelV : V → Value → Prop
  | .non, u => u = Value.none
  | .bl b, u => u = Value.bool b
  | .int i, u => ∃ t, u = Value.int i t
  | .str x, u => ∃ t, u = Value.str x t
  | .byt b, u => ∃ t, u = Value.bytes b t
  | .flt b, u => ∃ t, u = Value.float b t
  | .ref a, u => u = Value.ref a
  | .ty n, u => u = Value.type n

noncomputable abbrev Vals : List V → List Value → Prop := Paired RelV
theorem Vals.length {xs : List V} {us : List Value} (r : Vals xs us) : xs.length = us.length := Paired.length r
theorem Vals.get : ∀ {xs : List V} {us : List Value} {i : Nat} {x : V}, Vals xs us → xs[i]? = some x → ∃ u, us[i]? = some u ∧ RelV x u
  | _, _, _, _, .nil, e => by simp at e
  | _, _, 0, _, .cons r _, e => by simp at e; subst e; exact ⟨_, rfl, r⟩
  | _, _, i + 1, x, .cons _ t, e => by
    obtain ⟨u, h1, h2⟩ := Vals.get (i := i) (x := x) t (by simpa using e)
    exact ⟨u, by simpa using h1, h2⟩
theorem Vals.set {x : V} {u : Value} (r : RelV x u) : ∀ {xs : List V} {us : List Value} (i : Nat), Vals xs us → Vals (xs.set i x) (us.set i u)
  | _, _, _, .nil => .nil
  | _, _, 0, .cons _ t => .cons r t
  | _, _, i + 1, .cons q t => .cons q (Vals.set r i t)
theorem Vals.append : ∀ {xs ys : List V} {us ws : List Value}, Vals xs us → Vals ys ws → Vals (xs ++ ys) (us ++ ws)
  | _, _, _, _, .nil, s => s
  | _, _, _, _, .cons r t, s => .cons r (Vals.append t s)
theorem Vals.take : ∀ {xs : List V} {us : List Value} (n : Nat), Vals xs us → Vals (xs.take n) (us.take n)
  | _, _, 0, _ => .nil
  | _, _, _ + 1, .nil => .nil
  | _, _, n + 1, .cons r t => .cons r (Vals.take n t)
theorem Vals.drop : ∀ {xs : List V} {us : List Value} (n : Nat), Vals xs us → Vals (xs.drop n) (us.drop n)
  | _, _, 0, r => r
  | _, _, _ + 1, .nil => .nil
  | _, _, n + 1, .cons _ t => Vals.drop n t
theorem Vals.none_of : ∀ {xs : List V} {us : List Value} {i : Nat}, Vals xs us → xs[i]? = none → us[i]? = none := fun {xs us i} r e => by
  have h1 := r.length
  have h2 : xs.length ≤ i := List.getElem?_eq_none_iff.mp e
  exact List.getElem?_eq_none_iff.mpr (by omega)

noncomputable def RelO : Option V → Option Value → Prop
  | some v, some u => RelV v u
  | none, none => True
  | _, _ => False
noncomputable def KV {κ : Type} : List (κ × V) → List (κ × Value) → Prop := Paired fun (p : κ × V) (q : κ × Value) => p.1 = q.1 ∧ RelV p.2 q.2

noncomputable def kV : Key → V
  | .inl i => .int i
  | .inr x => .str x

inductive HO where
  /-- a list -/
  | lst (xs : List V)
  /-- a tuple (never changes) -/
  | tup (xs : List V)
  /-- a dict whose keys are ints and texts; one whose keys are tuples of ints and texts (the empty one is both) -/
  | dK (kvs : List (Key × V)) | dT (kvs : List (List Key × V))
  /-- a set of ints: its members, its size -/
  | set (S : Int → Bool) (n : Nat)
  /-- an instance of the class at C, its dict at dx, its attributes -/
  | ins (C dx : Addr) (fs : List (Str × V))
  /-- the dict of the instance at x -/
  | own (x : Addr)
  /-- the dict of an exception -/
  | xd (fs : List (Str × V))
  /-- a bound method, f of x -/
  | met (f x : Addr)
  /-- a range object lo, lo + 1, .. below hi -/
  | rng (lo hi : Int)
  /-- a thing that is known to the object (the script; a dict while a loop walks it): read, never written while it is so -/
  | frz (o : Obj) (u : HO)
  /-- a code object's table -/
  | tbl (ps : Array Value)
  /-- any other thing, by what is true of its one object (a def of one's own: SetO a S n := HO.ext fun h => ..) -/
  | ext (φ : Heap → Prop)

noncomputable abbrev Hp := Addr → Option HO
noncomputable def upd (H : Hp) (a : Addr) (o : HO) : Hp := fun b => if b = a then some o else H b
theorem upd_same {H : Hp} {a : Addr} {o : HO} : upd H a o a = some o := by unfold upd; rw [if_pos rfl]
theorem upd_ne {H : Hp} {a b : Addr} {o : HO} (h : b ≠ a) : upd H a o b = H b := by unfold upd; rw [if_neg h]
theorem ne_of {H : Hp} {a b : Addr} {o u : HO} (h : H a = some o) (h' : H b = some u) (d : o ≠ u) : a ≠ b := by
  intro e; subst e; rw [h] at h'; exact d (Option.some.inj h')
theorem ne_of_none {H : Hp} {a b : Addr} {o : HO} (h : H a = some o) (h' : H b = none) : a ≠ b := by
  intro e; subst e; rw [h] at h'; cases h'

section
variable (P : Program) (w : World)
noncomputable def ObjOk (H : Hp) (h : Heap) (a : Addr) : HO → Prop
  | .lst xs => xs.length ≤ sizeLine ∧ ∃ (its : List Value) (n : Nat), Vals xs its ∧ h.get? a = some { cls := .type "list", data := .seq its.toArray n }
  | .tup xs => xs.length ≤ sizeLine ∧ ∃ its : List Value, Vals xs its ∧ IsTup h a its.toArray
  | .dK kvs => kvs.length ≤ sizeLine ∧ (a == sysModules) = false ∧ ∃ vs, KV kvs vs ∧ h.DictOf (mixKind P w) a vs
  | .dT kvs => kvs.length ≤ sizeLine ∧ (a == sysModules) = false ∧ ∃ xs : List (List Key × Addr × Value),
      Paired (fun (p : List Key × V) (q : List Key × Addr × Value) => p.1 = q.1 ∧ H q.2.1 = some (.tup (p.1.map kV)) ∧ RelV p.2 q.2.2) kvs xs ∧
      ∃ o es ep, h.get? a = some o ∧ o.ExactDict ∧ o.data = .dict es ep ∧ es.toList = xs.map (entryOfKey (tupleKind (mixKind P w))) ∧ (xs.map (·.1)).Nodup
  | .set S n => h.SetOf (intKind P w) a S n
  | .ins C dx fs => H dx = some (.own a) ∧ fs.length ≤ 1000 ∧ dx ≠ a ∧ h.get? a = some (PySem.W.instObj C dx) ∧
      ∃ mA, h.Ns1 dx mA ∧ (∀ f, RelO (fs.lookup f) (mA f)) ∧ PySem.Within mA (fs.map (·.1))
  | .own _ => ∃ o, h.get? a = some o
  | .xd fs => ∃ mA, h.Ns1 a mA ∧ ∀ f, RelO (fs.lookup f) (mA f)
  | .rng lo hi => ∃ t u v, h.get? a = some { cls := .type "range", data := .fields #[.int lo t, .int hi u, .int 1 v] }
  | .frz o u => h.get? a = some o ∧ ObjOk H h a u
  | .tbl ps => h.get? a = some { cls := .none, data := .fields ps }
  | .met f x => h.get? a = some (PySem.W.methodObj (.ref f) (.ref x))
  | .ext φ => φ h ∧ (∃ o, h.get? a = some o) ∧ ∀ h1 h2 : Heap, φ h1 → (∀ o, h1.get? a = some o → h2.get? a = some o) → φ h2
noncomputable def HOk (H : Hp) (h : Heap) : Prop := ∀ a o, H a = some o → ObjOk P w H h a o
end

section
variable {P : Program} {w : World} {H H' : Hp} {h h' : Heap} {a : Addr} {o : HO}
theorem ObjOk.lt (x : ObjOk P w H h a o) : a < h.objs.size := by
  cases o with
  | lst xs => obtain ⟨_, _, _, _, e⟩ := x; exact Heap.lt_size e
  | tup xs => obtain ⟨_, _, _, p⟩ := x; exact p.lt
  | dK kvs => obtain ⟨_, _, _, _, o, _, _, e, _⟩ := x; exact Heap.lt_size e
  | dT kvs => obtain ⟨_, _, _, _, o, _, _, e, _⟩ := x; exact Heap.lt_size e
  | set S n => obtain ⟨o, _, _, _, e, _⟩ := x; exact Heap.lt_size e
  | ins C dx fs => obtain ⟨_, _, _, e, _⟩ := x; exact Heap.lt_size e
  | own y => obtain ⟨_, e⟩ := x; exact Heap.lt_size e
  | xd fs => obtain ⟨_, ⟨_, _, _, e, _⟩, _⟩ := x; exact Heap.lt_size e
  | rng lo hi => obtain ⟨_, _, _, e⟩ := x; exact Heap.lt_size e
  | frz ob u => obtain ⟨e, _⟩ := x; exact Heap.lt_size e
  | tbl ps => exact Heap.lt_size (show h.get? a = some _ from x)
  | met f y => exact Heap.lt_size (show h.get? a = some _ from x)
  | ext φ => obtain ⟨_, ⟨_, e⟩, _⟩ := x; exact Heap.lt_size e
theorem Paired.mapP {α β : Type} {F G : α → β → Prop} : ∀ {l₁ : List α} {l₂ : List β}, Paired F l₁ l₂ → (∀ a b, F a b → G a b) → Paired G l₁ l₂
  | _, _, .nil, _ => .nil
  | _, _, .cons r t, f => .cons (f _ _ r) (Paired.mapP t f)
theorem ObjOk.stay (x : ObjOk P w H h a o) (k : ∀ b u, (b = a ∨ H b = some (.own a)) → h.get? b = some u → h'.get? b = some u)
    (ho : ∀ b, H b = some (.own a) → H' b = some (.own a)) (ht : ∀ b xs, H b = some (.tup xs) → H' b = some (.tup xs)) : ObjOk P w H' h' a o := by
  induction o with
  | lst xs => obtain ⟨z, its, n, r, e⟩ := x; exact ⟨z, its, n, r, k _ _ (.inl rfl) e⟩
  | tup xs => obtain ⟨z, its, r, ob, e, c⟩ := x; exact ⟨z, its, r, ob, k _ _ (.inl rfl) e, c⟩
  | dK kvs => obtain ⟨z, y, vs, r, ob, es, ep, e, c⟩ := x; exact ⟨z, y, vs, r, ob, es, ep, k _ _ (.inl rfl) e, c⟩
  | dT kvs =>
    obtain ⟨z, y, xs, r, ob, es, ep, e, c⟩ := x
    exact ⟨z, y, xs, Paired.mapP r fun p q z => ⟨z.1, ht _ _ z.2.1, z.2.2⟩, ob, es, ep, k _ _ (.inl rfl) e, c⟩
  | set S n => obtain ⟨ob, es, ep, t, e, c⟩ := x; exact ⟨ob, es, ep, t, k _ _ (.inl rfl) e, c⟩
  | ins C dx fs =>
    obtain ⟨d, z, ne, e, mA, ⟨od, es, ep, e2, c⟩, r⟩ := x
    exact ⟨ho _ d, z, ne, k _ _ (.inl rfl) e, mA, ⟨od, es, ep, k _ _ (.inr d) e2, c⟩, r⟩
  | own y => obtain ⟨ob, e⟩ := x; exact ⟨ob, k _ _ (.inl rfl) e⟩
  | xd fs => obtain ⟨mA, ⟨od, es, ep, e, c⟩, r⟩ := x; exact ⟨mA, ⟨od, es, ep, k _ _ (.inl rfl) e, c⟩, r⟩
  | rng lo hi => obtain ⟨t, u, v, e⟩ := x; exact ⟨t, u, v, k _ _ (.inl rfl) e⟩
  | frz ob u ih => obtain ⟨e, q⟩ := x; exact ⟨k _ _ (.inl rfl) e, ih q⟩
  | tbl ps =>
    have e : h.get? a = some { cls := .none, data := .fields ps } := x
    show h'.get? a = some { cls := .none, data := .fields ps }
    exact k a _ (.inl rfl) e
  | met f y =>
    have e : h.get? a = some (PySem.W.methodObj (.ref f) (.ref y)) := x
    show h'.get? a = some (PySem.W.methodObj (.ref f) (.ref y))
    exact k a _ (.inl rfl) e
  | ext φ => obtain ⟨p, ⟨o, e⟩, st⟩ := x; exact ⟨st _ _ p fun o q => k _ _ (.inl rfl) q, ⟨o, k _ _ (.inl rfl) e⟩, st⟩
theorem HOk.lt (x : HOk P w H h) (e : H a = some o) : a < h.objs.size := (x a o e).lt
theorem HOk.fresh (x : HOk P w H h) (e : h.objs.size ≤ a) : H a = none := by
  cases q : H a with
  | none => rfl
  | some u => exact absurd (Nat.lt_of_lt_of_le (x.lt q) e) (Nat.lt_irrefl _)
theorem HOk.kept (x : HOk P w H h) (k : ∀ b u, h.get? b = some u → h'.get? b = some u) : HOk P w H h' := fun a o e =>
  (x a o e).stay (fun b u _ q => k b u q) (fun _ q => q) fun _ _ q => q
theorem HOk.laid (x : HOk P w H h) (k : ∀ b u, h.get? b = some u → h'.get? b = some u) (hp : h.objs.size ≤ a) (new : ObjOk P w (upd H a o) h' a o) : HOk P w (upd H a o) h' := fun b u e => by
  have hn := x.fresh hp
  by_cases hb : b = a
  · subst hb; rw [upd_same] at e; cases e; exact new
  · rw [upd_ne hb] at e
    exact (x b u e).stay (fun c v _ q => k c v q) (fun c q => by rw [upd_ne (ne_of_none q hn)]; exact q) fun c xs q => by rw [upd_ne (ne_of_none q hn)]; exact q
end

noncomputable def Rd (H : Hp) (a : Addr) (u : HO) : Prop := H a = some u ∨ ∃ o, H a = some (.frz o u)
theorem Rd.of {H : Hp} {a : Addr} {u : HO} (h : H a = some u) : Rd H a u := .inl h
theorem Rd.ok {P : Program} {w : World} {H : Hp} {h : Heap} {a : Addr} {u : HO} (r : Rd H a u) (x : HOk P w H h) : ObjOk P w H h a u := by
  rcases r with r | ⟨o, r⟩
  · exact x a u r
  · obtain ⟨_, q⟩ := x a _ r
    exact q
noncomputable def Mut : Option HO → Prop
  | some (.lst _) => True
  | some (.dK _) => True
  | some (.dT _) => True
  | some (.set _ _) => True
  | some (.ins _ _ _) => True
  | some (.ext _) => True
  | _ => False
section
variable {P : Program} {w : World} {H : Hp} {h h' : Heap} {x e : Addr} {o' : HO}
theorem HOk.write (ok : HOk P w H h) (mu : Mut (H x)) (he : e = x ∨ H e = some (.own x)) (k : ∀ b u, b ≠ e → h.get? b = some u → h'.get? b = some u) (heo : ∃ u, h'.get? e = some u)
    (new : ObjOk P w (upd H x o') h' x o') : HOk P w (upd H x o') h' := fun b u q => by
  have nown : ∀ c y, H c = some (.own y) → c ≠ x := fun c y r z => by subst z; rw [r] at mu; exact mu
  have ntup : ∀ c xs, H c = some (.tup xs) → c ≠ x := fun c xs r z => by subst z; rw [r] at mu; exact mu
  by_cases hb : b = x
  · subst hb; rw [upd_same] at q; cases q; exact new
  · rw [upd_ne hb] at q
    by_cases hbe : b = e
    · have q' : H b = some (.own x) := by
        rcases he with z | z
        · exact absurd (hbe.trans z) hb
        · rw [hbe]; exact z
      rw [q] at q'; cases q'
      obtain ⟨v, hv⟩ := heo
      exact ⟨v, by rw [hbe]; exact hv⟩
    · refine (ok b u q).stay (fun c v hc r => k c v ?_ r) (fun c r => by rw [upd_ne (nown c b r)]; exact r) fun c xs r => by rw [upd_ne (ntup c xs r)]; exact r
      rcases hc with rfl | hc
      · exact hbe
      · rintro rfl
        rcases he with z | z
        · exact nown c b hc z
        · rw [hc] at z; cases z; exact hb rfl
end

structure Un (fs ex : List Addr) (H H' : Hp) (h h' : Heap) : Prop where
  keep : ∀ b o, h.get? b = some o → H b = none → b ∉ fs → b ∉ ex → h'.get? b = some o
  slot : ∀ b o, h.get? b = some o → H b = none → b ∈ fs → b ∉ ex → ∃ sl, h'.get? b = some { o with slots := sl }
  free : ∀ b o, h.get? b = some o → H b = none → b ∉ ex → H' b = none
  there : ∀ b o, h.get? b = some o → b ∉ ex → ∃ o', h'.get? b = some o'
  tups : ∀ b xs, H b = some (.tup xs) → H' b = some (.tup xs)
  frzs : ∀ b o u, H b = some (.frz o u) → H' b = some (.frz o u)
  tbls : ∀ b ps, H b = some (.tbl ps) → ∃ more, H' b = some (.tbl (ps ++ more))
section
variable {fs fs' ex ex' : List Addr} {H H1 H2 : Hp} {h h1 h2 h' : Heap} {a x e : Addr} {o : HO}
theorem Un.any (u : Un fs ex H H1 h h1) {b : Addr} {ob : Obj} (q : h.get? b = some ob) (n : H b = none) (hx : b ∉ ex) : ∃ sl, h1.get? b = some { ob with slots := sl } := by
  by_cases hb : b ∈ fs
  · exact u.slot b ob q n hb hx
  · exact ⟨ob.slots, u.keep b ob q n hb hx⟩
theorem Un.trans (a : Un fs ex H H1 h h1) (b : Un fs ex H1 H2 h1 h2) : Un fs ex H H2 h h2 where
  keep := fun c ob q n hc hx => b.keep c ob (a.keep c ob q n hc hx) (a.free c ob q n hx) hc hx
  slot := fun c ob q n hc hx => by
    obtain ⟨sl, e1⟩ := a.slot c ob q n hc hx
    obtain ⟨sl', e2⟩ := b.slot c _ e1 (a.free c ob q n hx) hc hx
    exact ⟨sl', e2⟩
  free := fun c ob q n hx => by
    obtain ⟨o', e1⟩ := a.there c ob q hx
    exact b.free c o' e1 (a.free c ob q n hx) hx
  there := fun c ob q hx => by
    obtain ⟨o', e1⟩ := a.there c ob q hx
    exact b.there c o' e1 hx
  tups := fun c xs q => b.tups c xs (a.tups c xs q)
  frzs := fun c ob xs q => b.frzs c ob xs (a.frzs c ob xs q)
  tbls := fun c ps q => by
    obtain ⟨m1, e1⟩ := a.tbls c ps q
    obtain ⟨m2, e2⟩ := b.tbls c _ e1
    exact ⟨m1 ++ m2, by rw [e2, Array.append_assoc]⟩
theorem Un.kept (k : ∀ b u, h.get? b = some u → h'.get? b = some u) : Un fs ex H H h h' :=
  ⟨fun b ob q _ _ _ => k b ob q, fun b ob q _ _ _ => ⟨ob.slots, k b ob q⟩, fun _ _ _ n _ => n, fun b ob q _ => ⟨ob, k b ob q⟩, fun _ _ q => q, fun _ _ _ q => q, fun _ ps q => ⟨#[], by rw [q]; simp⟩⟩
theorem Un.refl : Un fs ex H H h h := Un.kept fun _ _ q => q
theorem Un.laid (k : ∀ b u, h.get? b = some u → h'.get? b = some u) (hp : h.objs.size ≤ a) (hn : H a = none) : Un fs ex H (upd H a o) h h' where
  keep := fun b u q _ _ _ => k b u q
  slot := fun b u q _ _ _ => ⟨u.slots, k b u q⟩
  free := fun b u q n _ => by rw [upd_ne (Nat.ne_of_lt (Nat.lt_of_lt_of_le (Heap.lt_size q) hp))]; exact n
  there := fun b u q _ => ⟨u, k b u q⟩
  tups := fun b xs q => by rw [upd_ne (ne_of_none q hn)]; exact q
  frzs := fun b u xs q => by rw [upd_ne (ne_of_none q hn)]; exact q
  tbls := fun b ps q => ⟨#[], by rw [upd_ne (ne_of_none q hn), q]; simp⟩
theorem Un.write (mu : Mut (H x)) (he : e = x ∨ H e = some (.own x)) (k : ∀ b u, b ≠ e → h.get? b = some u → h'.get? b = some u) (heo : ∃ u, h'.get? e = some u) : Un fs ex H (upd H x o) h h' := by
  have hx : ∀ b, H b = none → b ≠ x := fun b n z => by subst z; rw [n] at mu; exact mu
  have hb : ∀ b, H b = none → b ≠ e := fun b n z => by
    subst z
    rcases he with r | r
    · exact hx b n r
    · rw [n] at r; cases r
  have hm : ∀ b u, H b = some u → ¬ Mut (some u) → b ≠ x := fun b u q nm z => by subst z; rw [q] at mu; exact nm mu
  refine ⟨fun b u q n _ _ => k b u (hb b n) q, fun b u q n _ _ => ⟨u.slots, k b u (hb b n) q⟩, fun b u q n _ => by rw [upd_ne (hx b n)]; exact n, fun b u q _ => ?_,
    fun b xs q => by rw [upd_ne (hm b _ q fun z => z)]; exact q, fun b u xs q => by rw [upd_ne (hm b _ q fun z => z)]; exact q, fun b ps q => ⟨#[], by rw [upd_ne (hm b _ q fun z => z), q]; simp⟩⟩
  by_cases hbe : b = e
  · subst hbe; exact heo
  · exact ⟨u, k b u hbe q⟩
theorem Un.mono (u : Un fs ex H H1 h h1) (hs : ∀ b ∈ fs, b ∈ fs') (hx : ∀ b ∈ ex, b ∈ ex') : Un fs' ex' H H1 h h1 :=
  ⟨fun b ob q n hb he => u.keep b ob q n (fun z => hb (hs b z)) fun z => he (hx b z), fun _ _ q n _ he => u.any q n fun z => he (hx _ z), fun b ob q n he => u.free b ob q n fun z => he (hx b z), fun b ob q he => u.there b ob q fun z => he (hx b z), u.tups, u.frzs, u.tbls⟩
end

noncomputable def trk (h : Heap) (H : Hp) : List Addr := (List.range h.objs.size).filter fun a => (H a).isSome
noncomputable def hidT (h : Heap) (H : Hp) : Heap := PySem.W.hideAll h (trk h H)
theorem hidT_size (h : Heap) (H : Hp) : (hidT h H).objs.size = h.objs.size := PySem.W.hideAll_size _ _
theorem hidT_get {h : Heap} {H : Hp} {b : Addr} {o : Obj} (e : h.get? b = some o) (n : H b = none) : (hidT h H).get? b = some o :=
  PySem.W.hideAll_get _ e fun hm => by
    have q : (H b).isSome = true := (List.mem_filter.mp hm).2
    rw [n] at q; simp at q
theorem of_hidT {h : Heap} {H : Hp} {b : Addr} {o : Obj} (e : (hidT h H).get? b = some o) : h.get? b = some o ∧ H b = none := by
  have e' : h.get? b = some o := PySem.W.of_hideAll (trk h H) e
  refine ⟨e', ?_⟩
  cases q : H b with
  | none => rfl
  | some x =>
    have hm : b ∈ trk h H := List.mem_filter.mpr ⟨List.mem_range.mpr (Heap.lt_size e'), by simp [q]⟩
    have z : (hidT h H).get? b = none := PySem.W.hideAll_none (trk h H) hm
    rw [z] at e; cases e

noncomputable def allNews (g h : Heap) (L : Addr) : List (Addr × Obj) := (List.range h.objs.size).filterMap fun a => if a = L ∨ (g.get? a).isSome = true then none else (h.get? a).map fun o => (a, o)
noncomputable def rest (g h : Heap) (L d : Addr) : List (Addr × Obj) := (allNews g h L).filter fun p => decide (p.1 ≠ d)
end L2

namespace L2
open PySem PySem.Spec PyProof.Rows

structure Mod (K : PySem.W.Frag) (mg : Str → Option Value) (base : Heap) : Prop where
  kin : K.In base
  glob : base.Ns mainGlobals mg
  blt : ∃ mb, base.Ns builtinsNs mb ∧ ∀ x : Str, x ≠ "__name__" → mb x = bootBuiltins x
  nolimit : base.NoLimit

structure Cx where
  prog : Program
  w : World
  K : PySem.W.Frag
  mg : Str → Option Value
  base : Heap
  A : Around
  N : List Str
  s₀ : Shared
  H₀ : Hp
  env : Env
  outer : List Env
  stack : List Env
  ex : List Addr
  fn : Str → Bool
  calm : Bool
  pn : List (Addr × Obj)
  xe : Value → Shared → Prop
noncomputable def frs (l : List Env) : List Addr := l.filterMap (·.frame)
noncomputable abbrev Cx.fs (X : Cx) : List Addr := frs X.outer

noncomputable def Vis (sc : Scope) (x : Str) : Prop := sc.names.lookup x = some .local ∨ sc.names.lookup x = some .cell ∨ sc.names.lookup x = some .free
noncomputable def Loc (sc : Scope) (x : Str) : Prop := sc.names.lookup x = some .local ∨ sc.names.lookup x = some .cell
noncomputable def Look (env : Env) (h : Heap) (m : Str → Option Value) (x : Str) (u : Value) : Prop :=
  (env.kindOf x = some .local ∧ m x = some u) ∨ ((env.kindOf x = some .cell ∨ env.kindOf x = some .free) ∧ ∃ c, env.cells.lookup x = some c ∧ h.IsCell c (some u))

structure Cx.Ok (X : Cx) : Prop where
  mod : Mod X.K X.mg X.base
  kind : X.env.scope.kind = .function
  glob : X.env.globals = mainGlobals
  blt : X.env.builtins = builtinsNs
  above : X.s₀.heap.objs.size ≤ X.env.locals
  inj : ∀ x y c, X.env.cells.lookup x = some c → X.env.cells.lookup y = some c → x = y
  has : ∀ x, (X.env.kindOf x = some .cell ∨ X.env.kindOf x = some .free) → ∃ c, X.env.cells.lookup x = some c
  cab : ∀ x c, X.fn x = true → X.env.cells.lookup x = some c → X.s₀.heap.objs.size ≤ c
  hd : X.calm = true → X.A.handled = none
  frames : X.A.frames = some X.stack
  stk : X.stack = X.outer ∨ (X.stack = X.env :: X.outer ∧ X.env.frame = some X.env.locals)
  exf : ∀ b ∈ X.ex, b ≠ X.env.locals ∧ ∀ x c, X.env.cells.lookup x = some c → c ≠ b
  bs : ∀ b o, X.base.get? b = some o → X.s₀.heap.get? b = some o ∧ X.H₀ b = none
  bsz : X.base.objs.size ≤ X.s₀.heap.objs.size
  noex : ∀ b o, X.base.get? b = some o → b ∉ X.ex
  exfs : ∀ b ∈ X.ex, b ∉ X.fs
  funs : X.s₀.heap.FunFrames X.base X.outer
  frf : ∀ b ∈ X.fs, X.H₀ b = none

structure Inv (X : Cx) (pins : List (Addr × Obj)) (σ : List (Option V)) (H : Hp) (s : Shared) : Prop where
  ok : X.Ok
  os : s.os = X.s₀.os
  bare : AllBare s.gens
  base : Un X.fs X.ex X.H₀ H X.s₀.heap s.heap
  loc : ∃ m, s.heap.Ns X.env.locals m ∧ ∀ (i : Nat) (x : Str) (v : V), X.N[i]? = some x → σ[i]? = some (some v) → Vis X.env.scope x → ∃ u, RelV v u ∧ Look X.env s.heap m x u
  cell : ∀ x c, X.env.cells.lookup x = some c → ∃ v, s.heap.IsCell c v
  free : H X.env.locals = none
  freeC : ∀ x c, X.env.cells.lookup x = some c → H c = none
  pin : ∀ p ∈ X.pn ++ pins, s.heap.get? p.1 = some p.2 ∧ H p.1 = none ∧ p.1 ≠ X.env.locals ∧ p.1 ∉ X.fs ∧ ∀ v, p.2.data ≠ .cell v
  hok : HOk X.prog X.w H s.heap
  len : σ.length = X.N.length

section
variable {X : Cx} {pins : List (Addr × Obj)} {σ : List (Option V)} {H H' : Hp} {s : Shared} {h' : Heap}

theorem Cx.Ok.nofr (ok : X.Ok) {b : Addr} {o : Obj} (e : X.base.get? b = some o) : b ∉ X.fs := fun hb => by
  have := (ok.funs.mem hb).1
  rw [e] at this; cases this
theorem Inv.bs (I : Inv X pins σ H s) : ∀ b o, X.base.get? b = some o → s.heap.get? b = some o ∧ H b = none := fun b o e =>
  ⟨I.base.keep b o (I.ok.bs b o e).1 (I.ok.bs b o e).2 (I.ok.nofr e) (I.ok.noex b o e), I.base.free b o (I.ok.bs b o e).1 (I.ok.bs b o e).2 (I.ok.noex b o e)⟩
theorem Inv.bk (I : Inv X pins σ H s) : ∀ b o, X.base.get? b = some o → s.heap.get? b = some o := fun b o e => (I.bs b o e).1
theorem Inv.mod (I : Inv X pins σ H s) : Mod X.K X.mg X.base := I.ok.mod
theorem Inv.kIn (I : Inv X pins σ H s) : X.K.In s.heap := I.ok.mod.kin.keeps I.bk
theorem Inv.nolimit (I : Inv X pins σ H s) : s.heap.NoLimit := I.ok.mod.nolimit.keeps I.bk
theorem Inv.fr (I : Inv X pins σ H s) : ∃ m, Fr X.base X.env.locals s.heap m :=
  let ⟨m, hn, _⟩ := I.loc
  ⟨m, hn, I.bk, Nat.le_trans I.ok.bsz I.ok.above⟩
theorem Inv.lt (I : Inv X pins σ H s) : X.env.locals < s.heap.objs.size := let ⟨_, hn, _⟩ := I.loc; hn.lt
theorem Inv.sz (I : Inv X pins σ H s) : X.s₀.heap.objs.size ≤ s.heap.objs.size := Nat.le_trans I.ok.above (Nat.le_of_lt I.lt)
theorem Inv.nofs (I : Inv X pins σ H s) {a : Addr} (h : s.heap.objs.size ≤ a) : a ∉ X.fs := fun hb => by
  obtain ⟨_, o, ho, _⟩ := I.ok.funs.mem hb
  exact absurd (Nat.lt_of_lt_of_le (Heap.lt_size ho) (Nat.le_trans I.sz h)) (Nat.lt_irrefl _)
theorem Inv.cne (I : Inv X pins σ H s) : ∀ x c, X.env.cells.lookup x = some c → c ≠ X.env.locals := fun x c e z => by
  obtain ⟨v, o, ho, hd⟩ := I.cell x c e
  obtain ⟨m, ⟨o', es, ep, ho', hd', _⟩, _⟩ := I.loc
  rw [z, ho'] at ho; cases ho; rw [hd'] at hd; cases hd
theorem Inv.funs (I : Inv X pins σ H s) : s.heap.FunFrames X.base X.outer := by
  have all : ∀ (l : List Env), (∀ b ∈ frs l, b ∈ X.fs) → X.s₀.heap.FunFrames X.base l → s.heap.FunFrames X.base l := by
    intro l
    induction l with
    | nil => intro _ _; trivial
    | cons env r ih =>
      intro hs hl
      obtain ⟨hk, ⟨L, o, hf, hn, ho, hd⟩, hr⟩ := hl
      have hL : L ∈ X.fs := hs L (by unfold frs; rw [List.filterMap_cons, hf]; exact List.mem_cons_self)
      obtain ⟨sl, e⟩ := I.base.slot L o ho (I.ok.frf L hL) hL fun z => I.ok.exfs L z hL
      exact ⟨hk, ⟨L, _, hf, hn, e, hd⟩, ih (fun b hb => hs b (by unfold frs; rw [List.filterMap_cons, hf]; exact List.mem_cons_of_mem _ hb)) hr⟩
  exact all X.outer (fun _ hb => hb) I.ok.funs

theorem Inv.stack (I : Inv X pins σ H s) : s.heap.FunFrames X.base X.stack := by
  rcases I.ok.stk with e | ⟨e, hf⟩
  · rw [e]; exact I.funs
  · rw [e]
    obtain ⟨m, hn, _⟩ := I.loc
    refine .cons (by rw [I.ok.kind]; decide) hf hn ?_ I.funs
    exact Heap.get?_none_of_le (Nat.le_trans I.ok.bsz I.ok.above)
theorem Inv.stkSub (I : Inv X pins σ H s) : ∀ b ∈ frs X.stack, b ∈ X.env.locals :: X.fs := fun b hb => by
  rcases I.ok.stk with e | ⟨e, hf⟩
  · rw [e] at hb; exact List.mem_cons_of_mem _ hb
  · rw [e] at hb
    unfold frs at hb
    rw [List.filterMap_cons, hf] at hb
    exact hb
theorem Inv.stkFree (I : Inv X pins σ H s) : ∀ b ∈ frs X.stack, H b = none := fun b hb => by
  rcases List.mem_cons.mp (I.stkSub b hb) with e | hb
  · rw [e]; exact I.free
  · obtain ⟨_, o, ho, _⟩ := I.ok.funs.mem hb
    exact I.base.free b o ho (I.ok.frf b hb) fun z => I.ok.exfs b z hb

theorem Inv.step {g' : Array GenState} {t' : Nat} {d' : Drawn} {ch : List Addr} (I : Inv X pins σ H s)
    (hch : ∀ b ∈ ch, (b ∈ X.ex ∨ X.s₀.heap.objs.size ≤ b) ∧ b ≠ X.env.locals ∧ (∀ x c, X.env.cells.lookup x = some c → c ≠ b) ∧ ∀ p ∈ X.pn ++ pins, p.1 ≠ b)
    (keep : ∀ b o, b ≠ X.env.locals → b ∉ X.fs → b ∉ ch → s.heap.get? b = some o → H b = none → h'.get? b = some o)
    (slot : ∀ b o, b ≠ X.env.locals → b ∈ X.fs → b ∉ ch → s.heap.get? b = some o → H b = none → ∃ sl, h'.get? b = some { o with slots := sl }) (free : ∀ b o, b ∉ ch → s.heap.get? b = some o → H b = none → H' b = none)
    (there : ∀ b o, b ∉ ch → s.heap.get? b = some o → ∃ o', h'.get? b = some o')
    (tups : ∀ b xs, H b = some (.tup xs) → H' b = some (.tup xs)) (frzs : ∀ b o u, H b = some (.frz o u) → H' b = some (.frz o u)) (tbls : ∀ b ps, H b = some (.tbl ps) → ∃ more, H' b = some (.tbl (ps ++ more)))
    (ns : ∀ m, s.heap.Ns X.env.locals m → h'.Ns X.env.locals m) (hok : HOk X.prog X.w H' h') (hg : AllBare g') :
    Inv X pins σ H' { s with heap := h', gens := g', drawn := d', toks := t' } := by
  have neL : ∀ b o, X.s₀.heap.get? b = some o → b ≠ X.env.locals := fun b o e => Nat.ne_of_lt (Nat.lt_of_lt_of_le (Heap.lt_size e) I.ok.above)
  have neC : ∀ b o, X.s₀.heap.get? b = some o → b ∉ X.ex → b ∉ ch := fun b o e hx hb => by
    rcases (hch b hb).1 with z | z
    · exact hx z
    · exact absurd (Nat.lt_of_lt_of_le (Heap.lt_size e) z) (Nat.lt_irrefl _)
  have cellK : ∀ x c, X.env.cells.lookup x = some c → ∀ v, s.heap.IsCell c v → h'.IsCell c v := fun x c e v ⟨o, ho, hd⟩ => by
    have nch : c ∉ ch := fun z => (hch c z).2.2.1 x c e rfl
    by_cases hc : c ∈ X.fs
    · obtain ⟨sl, q⟩ := slot c o (I.cne x c e) hc nch ho (I.freeC x c e)
      exact ⟨_, q, hd⟩
    · exact ⟨o, keep c o (I.cne x c e) hc nch ho (I.freeC x c e), hd⟩
  refine ⟨I.ok, I.os, hg, ⟨fun b o e n hb hx => ?_, fun b o e n hb hx => ?_, fun b o e n hx => ?_, fun b o e hx => ?_, fun b xs e => tups b xs (I.base.tups b xs e), fun b o xs e => frzs b o xs (I.base.frzs b o xs e), fun b ps e => ?_⟩, ?_, fun x c e => ?_, ?_, fun x c e => ?_, fun p hp => ?_, hok, I.len⟩
  · exact keep b o (neL b o e) hb (neC b o e hx) (I.base.keep b o e n hb hx) (I.base.free b o e n hx)
  · obtain ⟨sl, e1⟩ := I.base.slot b o e n hb hx
    obtain ⟨sl', e2⟩ := slot b _ (neL b o e) hb (neC b o e hx) e1 (I.base.free b o e n hx)
    exact ⟨sl', e2⟩
  · obtain ⟨o', e1⟩ := I.base.there b o e hx
    exact free b o' (neC b o e hx) e1 (I.base.free b o e n hx)
  · obtain ⟨o', e1⟩ := I.base.there b o e hx
    exact there b o' (neC b o e hx) e1
  · obtain ⟨m1, e1⟩ := I.base.tbls b ps e
    obtain ⟨m2, e2⟩ := tbls b _ e1
    exact ⟨m1 ++ m2, by rw [e2, Array.append_assoc]⟩
  · obtain ⟨m, hn, hl⟩ := I.loc
    refine ⟨m, ns m hn, fun i x v e1 e2 e3 => ?_⟩
    obtain ⟨u, r, l⟩ := hl i x v e1 e2 e3
    refine ⟨u, r, ?_⟩
    rcases l with l | ⟨k, c, e, z⟩
    · exact .inl l
    · exact .inr ⟨k, c, e, cellK x c e _ z⟩
  · obtain ⟨v, z⟩ := I.cell x c e
    exact ⟨v, cellK x c e v z⟩
  · obtain ⟨m, ⟨o, _, _, ho, _⟩, _⟩ := I.loc
    exact free _ o (fun z => (hch _ z).2.1 rfl) ho I.free
  · obtain ⟨v, o, ho, hd⟩ := I.cell x c e
    exact free c o (fun z => (hch c z).2.2.1 x c e rfl) ho (I.freeC x c e)
  · obtain ⟨e, n, ne, nf, d⟩ := I.pin p hp
    have nch : p.1 ∉ ch := fun z => (hch p.1 z).2.2.2 p hp rfl
    exact ⟨keep p.1 p.2 ne nf nch e n, free p.1 p.2 nch e n, ne, nf, d⟩
theorem Inv.un {t' : Nat} (I : Inv X pins σ H s) (u : Un X.fs [] H H' s.heap h') (hok : HOk X.prog X.w H' h') : Inv X pins σ H' { s with heap := h', toks := t' } := by
  obtain ⟨m, ⟨o, es, ep, ho, r⟩, _⟩ := id I.loc
  obtain ⟨sl, hL⟩ := u.any ho I.free (by simp)
  exact I.step (g' := s.gens) (d' := s.drawn) (ch := []) (fun _ z => nomatch z) (fun b o _ hb _ e n => u.keep b o e n hb (by simp)) (fun b o _ hb _ e n => u.slot b o e n hb (by simp)) (fun b o _ e n => u.free b o e n (by simp)) (fun b o _ e => u.there b o e (by simp)) u.tups u.frzs u.tbls (fun m' hm => by
    obtain ⟨o', es', ep', ho', r'⟩ := hm
    rw [ho] at ho'; cases ho'
    exact ⟨_, es', ep', hL, r'⟩) hok I.bare
theorem Inv.call {g' : Array GenState} {t' : Nat} {d' : Drawn} {ch : List Addr} (I : Inv X pins σ H s) (u : Un (frs X.stack) ch H H' s.heap h') (hok : HOk X.prog X.w H' h') (hg : AllBare g')
    (hch : ∀ b ∈ ch, (b ∈ X.ex ∨ X.s₀.heap.objs.size ≤ b) ∧ b ≠ X.env.locals ∧ (∀ x c, X.env.cells.lookup x = some c → c ≠ b) ∧ ∀ p ∈ X.pn ++ pins, p.1 ≠ b) :
    Inv X pins σ H' { s with heap := h', gens := g', drawn := d', toks := t' } := by
  obtain ⟨m, ⟨o, es, ep, ho, r⟩, _⟩ := id I.loc
  obtain ⟨sl, hL⟩ := u.any ho I.free fun z => (hch _ z).2.1 rfl
  exact I.step (ch := ch) hch (fun b o hL hb hc e n => u.keep b o e n (fun z => (List.mem_cons.mp (I.stkSub b z)).elim hL hb) hc) (fun b o _ _ hc e n => u.any e n hc) (fun b o hc e n => u.free b o e n hc) (fun b o hc e => u.there b o e hc) u.tups u.frzs u.tbls (fun m' hm => by
    obtain ⟨o', es', ep', ho', r'⟩ := hm
    rw [ho] at ho'; cases ho'
    exact ⟨_, es', ep', hL, r'⟩) hok hg
theorem Inv.turned {t' : Nat} {it : Addr} (I : Inv X pins σ H s) (k : ∀ b o, b ≠ it → s.heap.get? b = some o → h'.get? b = some o) (hn : H it = none) (hL : it ≠ X.env.locals)
    (h1 : it ∈ X.ex ∨ X.s₀.heap.objs.size ≤ it) (h2 : ∀ x c, X.env.cells.lookup x = some c → c ≠ it) (h3 : ∀ p ∈ X.pn ++ pins, p.1 ≠ it) : Inv X pins σ H { s with heap := h', toks := t' } := by
  have nit : ∀ b u, H b = some u → b ≠ it := fun b u e z => by rw [z, hn] at e; cases e
  refine I.step (g' := s.gens) (d' := s.drawn) (ch := [it]) (fun b hb => ?_) (fun b o _ _ hc e _ => k b o (fun z => hc (by simp [z])) e) (fun b o _ _ hc e _ => ⟨o.slots, k b o (fun z => hc (by simp [z])) e⟩) (fun _ _ _ _ n => n)
    (fun b o hc e => ⟨o, k b o (fun z => hc (by simp [z])) e⟩) (fun _ _ e => e) (fun _ _ _ e => e) (fun b ps e => ⟨#[], by rw [e]; simp⟩) (fun m hm => ?_) (fun b u e => ?_) I.bare
  · have e : b = it := by simpa using hb
    subst e
    exact ⟨h1, hL, h2, h3⟩
  · obtain ⟨o, es, ep, ho, r⟩ := hm
    exact ⟨o, es, ep, k _ o (Ne.symm hL) ho, r⟩
  · refine (I.hok b u e).stay (fun c v hc q => k c v ?_ q) (fun _ q => q) fun _ _ q => q
    rcases hc with z | z
    · rw [z]; exact nit b u e
    · exact nit c _ z
theorem Inv.tok (I : Inv X pins σ H s) (t : Nat) : Inv X pins σ H { s with toks := t } := I.un (h' := s.heap) (t' := t) Un.refl I.hok
theorem Inv.kept {t' : Nat} (I : Inv X pins σ H s) (k : ∀ b u, s.heap.get? b = some u → h'.get? b = some u) : Inv X pins σ H { s with heap := h', toks := t' } := I.un (Un.kept k) (I.hok.kept k)
theorem Inv.laid {a : Addr} {o : HO} {t' : Nat} (I : Inv X pins σ H s) (k : ∀ b u, s.heap.get? b = some u → h'.get? b = some u) (hp : s.heap.objs.size ≤ a) (new : ObjOk X.prog X.w (upd H a o) h' a o) :
    Inv X pins σ (upd H a o) { s with heap := h', toks := t' } := I.un (Un.laid k hp (I.hok.fresh hp)) (I.hok.laid k hp new)
theorem Inv.write {x e : Addr} {o : HO} {t' : Nat} (I : Inv X pins σ H s) (mu : Mut (H x)) (he : e = x ∨ H e = some (.own x)) (k : ∀ b u, b ≠ e → s.heap.get? b = some u → h'.get? b = some u) (heo : ∃ u, h'.get? e = some u)
    (new : ObjOk X.prog X.w (upd H x o) h' x o) : Inv X pins σ (upd H x o) { s with heap := h', toks := t' } := I.un (Un.write mu he k heo) (I.hok.write mu he k heo new)
theorem Inv.weak {σ' : List (Option V)} (I : Inv X pins σ H s) (hl : σ'.length = σ.length) (w : ∀ (i : Nat) v, σ'[i]? = some (some v) → σ[i]? = some (some v)) : Inv X pins σ' H s :=
  ⟨I.ok, I.os, I.bare, I.base, let ⟨m, hn, hl'⟩ := I.loc; ⟨m, hn, fun i x v e1 e2 e3 => hl' i x v e1 (w i v e2) e3⟩, I.cell, I.free, I.freeC, I.pin, I.hok, hl.trans I.len⟩
theorem Inv.pins_of {pins' : List (Addr × Obj)} (I : Inv X pins σ H s) (h : ∀ p ∈ pins', s.heap.get? p.1 = some p.2 ∧ H p.1 = none ∧ p.1 ≠ X.env.locals ∧ p.1 ∉ X.fs ∧ ∀ v, p.2.data ≠ .cell v) : Inv X pins' σ H s :=
  ⟨I.ok, I.os, I.bare, I.base, I.loc, I.cell, I.free, I.freeC, fun p hp => (List.mem_append.mp hp).elim (fun z => I.pin p (List.mem_append_left _ z)) (h p), I.hok, I.len⟩

theorem nodup_ix {N : List Str} (hN : N.Nodup) {i j : Nat} {x : Str} (a : N[i]? = some x) (b : N[j]? = some x) : i = j := by
  obtain ⟨h1, e1⟩ := List.getElem?_eq_some_iff.mp a
  obtain ⟨h2, e2⟩ := List.getElem?_eq_some_iff.mp b
  exact (List.getElem_inj hN).mp (e1.trans e2.symm)

theorem store_ok2 {M : Model} {A : Around} {E : Value → Shared → Prop} {i : Nat} {x : Str} {v : V} {u : Value} {Q : Unit → Shared → Prop} (I : Inv X pins σ H s) (hN : X.N.Nodup) (hi : X.N[i]? = some x) (hx : Loc X.env.scope x) (r : RelV v u)
    (h : ∀ s', Inv X pins (σ.set i (some v)) H s' → (∃ a, Heap.SameBut a s.heap s'.heap ∧ (a = X.env.locals ∨ X.env.cells.lookup x = some a)) → Q () s') (hf : X.fn x = true ∨ X.env.scope.names.lookup x = some .local := by first | exact .inl rfl | exact .inr rfl | assumption) : wpAny M A (storeName X.env x u) Q E s := by
  obtain ⟨m, hn, hl⟩ := id I.loc
  have hcls : (X.env.scope.kind == .class || (X.env.scope.kind == .module && X.env.locals != X.env.globals)) = false := by rw [I.ok.kind]; rfl
  have hiσ : i < σ.length := by rw [I.len]; exact (List.getElem?_eq_some_iff.mp hi).1
  have cne := I.cne
  have tracked : ∀ {a : Addr} {h' : Heap}, (∃ o, s.heap.get? a = some o ∧ H a = none) → Heap.SameBut a s.heap h' → HOk X.prog X.w H h' := fun {a h'} ha hs b ob e => by
    obtain ⟨_, _, hfree⟩ := ha
    refine (I.hok b ob e).stay (fun c w' hc q => (hs.2 c ?_).trans q) (fun _ q => q) fun _ _ q => q
    rintro rfl
    rcases hc with rfl | hc
    · rw [hfree] at e; cases e
    · rw [hfree] at hc; cases hc
  rcases hx with hk | hk
  · refine wpAny_storeName_local hk hn (fun h' hn' hs => ?_) hcls
    obtain ⟨oL, _, _, hoL, _⟩ := id hn
    refine h _ ⟨I.ok, I.os, I.bare, ⟨fun b o e n hb hx => ?_, fun b o e n hb hx => ?_, I.base.free, fun b o e hx => ?_, I.base.tups, I.base.frzs, I.base.tbls⟩, ⟨_, hn', fun j y v' e1 e2 e3 => ?_⟩, fun y c e => ?_, I.free, I.freeC, fun p hp => ?_, tracked ⟨oL, hoL, I.free⟩ hs, by simpa using I.len⟩ ⟨_, hs, .inl rfl⟩
    · exact (hs.2 b (Nat.ne_of_lt (Nat.lt_of_lt_of_le (Heap.lt_size e) I.ok.above))).trans (I.base.keep b o e n hb hx)
    · obtain ⟨sl, e1⟩ := I.base.slot b o e n hb hx
      exact ⟨sl, (hs.2 b (Nat.ne_of_lt (Nat.lt_of_lt_of_le (Heap.lt_size e) I.ok.above))).trans e1⟩
    · obtain ⟨o', e1⟩ := I.base.there b o e hx
      exact ⟨o', (hs.2 b (Nat.ne_of_lt (Nat.lt_of_lt_of_le (Heap.lt_size e) I.ok.above))).trans e1⟩
    · by_cases hj : j = i
      · subst hj
        rw [hi] at e1; cases e1
        rw [List.getElem?_set_self hiσ] at e2
        cases e2
        exact ⟨u, r, .inl ⟨hk, by simp⟩⟩
      · rw [List.getElem?_set_ne (Ne.symm hj)] at e2
        obtain ⟨u', r', q⟩ := hl j y v' e1 e2 e3
        refine ⟨u', r', ?_⟩
        rcases q with ⟨k, e⟩ | ⟨k, c, e, z⟩
        · refine .inl ⟨k, ?_⟩
          have : y ≠ x := fun e => hj (nodup_ix hN e1 (e ▸ hi))
          simp [this, e]
        · exact .inr ⟨k, c, e, z.sameBut hs (cne y c e)⟩
    · obtain ⟨w', z⟩ := I.cell y c e
      exact ⟨w', z.sameBut hs (cne y c e)⟩
    · obtain ⟨e, n, ne, nf, d⟩ := I.pin p hp
      exact ⟨(hs.2 p.1 ne).trans e, n, ne, nf, d⟩
  · have hfn : X.fn x = true := by
      rcases hf with z | z
      · exact z
      · rw [z] at hk; cases hk
    obtain ⟨c, hc⟩ := I.ok.has x (.inl hk)
    obtain ⟨w', z⟩ := I.cell x c hc
    refine wpAny_storeName_cell I.ok.kind hk hc z (fun h' hc' hs => ?_)
    obtain ⟨oc, hoc, hocd⟩ := id z
    refine h { s with heap := h' } ⟨I.ok, I.os, I.bare, ⟨fun b o e n hb hx => ?_, fun b o e n hb hx => ?_, I.base.free, fun b o e hx => ?_, I.base.tups, I.base.frzs, I.base.tbls⟩, ⟨m, hn.sameBut hs (Ne.symm (cne x c hc)), fun j y v' e1 e2 e3 => ?_⟩, fun y c' e => ?_, I.free, I.freeC, fun p hp => ?_, tracked ⟨oc, hoc, I.freeC x c hc⟩ hs, by simpa using I.len⟩ ⟨c, hs, .inr hc⟩
    · exact (hs.2 b (Nat.ne_of_lt (Nat.lt_of_lt_of_le (Heap.lt_size e) (I.ok.cab x c hfn hc)))).trans (I.base.keep b o e n hb hx)
    · obtain ⟨sl, e1⟩ := I.base.slot b o e n hb hx
      exact ⟨sl, (hs.2 b (Nat.ne_of_lt (Nat.lt_of_lt_of_le (Heap.lt_size e) (I.ok.cab x c hfn hc)))).trans e1⟩
    · obtain ⟨o', e1⟩ := I.base.there b o e hx
      exact ⟨o', (hs.2 b (Nat.ne_of_lt (Nat.lt_of_lt_of_le (Heap.lt_size e) (I.ok.cab x c hfn hc)))).trans e1⟩
    · by_cases hj : j = i
      · subst hj
        rw [hi] at e1; cases e1
        rw [List.getElem?_set_self hiσ] at e2
        cases e2
        exact ⟨u, r, .inr ⟨.inl hk, c, hc, hc'⟩⟩
      · rw [List.getElem?_set_ne (Ne.symm hj)] at e2
        obtain ⟨u', r', q⟩ := hl j y v' e1 e2 e3
        refine ⟨u', r', ?_⟩
        rcases q with q | ⟨k, c', e, z'⟩
        · exact .inl q
        · refine .inr ⟨k, c', e, z'.sameBut hs ?_⟩
          rintro rfl
          exact hj (nodup_ix hN e1 (I.ok.inj _ _ _ e hc ▸ hi))
    · by_cases hcc : c' = c
      · subst hcc; exact ⟨_, hc'⟩
      · obtain ⟨w2, z2⟩ := I.cell y c' e
        exact ⟨w2, z2.sameBut hs hcc⟩
    · obtain ⟨e, n, ne, nf, d⟩ := I.pin p hp
      refine ⟨(hs.2 p.1 ?_).trans e, n, ne, nf, d⟩
      intro q
      rw [q, hoc] at e
      have q' : oc = p.2 := Option.some.inj e
      exact d w' (by rw [← q']; exact hocd)
theorem store_ok {M : Model} {A : Around} {E : Value → Shared → Prop} {i : Nat} {x : Str} {v : V} {u : Value} {Q : Unit → Shared → Prop} (I : Inv X pins σ H s) (hN : X.N.Nodup) (hi : X.N[i]? = some x) (hx : Loc X.env.scope x) (r : RelV v u)
    (h : ∀ s', Inv X pins (σ.set i (some v)) H s' → Q () s') (hf : X.fn x = true ∨ X.env.scope.names.lookup x = some .local := by first | exact .inl rfl | exact .inr rfl | assumption) : wpAny M A (storeName X.env x u) Q E s :=
  store_ok2 I hN hi hx r (fun s' I' _ => h s' I') hf
theorem Inv.call' {s' : Shared} {ch : List Addr} (I : Inv X pins σ H s) (ho : s'.os = s.os) (u : Un (frs X.stack) ch H H' s.heap s'.heap) (hok : HOk X.prog X.w H' s'.heap) (hg : AllBare s'.gens)
    (hch : ∀ b ∈ ch, (b ∈ X.ex ∨ X.s₀.heap.objs.size ≤ b) ∧ b ≠ X.env.locals ∧ (∀ x c, X.env.cells.lookup x = some c → c ≠ b) ∧ ∀ p ∈ X.pn ++ pins, p.1 ≠ b) : Inv X pins σ H' s' := by
  obtain ⟨h', g', d', t', o'⟩ := s'
  have e : o' = s.os := ho
  subst e
  exact I.call (g' := g') (t' := t') (d' := d') u hok hg hch
end

noncomputable abbrev XK := Value → Option Addr → Hp → Prop
noncomputable abbrev St := List (Option V)
noncomputable abbrev VK := V → Hp → Prop
noncomputable abbrev TE := St → Hp → VK → Prop
noncomputable abbrev TT := St → Hp → (Bool → Hp → Prop) → Prop
noncomputable abbrev TA := St → Hp → (List V → Hp → Prop) → Prop
structure Ends where
  nx : St → Hp → Prop
  rt : VK
  bk : St → Hp → Prop := fun _ _ => False
  ct : St → Hp → Prop := fun _ _ => False
noncomputable abbrev TS := Ends → St → Hp → Prop

noncomputable def EP (X : Cx) (pins : List (Addr × Obj)) (σ : St) (Q : VK) (u : Value) (s' : Shared) : Prop := ∃ v H', Inv X pins σ H' s' ∧ RelV v u ∧ Q v H'
noncomputable def TP (X : Cx) (pins : List (Addr × Obj)) (σ : St) (Q : Bool → Hp → Prop) (b : Bool) (s' : Shared) : Prop := ∃ H', Inv X pins σ H' s' ∧ Q b H'
noncomputable def AP (X : Cx) (pins : List (Addr × Obj)) (σ : St) (Q : List V → Hp → Prop) (us : List Value) (s' : Shared) : Prop := ∃ vs H', Inv X pins σ H' s' ∧ Vals vs us ∧ Q vs H'
noncomputable def SP (X : Cx) (pins : List (Addr × Obj)) (D : Ends) (f : Flow) (s' : Shared) : Prop :=
  match f with
  | .next => ∃ σ' H', Inv X pins σ' H' s' ∧ D.nx σ' H'
  | .brk => ∃ σ' H', Inv X pins σ' H' s' ∧ D.bk σ' H'
  | .cont => ∃ σ' H', Inv X pins σ' H' s' ∧ D.ct σ' H'
  | .ret u => ∃ v σ' H', Inv X pins σ' H' s' ∧ RelV v u ∧ D.rt v H'

noncomputable def PE (X : Cx) (e : Expr) (t : TE) : Prop :=
  ∀ (pins : List (Addr × Obj)) (s : Shared) (σ : St) (H : Hp) (Q : VK), Inv X pins σ H s → t σ H Q → wpAny (model X.prog X.w) X.A (eval e X.env) (EP X pins σ Q) X.xe s
noncomputable def PT (X : Cx) (e : Expr) (t : TT) : Prop :=
  ∀ (pins : List (Addr × Obj)) (s : Shared) (σ : St) (H : Hp) (Q : Bool → Hp → Prop), Inv X pins σ H s → t σ H Q → wpAny (model X.prog X.w) X.A (isTrue e X.env (eval e X.env)) (TP X pins σ Q) X.xe s
noncomputable def PW (X : Cx) (e : Expr) (t : TT) : Prop :=
  ∀ (whole : Sem Value) (pins : List (Addr × Obj)) (s : Shared) (σ : St) (H : Hp) (Q : Bool → Hp → Prop), Inv X pins σ H s → t σ H Q → wpAny (model X.prog X.w) X.A (isTrue e X.env whole) (TP X pins σ Q) X.xe s
theorem PW.pt {X : Cx} {e : Expr} {t : TT} (h : PW X e t) : PT X e t := h _
noncomputable def PA (X : Cx) (es : List Expr) (t : TA) : Prop :=
  ∀ (pos : Pos) (pins : List (Addr × Obj)) (s : Shared) (σ : St) (H : Hp) (Q : List V → Hp → Prop), Inv X pins σ H s → t σ H Q → wpAny (model X.prog X.w) X.A (spliced (backTo pos (starEach es X.env))) (AP X pins σ Q) X.xe s
noncomputable def PS (X : Cx) (st : Stmt) (t : TS) : Prop :=
  ∀ (pins : List (Addr × Obj)) (s : Shared) (σ : St) (H : Hp) (D : Ends), Inv X pins σ H s → t D σ H → wpAny (model X.prog X.w) X.A (exec st X.env) (SP X pins D) X.xe s
noncomputable def PSs (X : Cx) (st : List Stmt) (t : TS) : Prop :=
  ∀ (pins : List (Addr × Obj)) (s : Shared) (σ : St) (H : Hp) (D : Ends), Inv X pins σ H s → t D σ H → wpAny (model X.prog X.w) X.A (execs st X.env) (SP X pins D) X.xe s
theorem thn {α : Type} {t : Sem α} {Q Q' : α → Shared → Prop} {M : Model} {A : Around} {E : Value → Shared → Prop} {s : Shared} (h : wpAny M A t Q E s) (hQ : ∀ a s, Q a s → Q' a s) : wpAny M A t Q' E s := wpAny_mono h hQ fun _ _ x => x
end L2

namespace L2
open PySem PySem.Spec PyProof.Rows
section
variable {X : Cx}

noncomputable def tVar (i : Nat) : TE := fun σ H Q => ∃ v, σ[i]? = some (some v) ∧ Q v H
noncomputable def tC (v : V) : TE := fun _ H Q => Q v H
theorem pe_var {i : Nat} {x : Str} {pos : Pos} (hN : X.N[i]? = some x) (hv : Vis X.env.scope x) (hd : (x == ("__debug__" : Str)) = false := by decide) (hcd : (x == ("__classdict__" : Str)) = false := by decide) : PE X (.Name x pos) (tVar i) := by
  intro pins s σ H Q I h
  obtain ⟨v, e, h⟩ := h
  obtain ⟨m, hn, hl⟩ := I.loc
  obtain ⟨u, r, l⟩ := hl i x v hN e hv
  have fin : EP X pins σ Q u s := ⟨v, H, I, r, h⟩
  rcases l with ⟨hk, hm⟩ | ⟨hk, c, hc, hcell⟩
  · exact wpAny_Name (wpAny_loadName_local I.ok.kind hk hn hm fin) hd
  · rcases hk with hk | hk
    · exact wpAny_Name (wpAny_loadName_cell I.ok.kind hk hc hcell fin) hd
    · exact wpAny_Name (wpAny_loadName_free I.ok.kind hk hc hcell fin hcd) hd
theorem pe_int {i j pos} : PE X (.Constant (.int i) j pos) (tC (.int i)) := fun _ _ _ H _ I h => wpAny_Constant_int ⟨.int i, H, I.tok _, ⟨_, rfl⟩, h⟩
theorem pe_bl {b j pos} : PE X (.Constant (.bool b) j pos) (tC (.bl b)) := fun _ _ _ H _ I h => Constant_bool ⟨.bl b, H, I, rfl, h⟩
theorem pe_non {j pos} : PE X (.Constant .none j pos) (tC .non) := fun _ _ _ H _ I h => Constant_none ⟨.non, H, I, rfl, h⟩
theorem pe_str {x j pos} : PE X (.Constant (.str x) j pos) (tC (.str x)) := fun _ _ _ H _ I h => Calls.Constant_str ⟨.str x, H, I.tok _, ⟨_, rfl⟩, h⟩

noncomputable def Gl (X : Cx) (x : Str) : Prop := X.env.kindOf x = some .globalImplicit
theorem ld_glob {E : Value → Shared → Prop} {pins : List (Addr × Obj)} {s : Shared} {σ : St} {H : Hp} {x : Str} {u : Value} {pos : Pos} {Q : Value → Shared → Prop} (I : Inv X pins σ H s) (hg : Gl X x) (hm : X.mg x = some u) (h : Q u s)
    (hd : (x == ("__debug__" : Str)) = false := by decide) : wpAny (model X.prog X.w) X.A (eval (.Name x pos) X.env) Q E s :=
  Calls.Name_function_global I.ok.kind hg (Calls.loadGlobal_global (by rw [I.ok.glob]; exact I.mod.glob.keeps I.bk) hm h) hd
theorem ld_blt {E : Value → Shared → Prop} {pins : List (Addr × Obj)} {s : Shared} {σ : St} {H : Hp} {x : Str} {u : Value} {pos : Pos} {Q : Value → Shared → Prop} (I : Inv X pins σ H s) (hg : Gl X x) (hm : X.mg x = none) (hv : bootBuiltins x = some u) (h : Q u s)
    (hn : x ≠ "__name__" := by decide) (hd : (x == ("__debug__" : Str)) = false := by decide) : wpAny (model X.prog X.w) X.A (eval (.Name x pos) X.env) Q E s := by
  obtain ⟨mb, h1, h2⟩ := I.mod.blt
  exact Calls.Name_function_global I.ok.kind hg (Calls.loadGlobal_builtin (by rw [I.ok.glob]; exact I.mod.glob.keeps I.bk) hm (by rw [I.ok.blt]; exact h1.keeps I.bk) ((h2 x hn).trans hv) h) hd
theorem pe_glob {x : Str} {v : V} {u : Value} {pos : Pos} (hg : Gl X x) (hm : X.mg x = some u) (r : RelV v u) (hd : (x == ("__debug__" : Str)) = false := by decide) : PE X (.Name x pos) (tC v) :=
  fun _ _ _ H _ I h => ld_glob I hg hm ⟨v, H, I, r, h⟩ hd
theorem pe_bltn {x : Str} {v : V} {u : Value} {pos : Pos} (hg : Gl X x) (hm : X.mg x = none) (hv : bootBuiltins x = some u) (r : RelV v u) (hn : x ≠ "__name__" := by decide) (hd : (x == ("__debug__" : Str)) = false := by decide) : PE X (.Name x pos) (tC v) :=
  fun _ _ _ H _ I h => ld_blt I hg hm hv ⟨v, H, I, r, h⟩ hn hd

variable {a b : Expr} {ta tb : TE} {pos : Pos}
noncomputable def tB (t : TE) : TT := fun σ H Q => t σ H fun x H1 => ∃ c, x = .bl c ∧ Q c H1
theorem pt_val {e : Expr} {t : TE} (h : PE X e t) (he : ∀ whole, isTrue e X.env whole = (do let v ← whole; standAt e.pos; holding [v] (truthy v)) := by intro _; rfl) : PT X e (tB t) := by
  intro pins s σ H Q I hw
  refine isTrue_plain (thn (h pins s σ H _ I hw) fun v s1 ⟨x, H1, I1, r1, q1⟩ => ?_) (he _)
  obtain ⟨d, rfl, q⟩ := q1
  cases r1
  exact wpAny_truthy_bool ⟨H1, I1, q⟩

variable {tA tB' : TT} {rest : List Expr}
noncomputable def tAnd (t u : TT) : TT := fun σ H Q => t σ H fun c H1 => if c = true then u σ H1 Q else Q false H1
noncomputable def tOr (t u : TT) : TT := fun σ H Q => t σ H fun c H1 => if c = true then Q true H1 else u σ H1 Q
noncomputable def tNot (t : TT) : TT := fun σ H Q => t σ H fun c H1 => Q (!c) H1
theorem pw_and1 (ha : PT X a tA) : PW X (.BoolOp .And [a] pos) tA := by
  intro wh pins s σ H Q I h
  refine isTrue_and (thn (ha pins s σ H Q I h) fun c s1 e => ?_)
  cases c with
  | true => exact isTrue_and_nil e
  | false => exact e
theorem pw_or1 (ha : PT X a tA) : PW X (.BoolOp .Or [a] pos) tA := by
  intro wh pins s σ H Q I h
  refine isTrue_or (thn (ha pins s σ H Q I h) fun c s1 e => ?_)
  cases c with
  | false => exact isTrue_or_nil e
  | true => exact e
theorem pw_and (ha : PT X a tA) (hb : PW X (.BoolOp .And (b :: rest) pos) tB') : PW X (.BoolOp .And (a :: b :: rest) pos) (tAnd tA tB') := by
  intro wh pins s σ H Q I h
  refine isTrue_and (thn (ha pins s σ H _ I h) fun c s1 ⟨H1, I1, q1⟩ => ?_)
  cases c with
  | true => exact hb wh pins s1 σ H1 Q I1 q1
  | false => exact ⟨H1, I1, q1⟩
theorem pw_or (ha : PT X a tA) (hb : PW X (.BoolOp .Or (b :: rest) pos) tB') : PW X (.BoolOp .Or (a :: b :: rest) pos) (tOr tA tB') := by
  intro wh pins s σ H Q I h
  refine isTrue_or (thn (ha pins s σ H _ I h) fun c s1 ⟨H1, I1, q1⟩ => ?_)
  cases c with
  | true => exact ⟨H1, I1, q1⟩
  | false => exact hb wh pins s1 σ H1 Q I1 q1
theorem pt_not (ha : PT X a tA) : PT X (.UnaryOp .Not a pos) (tNot tA) := by
  intro pins s σ H Q I h
  exact isTrue_not (ha pins s σ H (fun c H1 => Q (!c) H1) I h)
noncomputable def tAndV (ta tb : TE) : TE := fun σ H Q => ta σ H fun x H1 => ∃ c, x = .bl c ∧ if c = true then tb σ H1 Q else Q (.bl false) H1
theorem pe_one {op} {t : TE} (h : PE X a t) : PE X (.BoolOp op [a] pos) t := fun pins s σ H Q I hw => BoolOp_one (h pins s σ H Q I hw)
theorem pe_and (ha : PE X a ta) (hb : PE X (.BoolOp .And (b :: rest) pos) tb) : PE X (.BoolOp .And (a :: b :: rest) pos) (tAndV ta tb) := by
  intro pins s σ H Q I h
  refine BoolOp_and (thn (ha pins s σ H _ I h) fun v s1 ⟨x, H1, I1, r1, q1⟩ => ?_)
  obtain ⟨c, rfl, q1⟩ := q1
  cases r1
  refine wpAny_truthy_bool ?_
  cases c with
  | true => exact hb pins s1 σ H1 Q I1 q1
  | false => exact ⟨.bl false, H1, I1, rfl, q1⟩
noncomputable def tIf (t : TT) (ta tb : TE) : TE := fun σ H Q => t σ H fun c H1 => if c = true then ta σ H1 Q else tb σ H1 Q
theorem pe_ifExp {c : Expr} (hc : PT X c tA) (ha : PE X a ta) (hb : PE X b tb) : PE X (.IfExp c a b pos) (tIf tA ta tb) := by
  intro pins s σ H Q I h
  refine wpAny_IfExp (thn (hc pins s σ H _ I h) fun d s1 ⟨H1, I1, q1⟩ => ?_)
  cases d with
  | true => exact ha pins s1 σ H1 Q I1 q1
  | false => exact hb pins s1 σ H1 Q I1 q1
end
end L2

namespace L2
open PySem PySem.Spec PyProof.Rows

noncomputable def SqL (K : PySem.W.Frag) (H : Hp) (a : Addr) (xs : List V) : Prop :=
  Rd H a (.lst xs) ∨
    ∃ (o : Obj) (its : Array Value) (n : Nat), K.lookup a = some o ∧ o.cls = .type "list" ∧ o.dict = none ∧ o.data = .seq its n ∧ its.size ≤ sizeLine ∧ Vals xs its.toList
noncomputable def SqT (K : PySem.W.Frag) (H : Hp) (a : Addr) (xs : List V) : Prop :=
  Rd H a (.tup xs) ∨
    ∃ (o : Obj) (its : Array Value) (n : Nat), K.lookup a = some o ∧ o.cls = .type "tuple" ∧ o.data = .seq its n ∧ its.size ≤ sizeLine ∧ Vals xs its.toList
noncomputable def absV : Value → Option V
  | .none => some .non
  | .bool b => some (.bl b)
  | .int i _ => some (.int i)
  | .str x _ => some (.str x)
  | .bytes b _ => some (.byt b)
  | .float b _ => some (.flt b)
  | .ref a => some (.ref a)
  | .type n => some (.ty n)
  | _ => none
theorem RelV.abs {x : V} {u : Value} (r : RelV x u) : absV u = some x := by
  cases x with
  | non => cases r; rfl
  | bl _ => cases r; rfl
  | int _ => obtain ⟨t, rfl⟩ := r; rfl
  | str _ => obtain ⟨t, rfl⟩ := r; rfl
  | byt _ => obtain ⟨t, rfl⟩ := r; rfl
  | flt _ => obtain ⟨t, rfl⟩ := r; rfl
  | ref _ => cases r; rfl
  | ty _ => cases r; rfl
theorem RelV.inj {x y : V} {u : Value} (r : RelV x u) (q : RelV y u) : x = y := Option.some.inj (r.abs.symm.trans q.abs)
theorem Vals.inj : ∀ {xs ys : List V} {us : List Value}, Vals xs us → Vals ys us → xs = ys
  | _, _, _, .nil, .nil => rfl
  | _, _, _, .cons r t, .cons r' t' => by rw [r.inj r', Vals.inj t t']
section
variable {X : Cx} {pins : List (Addr × Obj)} {σ : St} {H : Hp} {s : Shared} {a : Addr} {xs ys : List V}
theorem SqL.of {K : PySem.W.Frag} (h : H a = some (.lst xs)) : SqL K H a xs := .inl (.inl h)
theorem SqT.of {K : PySem.W.Frag} (h : H a = some (.tup xs)) : SqT K H a xs := .inl (.inl h)
theorem Inv.list (I : Inv X pins σ H s) (h : SqL X.K H a xs) : ∃ its : List Value, Vals xs its ∧ PlainL s.heap a its.toArray ∧ xs.length ≤ sizeLine := by
  rcases h with h | ⟨o, its, n, hk, hc, hd, hs, hz, r⟩
  · obtain ⟨z, its, n, r, e⟩ := h.ok I.hok
    exact ⟨its, r, ⟨_, n, e, rfl, rfl, rfl⟩, z⟩
  · refine ⟨its.toList, r, ⟨o, n, I.kIn a o hk, hc, hd, by simpa using hs⟩, ?_⟩
    have e := r.length
    simp only [Array.length_toList] at e
    omega
theorem Inv.tuple (I : Inv X pins σ H s) (h : SqT X.K H a xs) : ∃ its : List Value, Vals xs its ∧ IsTup s.heap a its.toArray ∧ xs.length ≤ sizeLine := by
  rcases h with h | ⟨o, its, n, hk, hc, hs, hz, r⟩
  · obtain ⟨z, its, r, p⟩ := h.ok I.hok
    exact ⟨its, r, p, z⟩
  · refine ⟨its.toList, r, ⟨o, I.kIn a o hk, hc, n, by simpa using hs⟩, ?_⟩
    have e := r.length
    simp only [Array.length_toList] at e
    omega
theorem Inv.list_inj (I : Inv X pins σ H s) (h : SqL X.K H a xs) (h' : SqL X.K H a ys) : xs = ys := by
  obtain ⟨its, r, ⟨o, n, e, _, _, d⟩, _⟩ := I.list h
  obtain ⟨its', r', ⟨o', n', e', _, _, d'⟩, _⟩ := I.list h'
  rw [e] at e'; cases e'
  rw [d] at d'
  injection d' with d1 _
  have : its = its' := by simpa using congrArg Array.toList d1
  subst this
  exact r.inj r'
theorem Inv.tuple_inj (I : Inv X pins σ H s) (h : SqT X.K H a xs) (h' : SqT X.K H a ys) : xs = ys := by
  obtain ⟨its, r, ⟨o, e, _, n, d⟩, _⟩ := I.tuple h
  obtain ⟨its', r', ⟨o', e', _, n', d'⟩, _⟩ := I.tuple h'
  rw [e] at e'; cases e'
  rw [d] at d'
  injection d' with d1 _
  have : its = its' := by simpa using congrArg Array.toList d1
  subst this
  exact r.inj r'
end

noncomputable abbrev Cx.wish (X : Cx) (E : Value → Shared → Prop) : Cx := { X with xe := E }
noncomputable abbrev Cx.nox (X : Cx) : Cx := X.wish fun _ _ => False
theorem Cx.Ok.wish {X : Cx} (ok : X.Ok) (E : Value → Shared → Prop) : (X.wish E).Ok :=
  ⟨ok.mod, ok.kind, ok.glob, ok.blt, ok.above, ok.inj, ok.has, ok.cab, ok.hd, ok.frames, ok.stk, ok.exf, ok.bs, ok.bsz, ok.noex, ok.exfs, ok.funs, ok.frf⟩
theorem Cx.Ok.unwish {X : Cx} {E : Value → Shared → Prop} (ok : (X.wish E).Ok) : X.Ok :=
  ⟨ok.mod, ok.kind, ok.glob, ok.blt, ok.above, ok.inj, ok.has, ok.cab, ok.hd, ok.frames, ok.stk, ok.exf, ok.bs, ok.bsz, ok.noex, ok.exfs, ok.funs, ok.frf⟩
section
variable {X : Cx} {pins : List (Addr × Obj)} {σ : St} {H : Hp} {s : Shared} {E : Value → Shared → Prop}
theorem Inv.wish (I : Inv X pins σ H s) (E : Value → Shared → Prop) : Inv (X.wish E) pins σ H s := ⟨I.ok.wish E, I.os, I.bare, I.base, I.loc, I.cell, I.free, I.freeC, I.pin, I.hok, I.len⟩
theorem Inv.unwish (I : Inv (X.wish E) pins σ H s) : Inv X pins σ H s := ⟨I.ok.unwish, I.os, I.bare, I.base, I.loc, I.cell, I.free, I.freeC, I.pin, I.hok, I.len⟩
theorem SP.unwish {D : Ends} {f : Flow} {s' : Shared} (h : SP (X.wish E) pins D f s') : SP X pins D f s' := by
  cases f with
  | next => obtain ⟨σ', H', I, q⟩ := h; exact ⟨σ', H', I.unwish, q⟩
  | brk => obtain ⟨σ', H', I, q⟩ := h; exact ⟨σ', H', I.unwish, q⟩
  | cont => obtain ⟨σ', H', I, q⟩ := h; exact ⟨σ', H', I.unwish, q⟩
  | ret u => obtain ⟨v, σ', H', I, r, q⟩ := h; exact ⟨v, σ', H', I.unwish, r, q⟩
theorem PE.nox {e : Expr} {t : TE} (h : PE X.nox e t) : PE X e t := fun pins s σ H Q I hw =>
  wpAny_mono (h pins s σ H Q (I.wish _) hw) (fun _ _ ⟨v, H', I', r, q⟩ => ⟨v, H', I'.unwish, r, q⟩) fun _ _ z => False.elim z
theorem PT.nox {e : Expr} {t : TT} (h : PT X.nox e t) : PT X e t := fun pins s σ H Q I hw =>
  wpAny_mono (h pins s σ H Q (I.wish _) hw) (fun _ _ ⟨H', I', q⟩ => ⟨H', I'.unwish, q⟩) fun _ _ z => False.elim z
theorem PSs.nox {st : List Stmt} {t : TS} (h : PSs X.nox st t) : PSs X st t := fun pins s σ H D I hw =>
  wpAny_mono (h pins s σ H D (I.wish _) hw) (fun _ _ q => q.unwish) fun _ _ z => False.elim z
end

section
variable {X : Cx} {st : Stmt} {rest : List Stmt} {t u : TS} {e : Expr} {te : TE} {pos : Pos}
noncomputable def tNext : TS := fun D σ H => D.nx σ H
noncomputable def tSeq (t u : TS) : TS := fun D σ H => t { D with nx := u D } σ H
theorem pss_nil : PSs X [] tNext := fun _ _ σ H _ I h => wpAny_execs_nil ⟨σ, H, I, h⟩
theorem pss_cons (h1 : PS X st t) (h2 : PSs X rest u) : PSs X (st :: rest) (tSeq t u) := by
  intro pins s σ H D I h
  refine wpAny_execs_cons (thn (h1 pins s σ H { D with nx := u D } I h) fun f s1 q => ?_)
  cases f with
  | next =>
    obtain ⟨σ', H', I', q⟩ := q
    exact h2 pins s1 σ' H' D I' q
  | ret v => exact q
  | brk => exact q
  | cont => exact q
theorem pss_one (h1 : PS X st t) : PSs X [st] t := by
  intro pins s σ H D I h
  refine wpAny_execs_cons (thn (h1 pins s σ H D I h) fun f s1 q => ?_)
  cases f with
  | next => exact wpAny_execs_nil q
  | ret v => exact q
  | brk => exact q
  | cont => exact q
theorem Inv.quiet {pins : List (Addr × Obj)} {σ : St} {H : Hp} {s : Shared} (I : Inv X pins σ H s) : interactive X.env = false := by simp [interactive, I.ok.kind]
noncomputable def tDrop (te : TE) : TS := fun D σ H => te σ H fun _ H1 => D.nx σ H1
theorem ps_expr (he : PE X e te) (hs : swapsWith e none pos.line X.env = pure false := by rfl) : PS X (.Expr e pos) (tDrop te) := by
  intro pins s σ H D I h
  exact wpAny_Expr_any (thn (he pins s σ H _ I h) fun v s1 ⟨x, H1, I1, r1, q1⟩ => ⟨σ, H1, I1, q1⟩) I.quiet hs
noncomputable def tRet (te : TE) : TS := fun D σ H => te σ H D.rt
theorem ps_ret (he : PE X e te) : PS X (.Return (some e) pos) (tRet te) := by
  intro pins s σ H D I h
  exact wpAny_Return_some (thn (he pins s σ H _ I h) fun v s1 ⟨x, H1, I1, r1, q1⟩ => ⟨x, σ, H1, I1, r1, q1⟩)
noncomputable def tIfS (c : TT) (t u : TS) : TS := fun D σ H => c σ H fun b H1 => if b = true then t D σ H1 else u D σ H1
theorem ps_if {c : Expr} {a b : List Stmt} {tc : TT} (hc : PT X c tc) (ha : PSs X a t) (hb : PSs X b u) : PS X (.If c a b pos) (tIfS tc t u) := by
  intro pins s σ H D I h
  refine wpAny_If (thn (hc pins s σ H _ I h) fun d s1 ⟨H1, I1, q1⟩ => ?_)
  cases d with
  | true => exact ha pins s1 σ H1 D I1 q1
  | false => exact hb pins s1 σ H1 D I1 q1
end

noncomputable abbrev TG := V → St → Hp → (St → Hp → Prop) → Prop
noncomputable abbrev TGs := List V → St → Hp → (St → Hp → Prop) → Prop
noncomputable def PG (X : Cx) (target : Expr) (t : TG) : Prop :=
  ∀ (pins : List (Addr × Obj)) (s : Shared) (σ : St) (H : Hp) (v : V) (u : Value) (Q : St → Hp → Prop), Inv X pins σ H s → RelV v u → t v σ H Q →
    wpAny (model X.prog X.w) X.A (assign target X.env u) (fun _ s' => ∃ σ' H', Inv X pins σ' H' s' ∧ Q σ' H') X.xe s
noncomputable def PGs (X : Cx) (ts : List Expr) (t : TGs) : Prop :=
  ∀ (pins : List (Addr × Obj)) (s : Shared) (σ : St) (H : Hp) (vs : List V) (us : List Value) (Q : St → Hp → Prop), Inv X pins σ H s → Vals vs us → t vs σ H Q →
    wpAny (model X.prog X.w) X.A (assignInOrder ((assignEach ts X.env).map (·.2)) us) (fun _ s' => ∃ σ' H', Inv X pins σ' H' s' ∧ Q σ' H') X.xe s
noncomputable abbrev TIp := V → V → Hp → VK → Prop
noncomputable def PIp (X : Cx) (op : Operator) (t : TIp) : Prop :=
  ∀ (pins : List (Addr × Obj)) (s : Shared) (σ : St) (H : Hp) (x y : V) (v u : Value) (Q : VK), Inv X pins σ H s → RelV x v → RelV y u → t x y H Q →
    wpAny (model X.prog X.w) X.A (inplaceOp op v u) (EP X pins σ Q) X.xe s
section
variable {X : Cx} {pos : Pos}
noncomputable def gName (i : Nat) : TG := fun v σ H Q => Q (σ.set i (some v)) H
theorem pg_name {i : Nat} {x : Str} (hN : X.N.Nodup) (hi : X.N[i]? = some x) (hx : Loc X.env.scope x) (hf : X.fn x = true ∨ X.env.scope.names.lookup x = some .local := by first | exact .inl rfl | exact .inr rfl | assumption) : PG X (.Name x pos) (gName i) := by
  intro pins s σ H v u Q I r h
  exact wpAny_assign_Name (store_ok I hN hi hx r (fun s' I' => ⟨_, H, I', h⟩) hf)
noncomputable def tAsg (te : TE) (g : TG) : TS := fun D σ H => te σ H fun x H1 => g x σ H1 D.nx
theorem ps_set {i : Nat} {x : Str} {e : Expr} {te : TE} {pos' : Pos} (hN : X.N.Nodup) (hi : X.N[i]? = some x) (hx : Loc X.env.scope x) (he : PE X e te) (hs : swapsWith e (some (.Name x pos')) pos.line X.env = pure false := by rfl) (hf : X.fn x = true ∨ X.env.scope.names.lookup x = some .local := by first | exact .inl rfl | exact .inr rfl | assumption) :
    PS X (.Assign [.Name x pos'] e pos) (tAsg te (gName i)) := by
  intro pins s σ H D I h
  refine wpAny_Assign_Name (thn (he pins s σ H _ I h) fun v s1 ⟨y, H1, I1, r1, q1⟩ => ?_) hs
  exact store_ok I1 hN hi hx r1 (fun s2 I2 => ⟨_, H1, I2, q1⟩) hf
noncomputable def tAug (i : Nat) (te : TE) (ti : TIp) : TS := fun D σ H => ∃ x, σ[i]? = some (some x) ∧ te σ H fun y H1 => ti x y H1 fun z H2 => D.nx (σ.set i (some z)) H2
theorem ps_aug {i : Nat} {x : Str} {e : Expr} {te : TE} {op : Operator} {ti : TIp} {pos' : Pos} (hN : X.N.Nodup) (hi : X.N[i]? = some x) (hx : Loc X.env.scope x) (he : PE X e te) (ho : PIp X op ti) (hf : X.fn x = true ∨ X.env.scope.names.lookup x = some .local := by first | exact .inl rfl | exact .inr rfl | assumption) :
    PS X (.AugAssign (.Name x pos') op e pos) (tAug i te ti) := by
  intro pins s σ H D I h
  obtain ⟨v, e1, h⟩ := h
  obtain ⟨m, hn, hl⟩ := I.loc
  have vis : Vis X.env.scope x := by rcases hx with k | k; exact .inl k; exact .inr (.inl k)
  obtain ⟨u, r, l⟩ := hl i x v hi e1 vis
  refine wpAny_AugAssign_Name ?_
  have go : wpAny (model X.prog X.w) X.A (eval e X.env) (fun w s₂ => wpAny (model X.prog X.w) X.A (inplaceOp op u w) (fun r s₃ => wpAny (model X.prog X.w) X.A (storeName X.env x r) (fun _ => SP X pins D .next) X.xe s₃) X.xe s₂) X.xe s := by
    refine thn (he pins s σ H _ I h) fun w s1 ⟨y, H1, I1, r1, q1⟩ => ?_
    refine thn (ho pins s1 σ H1 v y u w _ I1 r r1 q1) fun z s2 ⟨zv, H2, I2, r2, q2⟩ => ?_
    exact store_ok I2 hN hi hx r2 (fun s3 I3 => ⟨_, H2, I3, q2⟩) hf
  rcases l with ⟨hk, hm⟩ | ⟨hk, c, hc, hcell⟩
  · exact wpAny_loadName_local I.ok.kind hk hn hm go
  · rcases hk with hk | hk
    · exact wpAny_loadName_cell I.ok.kind hk hc hcell go
    · rcases hx with k | k
      · have : X.env.scope.names.lookup x = some .free := hk
        rw [k] at this; cases this
      · have : X.env.scope.names.lookup x = some .free := hk
        rw [k] at this; cases this
noncomputable def ipI (f : Int → Int → Int) : TIp := fun x y H Q => ∃ i j, x = .int i ∧ y = .int j ∧ Q (.int (f i j)) H
theorem ip_add : PIp X .Add (ipI fun i j => i + j) := by
  intro pins s σ H x y v u Q I r1 r2 h
  obtain ⟨i, j, e1, e2, q⟩ := h
  subst e1; subst e2
  obtain ⟨t, rfl⟩ := r1
  obtain ⟨t', rfl⟩ := r2
  exact iadd_int ⟨.int _, H, I.tok _, ⟨_, rfl⟩, q⟩
end

section
variable {X : Cx} {pos : Pos}
noncomputable def tWhile (c : TT) (tb : TS) : TS := fun D σ H => ∃ W : Nat → St → Hp → Prop, (∃ m, W m σ H) ∧ ∀ m σ H, W m σ H →
  c σ H fun b H1 => if b = true then ∃ N : St → Hp → Prop, (∀ σ' H', N σ' H' → ∃ m', m' < m ∧ W m' σ' H') ∧ tb { D with nx := N, ct := N, bk := D.nx } σ H1 else D.nx σ H1
theorem ps_while {c : Expr} {body : List Stmt} {tc : TT} {tb : TS} (hp : PassesOwn (model X.prog X.w) X.A X.env X.xe) (hc : PT X c tc) (hb : PSs X body tb) : PS X (.While c body [] pos) (tWhile tc tb) := by
  intro pins s σ H D I h
  obtain ⟨W, ⟨m0, w0⟩, turn⟩ := h
  refine wpAny_While (codeAny_whileLoop (fun n s' => ∃ σ' H', Inv X pins σ' H' s' ∧ W n σ' H') ?_ m0 ⟨σ, H, I, w0⟩)
  rintro n s1 ⟨σ1, H1, I1, w1⟩
  refine wpAny_passesOwn hp (thn (hc pins s1 σ1 H1 _ I1 (turn n σ1 H1 w1)) fun b s2 ⟨H2, I2, q2⟩ => ?_)
  cases b with
  | true =>
    obtain ⟨N, hN, q2⟩ := q2
    rw [if_pos rfl]
    refine wpAny_passesOwn hp (thn (hb pins s2 σ1 H2 _ I2 q2) fun f s3 q3 => ?_)
    cases f with
    | next =>
      obtain ⟨σ3, H3, I3, n3⟩ := q3
      obtain ⟨m', hm, w3⟩ := hN σ3 H3 n3
      exact ⟨m', hm, σ3, H3, I3, w3⟩
    | cont =>
      obtain ⟨σ3, H3, I3, n3⟩ := q3
      obtain ⟨m', hm, w3⟩ := hN σ3 H3 n3
      exact ⟨m', hm, σ3, H3, I3, w3⟩
    | brk => exact q3
    | ret v => exact q3
  | false =>
    rw [if_neg Bool.false_ne_true]
    exact wpAny_execs_nil ⟨σ1, H2, I2, q2⟩
end

structure It where
  go : Nat → Hp → Prop
  yld : Nat → Hp → V → Hp → Prop
  stop : Nat → Hp → Prop
noncomputable def FpOk (X : Cx) (pins : List (Addr × Obj)) (H : Hp) (b : Addr) : Prop :=
  H b = none ∧ b ≠ X.env.locals ∧ b ∉ X.fs ∧ (b ∈ X.ex ∨ X.s₀.heap.objs.size ≤ b) ∧ (∀ x c, X.env.cells.lookup x = some c → c ≠ b) ∧ ∀ p ∈ X.pn ++ pins, p.1 ≠ b
theorem Inv.fpOk {X : Cx} {pins : List (Addr × Obj)} {σ : St} {H H' : Hp} {s : Shared} {b : Addr} (I : Inv X pins σ H s) (hb : s.heap.objs.size ≤ b) (hn : H' b = none) : FpOk X pins H' b := by
  refine ⟨hn, Nat.ne_of_gt (Nat.lt_of_lt_of_le I.lt hb), I.nofs hb, .inr (Nat.le_trans I.sz hb), fun x c e z => ?_, fun p hp z => ?_⟩
  · obtain ⟨v, q⟩ := I.cell x c e
    exact absurd (Nat.lt_of_lt_of_le q.lt (by rw [z]; exact hb)) (Nat.lt_irrefl _)
  · exact absurd (Nat.lt_of_lt_of_le (Heap.lt_size (I.pin p hp).1) (by rw [z]; exact hb)) (Nat.lt_irrefl _)
structure Turn (P : Program) (w : World) (K : PySem.W.Frag) (tg : Expr) (J : It) (fp : List Addr) (it : Addr) (tn : Nat → Heap → Prop) : Prop where
  mem : it ∈ fp
  obj : ∀ i h, tn i h → ∀ b ∈ fp, ∃ o, h.get? b = some o ∧ ∀ v, o.data ≠ .cell v
  keep : ∀ i h h', tn i h → (∀ b ∈ fp, ∀ o, h.get? b = some o → h'.get? b = some o) → tn i h'
  item : ∀ (X : Cx), X.prog = P → X.w = w → X.K = K → X.calm = true → ∀ (i : Nat) (pins : List (Addr × Obj)) (s : Shared) (σ : St) (H : Hp) (E : Value → Shared → Prop), Inv X pins σ H s → (∀ b ∈ fp, FpOk X pins H b) → tn i s.heap → J.go i H →
    wpAny (model P w) X.A (pyNext (.ref it)) (fun r s1 => ∃ u, r = some u ∧
      wpAny (model P w) X.A (letOwnedTupleGo tg (.ref it) u) (fun _ s2 => ∃ x H', Inv X pins σ H' s2 ∧ RelV x u ∧ J.yld i H x H' ∧ tn (i + 1) s2.heap ∧ ∀ b ∈ fp, H' b = none) E s1) E s
  done : ∀ (X : Cx), X.prog = P → X.w = w → X.K = K → X.calm = true → ∀ (i : Nat) (pins : List (Addr × Obj)) (s : Shared) (σ : St) (H : Hp) (E : Value → Shared → Prop), Inv X pins σ H s → (∀ b ∈ fp, FpOk X pins H b) → tn i s.heap → J.stop i H →
    wpAny (model P w) X.A (pyNext (.ref it)) (fun r s1 => r = none ∧ Inv X pins σ H s1) E s
  self : ∀ (A : Around) (i : Nat) (s : Shared) (Q : Value → Shared → Prop) (E : Value → Shared → Prop), tn i s.heap → Q (.ref it) s → wpAny (model P w) A (pyIter (.ref it)) Q E s
noncomputable abbrev TI := St → Hp → (It → Hp → Prop) → Prop
noncomputable def PIE (X : Cx) (pins : List (Addr × Obj)) (σ : St) (tg : Expr) (R : It → Hp → Prop) (itv : Value) (s2 : Shared) : Prop :=
  ∃ (it : Addr) (fp : List Addr) (tn : Nat → Heap → Prop) (J : It) (H' : Hp), itv = .ref it ∧ Inv X pins σ H' s2 ∧ Turn X.prog X.w X.K tg J fp it tn ∧ tn 0 s2.heap ∧ (∀ b ∈ fp, FpOk X pins H' b) ∧ R J H'
noncomputable def PI (X : Cx) (tg iter : Expr) (wi : TI) : Prop :=
  ∀ (pins : List (Addr × Obj)) (s : Shared) (σ : St) (H : Hp) (R : It → Hp → Prop), Inv X pins σ H s → wi σ H R →
    wpAny (model X.prog X.w) X.A (eval iter X.env) (fun v s1 => wpAny (model X.prog X.w) X.A (pyIter v) (PIE X pins σ tg R) X.xe s1) X.xe s

theorem go_of {M : Model} {A : Around} {E : Value → Shared → Prop} {s : Shared} {tg : Expr} {it : Addr} {u : Value} {o : Obj} {n : String} {vs : Array Value} {Q : Unit → Shared → Prop} (ho : s.heap.get? it = some o) (hc : o.cls = .type n) (hd : o.data = .fields vs)
    (hn : ["enumerate", "zip", "dict_itemiterator", "dict_reverseitemiterator", "odict_iterator", "itertools.zip_longest", "itertools.pairwise"].contains n = false) (hQ : Q () s) : wpAny M A (letOwnedTupleGo tg (.ref it) u) Q E s := by
  unfold letOwnedTupleGo
  cases tg <;> first
    | exact wpAny_pure hQ
    | (cases u <;> first
        | exact wpAny_pure hQ
        | (refine wpAny_bind (wpAny_load ho ?_)
           rw [hc, hd]
           show wpAny M A (if (["enumerate", "zip", "dict_itemiterator", "dict_reverseitemiterator", "odict_iterator", "itertools.zip_longest", "itertools.pairwise"].contains n && vs[0]? == some (rawInt _)) = true then _ else _) Q E s
           rw [if_neg (by intro h; rw [hn, Bool.false_and] at h; cases h)]
           exact wpAny_pure hQ))

noncomputable def Itl (K : PySem.W.Frag) (a : Addr) : It :=
  ⟨fun i H => ∃ xs x, SqL K H a xs ∧ xs[i]? = some x, fun i H x H' => H' = H ∧ ∀ xs, SqL K H a xs → xs[i]? = some x, fun i H => ∃ xs, SqL K H a xs ∧ xs.length ≤ i⟩
noncomputable def Itt (K : PySem.W.Frag) (a : Addr) : It :=
  ⟨fun i H => ∃ xs x, SqT K H a xs ∧ xs[i]? = some x, fun i H x H' => H' = H ∧ ∀ xs, SqT K H a xs → xs[i]? = some x, fun i H => ∃ xs, SqT K H a xs ∧ xs.length ≤ i⟩
noncomputable def Itr (lo : Int) (n : Nat) : It := ⟨fun i _ => i < n, fun i H x H' => H' = H ∧ x = .int (lo + i), fun i _ => n ≤ i⟩
theorem turn_list {P : Program} {w : World} {K : PySem.W.Frag} {tg : Expr} (a it : Addr) : Turn P w K tg (Itl K a) [it] it (fun i h => h.IsListIter it a i) where
  mem := by simp
  obj := fun i h st b hb => by
    have e : b = it := by simpa using hb
    subst e
    obtain ⟨o, e, c, d⟩ := st
    exact ⟨o, e, fun v z => by rw [d] at z; cases z⟩
  keep := fun i h h' st k => st.at fun o e => k it (by simp) o e
  item := by
    intro X hP hw hK hc i pins s σ H E I hf st hg
    subst hP hw hK
    obtain ⟨xs, x, hq, hx⟩ := hg
    obtain ⟨its, rv, p, hz⟩ := I.list hq
    obtain ⟨u, hu, ru⟩ := rv.get hx
    obtain ⟨f0, f1, f2, f3, f4, f5⟩ := hf it (by simp)
    refine wpAny_pyNext_list_item st p.isList (x := u) (by simpa using hu) fun h' st' sb => ?_
    have I1 : Inv X pins σ H { s with heap := h' } := I.turned (t' := s.toks) (fun b o hb e => (sb.2 b hb).trans e) f0 f1 f3 f4 f5
    obtain ⟨o, e, c, d⟩ := id st'
    exact ⟨u, rfl, go_of (s := { s with heap := h' }) e c d (by decide) ⟨x, H, I1, ru, ⟨rfl, fun ys hy => by rw [I.list_inj hy hq]; exact hx⟩, st', fun b hb => (hf b hb).1⟩⟩
  done := by
    intro X hP hw hK hc i pins s σ H E I hf st hg
    subst hP hw hK
    obtain ⟨xs, hq, hx⟩ := hg
    obtain ⟨its, rv, p, hz⟩ := I.list hq
    obtain ⟨f0, f1, f2, f3, f4, f5⟩ := hf it (by simp)
    have hl := rv.length
    exact wpAny_pyNext_list_end (I.ok.hd hc) st p.isList (by simp; omega) fun h' eb => ⟨rfl, I.turned (t' := s.toks) (fun b o hb e => eb b o hb e) f0 f1 f3 f4 f5⟩
  self := fun _ _ _ _ _ st h => wpAny_pyIter_listiter st h
theorem turn_tuple {P : Program} {w : World} {K : PySem.W.Frag} {tg : Expr} (a it : Addr) : Turn P w K tg (Itt K a) [it] it (fun i h => h.IsTupleIter it a i) where
  mem := by simp
  obj := fun i h st b hb => by
    have e : b = it := by simpa using hb
    subst e
    obtain ⟨o, e, c, d⟩ := st
    exact ⟨o, e, fun v z => by rw [d] at z; cases z⟩
  keep := fun i h h' st k => st.at fun o e => k it (by simp) o e
  item := by
    intro X hP hw hK hc i pins s σ H E I hf st hg
    subst hP hw hK
    obtain ⟨xs, x, hq, hx⟩ := hg
    obtain ⟨its, rv, p, hz⟩ := I.tuple hq
    obtain ⟨u, hu, ru⟩ := rv.get hx
    obtain ⟨f0, f1, f2, f3, f4, f5⟩ := hf it (by simp)
    refine wpAny_pyNext_tuple_item st (show s.heap.IsTuple a its.toArray from p) (x := u) (by simpa using hu) fun h' st' sb => ?_
    have I1 : Inv X pins σ H { s with heap := h' } := I.turned (t' := s.toks) (fun b o hb e => (sb.2 b hb).trans e) f0 f1 f3 f4 f5
    obtain ⟨o, e, c, d⟩ := id st'
    exact ⟨u, rfl, go_of (s := { s with heap := h' }) e c d (by decide) ⟨x, H, I1, ru, ⟨rfl, fun ys hy => by rw [I.tuple_inj hy hq]; exact hx⟩, st', fun b hb => (hf b hb).1⟩⟩
  done := by
    intro X hP hw hK hc i pins s σ H E I hf st hg
    subst hP hw hK
    obtain ⟨xs, hq, hx⟩ := hg
    obtain ⟨its, rv, p, hz⟩ := I.tuple hq
    obtain ⟨f0, f1, f2, f3, f4, f5⟩ := hf it (by simp)
    have hl := rv.length
    exact wpAny_pyNext_tuple_end (I.ok.hd hc) st (show s.heap.IsTuple a its.toArray from p) (by simp; omega) fun h' eb => ⟨rfl, I.turned (t' := s.toks) (fun b o hb e => eb b o hb e) f0 f1 f3 f4 f5⟩
  self := fun _ _ _ _ _ st h => wpAny_pyIter_tupleiter st h
theorem turn_range {P : Program} {w : World} {K : PySem.W.Frag} {tg : Expr} (it : Addr) (lo : Int) (n : Nat) : Turn P w K tg (Itr lo n) [it] it (fun i h => IsRangeIter h it (lo + (i : Nat) * 1) ((n : Int) - (i : Nat)) 1) where
  mem := by simp
  obj := fun i h st b hb => by
    have e : b = it := by simpa using hb
    subst e
    exact ⟨_, st, fun v z => by
      have z' : Data.fields _ = Data.cell v := z
      cases z'⟩
  keep := fun i h h' st k => k it (by simp) _ st
  item := by
    intro X hP hw hK hc i pins s σ H E I hf st hg
    subst hP hw hK
    obtain ⟨f0, f1, f2, f3, f4, f5⟩ := hf it (by simp)
    have W := Walks.range (prog := X.prog) (w := X.w) (I.ok.hd hc) it lo 1 n
    refine W.item i s _ _ hg st fun v h' tk hv st' kk => ?_
    obtain ⟨t, rfl⟩ := hv
    have I1 : Inv X pins σ H { s with heap := h', toks := tk } := I.turned (fun b o hb e => kk b o (by simpa using hb) e) f0 f1 f3 f4 f5
    refine ⟨_, rfl, go_of (s := { s with heap := h', toks := tk }) (n := "range_iterator") st' rfl rfl (by decide) ⟨.int (lo + i), H, I1, ⟨t, ?_⟩, ⟨rfl, rfl⟩, st', fun b hb => (hf b hb).1⟩⟩
    rw [Int.mul_one]
  done := by
    intro X hP hw hK hc i pins s σ H E I hf st hg
    subst hP hw hK
    obtain ⟨f0, f1, f2, f3, f4, f5⟩ := hf it (by simp)
    exact wpAny_pyNext_range_end (I.ok.hd hc) st (by have : n ≤ i := hg; omega) fun h' eb => ⟨rfl, I.turned (t' := s.toks) (fun b o hb e => eb b o hb e) f0 f1 f3 f4 f5⟩
  self := fun _ _ _ _ _ st h => wpAny_pyIter_rangeiter st h
end L2

namespace L2
open PySem PySem.Spec PyProof.Rows
section
variable {X : Cx} {tg : Expr}
noncomputable def iList (K : PySem.W.Frag) (tl : TE) : TI := fun σ H R => tl σ H fun x H1 => ∃ a, x = .ref a ∧ (∃ xs, SqL K H1 a xs) ∧ R (Itl K a) H1
noncomputable def iTup (K : PySem.W.Frag) (tl : TE) : TI := fun σ H R => tl σ H fun x H1 => ∃ a, x = .ref a ∧ (∃ xs, SqT K H1 a xs) ∧ R (Itt K a) H1
theorem pi_list {l : Expr} {tl : TE} (hl : PE X l tl) : PI X tg l (iList X.K tl) := by
  intro pins s σ H R I h
  refine thn (hl pins s σ H _ I h) fun v s1 ⟨x, H1, I1, r1, q1⟩ => ?_
  obtain ⟨a, e, ⟨xs, hq⟩, q⟩ := q1
  subst e
  cases r1
  obtain ⟨its, rv, p, hz⟩ := I1.list hq
  refine wpAny_pyIter_list p.isList ?_
  refine ⟨s1.heap.objs.size, [s1.heap.objs.size], _, _, H1, rfl, I1.kept (t' := s1.toks) fun b o e => Heap.get?_push_of_some _ e, turn_list a _, ⟨_, Heap.get?_push_size _ rfl, rfl, rfl⟩, fun b hb => ?_, q⟩
  have e : b = s1.heap.objs.size := by simpa using hb
  subst e
  exact I1.fpOk (Nat.le_refl _) (I1.hok.fresh (Nat.le_refl _))
theorem pi_tup {l : Expr} {tl : TE} (hl : PE X l tl) : PI X tg l (iTup X.K tl) := by
  intro pins s σ H R I h
  refine thn (hl pins s σ H _ I h) fun v s1 ⟨x, H1, I1, r1, q1⟩ => ?_
  obtain ⟨a, e, ⟨xs, hq⟩, q⟩ := q1
  subst e
  cases r1
  obtain ⟨its, rv, p, hz⟩ := I1.tuple hq
  refine wpAny_pyIter_tuple (show s1.heap.IsTuple a its.toArray from p) ?_
  refine ⟨s1.heap.objs.size, [s1.heap.objs.size], _, _, H1, rfl, I1.kept (t' := s1.toks) fun b o e => Heap.get?_push_of_some _ e, turn_tuple a _, ⟨_, Heap.get?_push_size _ rfl, rfl, rfl⟩, fun b hb => ?_, q⟩
  have e : b = s1.heap.objs.size := by simpa using hb
  subst e
  exact I1.fpOk (Nat.le_refl _) (I1.hok.fresh (Nat.le_refl _))
theorem range_it {pins : List (Addr × Obj)} {σ : St} {H : Hp} {s : Shared} {R : It → Hp → Prop} {E : Value → Shared → Prop} {lo hi : Int} {t u v : Tok} {tk : Nat} (I : Inv X pins σ H s) (h1 : -(2 ^ 62) ≤ lo) (h2 : lo < 2 ^ 62) (h3 : -(2 ^ 62) ≤ hi) (h4 : hi < 2 ^ 62)
    (q : R (Itr lo (hi - lo).toNat) H) : wpAny (model X.prog X.w) X.A (pyIter (.ref s.heap.objs.size)) (PIE X pins σ tg R) E { s with heap := s.heap.push { cls := .type "range", data := .fields #[.int lo t, .int hi u, .int 1 v] }, toks := tk } := by
  refine wpAny_pyIter_range (IsRange.new ..) (small_one h1 h2 h3 h4) ?_
  have I1 : Inv X pins σ H { s with heap := s.heap.push { cls := .type "range", data := .fields #[.int lo t, .int hi u, .int 1 v] }, toks := tk } := I.kept fun b o e => Heap.get?_push_of_some _ e
  refine ⟨(s.heap.push { cls := .type "range", data := .fields #[.int lo t, .int hi u, .int 1 v] }).objs.size, [(s.heap.push { cls := .type "range", data := .fields #[.int lo t, .int hi u, .int 1 v] }).objs.size], _, _, H, rfl,
    I1.kept (t' := tk) fun b o e => Heap.get?_push_of_some _ e, turn_range _ lo (hi - lo).toNat, ?_, fun b hb => ?_, q⟩
  · have e1 : lo + ((0 : Nat) : Int) * 1 = lo := by simp
    have e2 : (((hi - lo).toNat : Nat) : Int) - ((0 : Nat) : Int) = Builtin.Range.rangeSize lo hi 1 := by rw [rangeSize_one]; split <;> omega
    show IsRangeIter _ _ (lo + ((0 : Nat) : Int) * 1) ((((hi - lo).toNat : Nat) : Int) - ((0 : Nat) : Int)) 1
    rw [e1, e2]
    exact Heap.get?_push_size _ rfl
  · have e : b = (s.heap.push { cls := .type "range", data := .fields #[.int lo t, .int hi u, .int 1 v] }).objs.size := by simpa using hb
    subst e
    exact I1.fpOk (Nat.le_refl _) (I1.hok.fresh (Nat.le_refl _))
noncomputable def iRng1 (ta : TA) : TI := fun σ H R => ta σ H fun vs H1 => ∃ j : Int, vs = [.int j] ∧ -(2 ^ 62) ≤ j ∧ j < 2 ^ 62 ∧ R (Itr 0 j.toNat) H1
theorem pi_range1 {a : Expr} {ta : TA} {p pos : Pos} (hg : Gl X "range") (hm : X.mg "range" = none) (ha : PA X [a] ta) (hs : starEach [a] X.env = [(false, eval a X.env)] := by rfl) : PI X tg (.Call (.Name "range" p) [a] [] pos) (iRng1 ta) := by
  intro pins s σ H R I h
  refine Call_ (ld_blt I hg hm boot_range (PyProof.Rows.callWith_type1 (thn (ha pos pins s σ H _ I h) fun us s1 ⟨vs, H1, I1, r1, q1⟩ => ?_) hs rfl))
  obtain ⟨j, e, q1, q2, q⟩ := q1
  subst e
  cases r1 with
  | cons r rr =>
    cases rr
    obtain ⟨t, rfl⟩ := r
    exact call_range_1 (range_it I1 (by omega) (by omega) q1 q2 (by simpa using q))
noncomputable def tFor (wi : TI) (g : TG) (tb : TS) : TS := fun D σ H => wi σ H fun J H1 => ∃ W : Nat → Nat → St → Hp → Prop, (∃ m, W 0 m σ H1) ∧ ∀ i m σ H, W i m σ H →
  (J.stop i H ∧ D.nx σ H) ∨ (J.go i H ∧ ∃ N : St → Hp → Prop, (∀ σ' H', N σ' H' → ∃ m', m' < m ∧ W (i + 1) m' σ' H') ∧ ∀ x H', J.yld i H x H' → g x σ H' fun σ2 H2 => tb { D with nx := N, ct := N, bk := D.nx } σ2 H2)
noncomputable def pinsAt (fp : List Addr) (h : Heap) : List (Addr × Obj) := fp.filterMap fun b => (h.get? b).map fun o => (b, o)
theorem mem_pinsAt {fp : List Addr} {h : Heap} {b : Addr} {o : Obj} (hb : b ∈ fp) (e : h.get? b = some o) : (b, o) ∈ pinsAt fp h := List.mem_filterMap.mpr ⟨b, hb, by rw [e]; rfl⟩
theorem of_pinsAt {fp : List Addr} {h : Heap} {p : Addr × Obj} (hp : p ∈ pinsAt fp h) : p.1 ∈ fp ∧ h.get? p.1 = some p.2 := by
  obtain ⟨b, hb, e⟩ := List.mem_filterMap.mp hp
  cases q : h.get? b with
  | none => rw [q] at e; cases e
  | some o =>
    rw [q] at e
    have e' : (b, o) = p := Option.some.inj e
    subst e'
    exact ⟨hb, q⟩
theorem Inv.pinned {pins : List (Addr × Obj)} {σ : St} {H : Hp} {s : Shared} {fp : List Addr} (I : Inv X pins σ H s) (hf : ∀ b ∈ fp, FpOk X pins H b) (ho : ∀ b ∈ fp, ∃ o, s.heap.get? b = some o ∧ ∀ v, o.data ≠ .cell v) : Inv X (pins ++ pinsAt fp s.heap) σ H s :=
  I.pins_of fun p hp => (List.mem_append.mp hp).elim (fun z => I.pin p (List.mem_append_right _ z)) fun z => by
    obtain ⟨hb, e⟩ := of_pinsAt z
    obtain ⟨f0, f1, f2, _⟩ := hf p.1 hb
    obtain ⟨o, e', d⟩ := ho p.1 hb
    rw [e] at e'; cases e'
    exact ⟨e, f0, f1, f2, d⟩
theorem Inv.unpinned {pins pl : List (Addr × Obj)} {σ : St} {H : Hp} {s : Shared} (I : Inv X (pins ++ pl) σ H s) : Inv X pins σ H s := I.pins_of fun p hp => I.pin p (List.mem_append_right _ (List.mem_append_left _ hp))
theorem ps_for {iter : Expr} {body : List Stmt} {wi : TI} {g : TG} {tb : TS} {pos : Pos} (hp : PassesOwn (model X.prog X.w) X.A X.env X.xe) (hc : X.calm = true) (hi : PI X tg iter wi) (hg : PG X tg g) (hb : PSs X body tb)
    (hs : ∀ x, foldedSetIterable iter X.env x = pure x := by intro _; rfl) : PS X (.For tg iter body [] pos) (tFor wi g tb) := by
  intro pins s σ H D I h
  refine wpAny_For (thn (hi pins s σ H _ I h) fun v s1 h1 => thn h1 fun itv s2 h2 => ?_) hs
  obtain ⟨it, fp, tn, J, H2, e, I2, T, st2, f2, W, ⟨m0, w0⟩, turn⟩ := h2
  subst e
  have stat : ∀ {H' : Hp}, (∀ b ∈ fp, H' b = none) → ∀ b ∈ fp, FpOk X pins H' b := fun hn b hb => ⟨hn b hb, (f2 b hb).2⟩
  refine codeAny_forLoop_any (fun n s' => ∃ i σ' H', Inv X pins σ' H' s' ∧ tn i s'.heap ∧ (∀ b ∈ fp, H' b = none) ∧ W i n σ' H') ?_ m0 ⟨0, σ, H2, I2, st2, fun b hb => (f2 b hb).1, w0⟩
  rintro n s3 ⟨i, σ3, H3, I3, st3, fr3, w3⟩
  rcases turn i n σ3 H3 w3 with ⟨stop, qn⟩ | ⟨go, N, hN, step⟩
  · refine wpAny_passesOwn hp (thn (T.done X rfl rfl rfl hc i pins s3 σ3 H3 X.xe I3 (stat fr3) st3 stop) fun r s4 ⟨hr, I4⟩ => ?_)
    subst hr
    exact wpAny_execs_nil ⟨σ3, H3, I4, qn⟩
  · refine wpAny_passesOwn hp (thn (T.item X rfl rfl rfl hc i pins s3 σ3 H3 X.xe I3 (stat fr3) st3 go) fun r s4 ⟨u, hr, h4⟩ => ?_)
    subst hr
    refine wpAny_passesOwn hp (thn h4 fun _ s5 ⟨x, H5, I5, r5, y5, st5, fr5⟩ => ?_)
    have I5' := I5.pinned (stat fr5) (T.obj _ _ st5)
    refine wpAny_passesOwn hp (thn (hg _ s5 σ3 H5 x u _ I5' r5 (step x H5 y5)) fun _ s6 ⟨σ6, H6, I6, q6⟩ => ?_)
    refine wpAny_passesOwn hp (thn (hb _ s6 σ6 H6 _ I6 q6) fun f s7 q7 => ?_)
    have again : ∀ {σ7 : St} {H7 : Hp}, Inv X (pins ++ pinsAt fp s5.heap) σ7 H7 s7 → N σ7 H7 → ∃ m, m < n ∧ ∃ i σ' H', Inv X pins σ' H' s7 ∧ tn i s7.heap ∧ (∀ b ∈ fp, H' b = none) ∧ W i m σ' H' := fun {σ7 H7} I7 n7 => by
      obtain ⟨m', hm, w7⟩ := hN σ7 H7 n7
      refine ⟨m', hm, i + 1, σ7, H7, I7.unpinned, T.keep _ _ _ st5 fun b hb o e => (I7.pin (b, o) (List.mem_append_right _ (List.mem_append_right _ (mem_pinsAt hb e)))).1, fun b hb => ?_, w7⟩
      obtain ⟨o, e, d⟩ := T.obj _ _ st5 b hb
      exact (I7.pin (b, o) (List.mem_append_right _ (List.mem_append_right _ (mem_pinsAt hb e)))).2.1
    cases f with
    | next => obtain ⟨σ7, H7, I7, n7⟩ := q7; exact again I7 n7
    | cont => obtain ⟨σ7, H7, I7, n7⟩ := q7; exact again I7 n7
    | brk => obtain ⟨σ7, H7, I7, q7⟩ := q7; exact ⟨σ7, H7, I7.unpinned, q7⟩
    | ret v => obtain ⟨x7, σ7, H7, I7, r7, q7⟩ := q7; exact ⟨x7, σ7, H7, I7.unpinned, r7, q7⟩
end

end L2

namespace L2
open PySem PySem.Spec PyProof.Rows

noncomputable abbrev R2 := V → V → Hp → VK → Prop
noncomputable def OpR (X : Cx) (f : Value → Value → Sem Value) (r : R2) : Prop :=
  ∀ (pins : List (Addr × Obj)) (s : Shared) (σ : St) (H : Hp) (x y : V) (v u : Value) (Q : VK), Inv X pins σ H s → RelV x v → RelV y u → r x y H Q →
    wpAny (model X.prog X.w) X.A (f v u) (EP X pins σ Q) X.xe s
noncomputable def UnR (X : Cx) (f : Value → Sem Value) (r : V → Hp → VK → Prop) : Prop :=
  ∀ (pins : List (Addr × Obj)) (s : Shared) (σ : St) (H : Hp) (x : V) (v : Value) (Q : VK), Inv X pins σ H s → RelV x v → r x H Q →
    wpAny (model X.prog X.w) X.A (f v) (EP X pins σ Q) X.xe s
noncomputable def CallR (X : Cx) (f : Value) (r : List V → Hp → VK → Prop) : Prop :=
  ∀ (pins : List (Addr × Obj)) (s : Shared) (σ : St) (H : Hp) (xs : List V) (us : List Value) (Q : VK), Inv X pins σ H s → Vals xs us → r xs H Q →
    wpAny (model X.prog X.w) X.A (call f us) (EP X pins σ Q) X.xe s
noncomputable def tOp (r : R2) (ta tb : TE) : TE := fun σ H Q => ta σ H fun x H1 => tb σ H1 fun y H2 => r x y H2 Q
noncomputable def tUn (r : V → Hp → VK → Prop) (ta : TE) : TE := fun σ H Q => ta σ H fun x H1 => r x H1 Q
noncomputable def rI (C : Int → Int → Prop) (g : Int → Int → V) : R2 := fun x y H Q => ∃ i j, x = .int i ∧ y = .int j ∧ C i j ∧ Q (g i j) H
noncomputable def rI0 (g : Int → Int → V) : R2 := fun x y H Q => ∃ i j, x = .int i ∧ y = .int j ∧ Q (g i j) H
noncomputable def rU (g : Int → V) : V → Hp → VK → Prop := fun x H Q => ∃ i, x = .int i ∧ Q (g i) H

section
variable {X : Cx} {a b c : Expr} {ta tb tc : TE} {pos : Pos}

theorem binT (ha : PE X a ta) (hb : PE X b tb) {pins : List (Addr × Obj)} {s : Shared} {σ : St} {H : Hp} {R : V → V → Hp → Prop} (I : Inv X pins σ H s)
    (h : ta σ H fun x H1 => tb σ H1 fun y H2 => R x y H2) {Q : Value → Shared → Prop} {f : Value → Value → Sem Value}
    (hf : ∀ v u s2 x y H2, Inv X pins σ H2 s2 → RelV x v → RelV y u → R x y H2 → wpAny (model X.prog X.w) X.A (f v u) Q X.xe s2) :
    wpAny (model X.prog X.w) X.A (eval a X.env) (fun v s₁ => wpAny (model X.prog X.w) X.A (eval b X.env) (fun u s₂ => wpAny (model X.prog X.w) X.A (f v u) Q X.xe s₂) X.xe s₁) X.xe s := by
  refine thn (ha pins s σ H _ I h) fun v s1 ⟨x, H1, I1, r1, q1⟩ => ?_
  refine thn (hb pins s1 σ H1 _ I1 q1) fun u s2 ⟨y, H2, I2, r2, q2⟩ => ?_
  exact hf v u s2 x y H2 I2 r1 r2 q2

theorem pe_op {op : Operator} {r : R2} (ho : OpR X (binaryOp op) r) (ha : PE X a ta) (hb : PE X b tb) : PE X (.BinOp a op b pos) (tOp r ta tb) := by
  intro pins s σ H Q I h
  exact wpAny_BinOp (binT ha hb I h fun v u s2 x y H2 I2 rx ry q => ho pins s2 σ H2 x y v u Q I2 rx ry q)
theorem pe_un {op : UnaryOp} {r : V → Hp → VK → Prop} (ho : UnR X (unaryOp op) r) (ha : PE X a ta) : PE X (.UnaryOp op a pos) (tUn r ta) := by
  intro pins s σ H Q I h
  exact UnaryOp_ (thn (ha pins s σ H _ I h) fun v s1 ⟨x, H1, I1, r1, q1⟩ => ho pins s1 σ H1 x v Q I1 r1 q1)
theorem opI {f : Value → Value → Sem Value} {C : Int → Int → Prop} {g : Int → Int → Int}
    (rule : ∀ (i j : Int) (t u : Tok) (s : Shared) (Q : Value → Shared → Prop) (E : Value → Shared → Prop), C i j → Q (.int (g i j) s.toks) { s with toks := s.toks + 1 } → wpAny (model X.prog X.w) X.A (f (.int i t) (.int j u)) Q E s) :
    OpR X f (rI C fun i j => .int (g i j)) := by
  intro pins s σ H x y v u Q I rx ry h
  obtain ⟨i, j, rfl, rfl, hc, q⟩ := h
  obtain ⟨t, rfl⟩ := rx
  obtain ⟨t', rfl⟩ := ry
  exact rule i j t t' s _ _ hc ⟨.int (g i j), H, I.tok _, ⟨_, rfl⟩, q⟩
theorem opI0 {f : Value → Value → Sem Value} {g : Int → Int → Int}
    (rule : ∀ (i j : Int) (t u : Tok) (s : Shared) (Q : Value → Shared → Prop) (E : Value → Shared → Prop), Q (.int (g i j) s.toks) { s with toks := s.toks + 1 } → wpAny (model X.prog X.w) X.A (f (.int i t) (.int j u)) Q E s) :
    OpR X f (rI0 fun i j => .int (g i j)) := by
  intro pins s σ H x y v u Q I rx ry h
  obtain ⟨i, j, rfl, rfl, q⟩ := h
  obtain ⟨t, rfl⟩ := rx
  obtain ⟨t', rfl⟩ := ry
  exact rule i j t t' s _ _ ⟨.int (g i j), H, I.tok _, ⟨_, rfl⟩, q⟩
theorem opB0 {f : Value → Value → Sem Value} {g : Int → Int → Bool}
    (rule : ∀ (i j : Int) (t u : Tok) (s : Shared) (Q : Value → Shared → Prop) (E : Value → Shared → Prop), Q (.bool (g i j)) s → wpAny (model X.prog X.w) X.A (f (.int i t) (.int j u)) Q E s) :
    OpR X f (rI0 fun i j => .bl (g i j)) := by
  intro pins s σ H x y v u Q I rx ry h
  obtain ⟨i, j, rfl, rfl, q⟩ := h
  obtain ⟨t, rfl⟩ := rx
  obtain ⟨t', rfl⟩ := ry
  exact rule i j t t' s _ _ ⟨.bl (g i j), H, I, rfl, q⟩

noncomputable def CDiv (i j : Int) : Prop := 0 < j ∧ j < 1073741824
noncomputable def CMul (i j : Int) : Prop := (-(2 ^ 64) < i ∧ i < 2 ^ 64) ∨ (-(2 ^ 64) < j ∧ j < 2 ^ 64)
theorem CMul.ok {i j : Int} (h : CMul i j) : IntMulOk i j := by
  rcases h with ⟨h1, h2⟩ | ⟨h1, h2⟩
  · exact .of_left (intBits_le_64 h1 h2)
  · exact .of_right (intBits_le_64 h1 h2)
theorem op_add : OpR X (binaryOp .Add) (rI0 fun i j => .int (i + j)) := opI0 fun _ _ _ _ _ _ _ q => add_int q
theorem op_sub : OpR X (binaryOp .Sub) (rI0 fun i j => .int (i - j)) := opI0 fun _ _ _ _ _ _ _ q => sub_int q
theorem op_mul : OpR X (binaryOp .Mult) (rI CMul fun i j => .int (i * j)) := opI fun _ _ _ _ _ _ _ hc q => mul_int q hc.ok
theorem op_fdiv : OpR X (binaryOp .FloorDiv) (rI CDiv fun i j => .int (i / j)) := opI fun i j _ _ _ _ _ hc q => by
  have h1 : (0 : Int) < j := hc.1
  have h2 : j < 1073741824 := hc.2
  exact floordiv_int (by omega) (by rw [Int.fdiv_eq_ediv_of_nonneg i (by omega)]; exact q) (.inl (PyProof.noPylong_small (by omega)))
theorem op_mod : OpR X (binaryOp .Mod) (rI (fun _ j => 0 < j) fun i j => .int (i % j)) := opI fun i j _ _ _ _ _ hc q => by
  have h1 : (0 : Int) < j := hc
  exact mod_int' (by omega) (by rw [Int.fmod_eq_emod_of_nonneg i (by omega)]; exact q)
theorem unI {f : Value → Sem Value} {g : Int → Int}
    (rule : ∀ (i : Int) (t : Tok) (s : Shared) (Q : Value → Shared → Prop) (E : Value → Shared → Prop), Q (.int (g i) s.toks) { s with toks := s.toks + 1 } → wpAny (model X.prog X.w) X.A (f (.int i t)) Q E s) :
    UnR X f (rU fun i => .int (g i)) := by
  intro pins s σ H x v Q I rx h
  obtain ⟨i, rfl, q⟩ := h
  obtain ⟨t, rfl⟩ := rx
  exact rule i t s _ _ ⟨.int (g i), H, I.tok _, ⟨_, rfl⟩, q⟩
theorem un_neg : UnR X (unaryOp .USub) (rU fun i => .int (-i)) := unI fun _ _ _ _ _ q => neg_int q
end

section
variable {X : Cx} {a b c : Expr} {ta tb tc : TE} {pos : Pos}
theorem op_gt : OpR X (compareOp .Gt) (rI0 fun i j => .bl (decide (j < i))) := opB0 fun _ _ _ _ _ _ _ q => gt_int q
theorem OpR.or {f : Value → Value → Sem Value} {r r' : R2} (h : OpR X f r) (h' : OpR X f r') : OpR X f (fun x y H Q => r x y H Q ∨ r' x y H Q) := by
  intro pins s σ H x y v u Q I rx ry q
  rcases q with q | q
  · exact h pins s σ H x y v u Q I rx ry q
  · exact h' pins s σ H x y v u Q I rx ry q

theorem nomark (b : Expr) {op : CmpOp} (h : op ≠ .In := by decide) (h2 : op ≠ .NotIn := by decide) : behindInMarks op b = false := by
  have e1 : (op == CmpOp.In) = false := by cases op <;> first | rfl | exact absurd rfl h
  have e2 : (op == CmpOp.NotIn) = false := by cases op <;> first | rfl | exact absurd rfl h2
  cases b <;> simp [behindInMarks, e1, e2]
theorem pe_cmpR {op : CmpOp} {r : R2} (ho : OpR X (compareOp op) r) (ha : PE X a ta) (hb : PE X b tb) (hm : behindInMarks op b = false) : PE X (.Compare a [op] [b] pos) (tOp r ta tb) := by
  intro pins s σ H Q I h
  exact wpAny_Compare1 (binT ha hb I h fun v u s2 x y H2 I2 rx ry q => ho pins s2 σ H2 x y v u Q I2 rx ry q) hm
noncomputable def tTest (t : TE) : TT := fun σ H Q => t σ H fun x H' => ∃ k, x = .bl k ∧ Q k H'
theorem pt_cmpR {op : CmpOp} {r : R2} (ho : OpR X (compareOp op) r) (ha : PE X a ta) (hb : PE X b tb) (hm : behindInMarks op b = false) : PT X (.Compare a [op] [b] pos) (tTest (tOp r ta tb)) := by
  intro pins s σ H Q I h
  refine wpAny_isTrue_Compare1 (thn (ha pins s σ H _ I h) fun v s1 ⟨x, H1, I1, r1, q1⟩ => thn (hb pins s1 σ H1 _ I1 q1) fun u s2 ⟨y, H2, I2, r2, q2⟩ =>
    thn (ho pins s2 σ H2 x y v u _ I2 r1 r2 q2) fun c s3 ⟨z, H3, I3, r3, k, e, q3⟩ => ?_) hm
  subst e
  cases r3
  exact wpAny_truthy_bool ⟨H3, I3, q3⟩
theorem line63 : (sizeLine : Nat) < 2 ^ 63 := by rw [sizeLine_eq]; decide
theorem op_add_str : OpR X (binaryOp .Add) (fun x y H Q => ∃ i j, x = .str i ∧ y = .str j ∧ i.length + j.length ≤ sizeLine ∧ Q (.str (i ++ j)) H) := by
  intro pins s σ H x y v u Q I rx ry h
  obtain ⟨i, j, rfl, rfl, hz, q⟩ := h
  obtain ⟨t, rfl⟩ := rx
  obtain ⟨t', rfl⟩ := ry
  exact add_str (fun t' tk => ⟨.str (i ++ j), H, I.tok _, ⟨_, rfl⟩, q⟩) hz
theorem vals1 {x : V} {us : List Value} (r : Vals [x] us) : ∃ u, us = [u] ∧ RelV x u := by
  cases r with
  | cons r1 r2 => cases r2; exact ⟨_, rfl, r1⟩
theorem vals2 {x y : V} {us : List Value} (r : Vals [x, y] us) : ∃ u w', us = [u, w'] ∧ RelV x u ∧ RelV y w' := by
  cases r with
  | cons r1 r2 =>
    cases r2 with
    | cons r3 r4 => cases r4; exact ⟨_, _, rfl, r1, r3⟩
theorem call_max2 (hc : X.calm = true) : CallR X (.builtin "max") (fun xs H Q => ∃ i j, xs = [.int i, .int j] ∧ Q (.int (if j > i then j else i)) H) := by
  intro pins s σ H xs us Q I r h
  obtain ⟨i, j, rfl, q⟩ := h
  obtain ⟨u, w', rfl, ⟨t, rfl⟩, ⟨t', rfl⟩⟩ := vals2 r
  refine max_two_ints (I.ok.hd hc) fun h' tk k => ⟨_, H, I.kept k, ?_, q⟩
  by_cases hj : j > i
  · rw [if_pos hj, if_pos hj]; exact ⟨_, rfl⟩
  · rw [if_neg hj, if_neg hj]; exact ⟨_, rfl⟩
theorem call_min2 (hc : X.calm = true) : CallR X (.builtin "min") (fun xs H Q => ∃ i j, xs = [.int i, .int j] ∧ Q (.int (if j < i then j else i)) H) := by
  intro pins s σ H xs us Q I r h
  obtain ⟨i, j, rfl, q⟩ := h
  obtain ⟨u, w', rfl, ⟨t, rfl⟩, ⟨t', rfl⟩⟩ := vals2 r
  refine min_two_ints (I.ok.hd hc) fun h' tk k => ⟨_, H, I.kept k, ?_, q⟩
  by_cases hj : j < i
  · rw [if_pos hj, if_pos hj]; exact ⟨_, rfl⟩
  · rw [if_neg hj, if_neg hj]; exact ⟨_, rfl⟩
end
end L2

namespace L2
open PySem PySem.Spec PyProof.Rows

structure ObjM (h : Heap) (x dx C : Addr) (mA : Str → Option Value) : Prop where
  obj : h.get? x = some (PySem.W.instObj C dx)
  ns : h.Ns1 dx mA
  ne : dx ≠ x

theorem lookIn_ns {h : Heap} {dx : Addr} {mA : Str → Option Value} (n : h.Ns1 dx mA) : ∃ od, h.get? dx = some od ∧ ∀ name, PySem.W.lookIn name od = some (mA name) := by
  obtain ⟨o, es, ep, ho, hd, hk, _, hm⟩ := n
  refine ⟨o, ho, fun name => ?_⟩
  have e := hm name
  unfold nsFind findBy at e
  rw [← Array.find?_toList] at e
  unfold PySem.W.lookIn
  rw [hd]
  dsimp only
  split
  · rename_i y q
    rw [q] at e
    exact congrArg some e
  · rename_i q
    rw [q] at e
    have a : es.toList.any (·.refKey) = false := by
      rw [List.any_eq_false]
      intro y hy
      obtain ⟨z, t, hkey⟩ := hk y (Array.mem_toList_iff.mp hy)
      simp [DictEntry.refKey, hkey]
    have a' : ¬ es.toList.any (·.refKey) = true := by rw [a]; exact Bool.false_ne_true
    rw [if_neg a']
    exact congrArg some e

theorem ObjM.look {h : Heap} {x dx C : Addr} {mA : Str → Option Value} (I : ObjM h x dx C mA) : ∃ od, PySem.W.InstAt h x (PySem.W.instObj C dx) C (some od) ∧ ∀ name, PySem.W.lookIn name od = some (mA name) :=
  let ⟨od, ho, hl⟩ := lookIn_ns I.ns
  ⟨od, ⟨I.obj, rfl, rfl, ho⟩, hl⟩

section
variable {prog : Program} {w : World} {A : Around} {E : Value → Shared → Prop} {s : Shared} {K : PySem.W.Frag} {x dx C f : Addr} {mA : Str → Option Value} {name : Str} {v : Value}

theorem get_map {expr : Bool} {Q : Value → Shared → Prop} (X : K.In s.heap) (I : ObjM s.heap x dx C mA) (hg : PySem.W.plainGet K C name = true) (hh : PySem.W.hasDictIn K C = true)
    (ha : PySem.W.findIn K (.ref C) name = some none) (hv : mA name = some v) (hv' : PySem.W.handedIn v = true) (h : Q v { s with toks := s.toks + 1 }) :
    wpAny (model prog w) A (getAttr (.ref x) name expr) Q E s := by
  obtain ⟨od, J, hl⟩ := I.look
  exact PySem.W.get_value X J (PySem.W.plainGet_of hg).1 (PySem.W.findObj_own hh ha rfl (by rw [hl, hv])) hv' h

theorem get_meth {pl : Sem Bool} {Q : Value × List Value → Shared → Prop} (X : K.In s.heap) (I : ObjM s.heap x dx C mA) (hg : PySem.W.plainGet K C name = true)
    (hf : PySem.W.findIn K (.ref C) name = some (some (.ref f))) (ht : PySem.W.isFn K (.ref f) = true) (hv : mA name = none) (h : Q (.ref f, [.ref x]) s) :
    wpAny (model prog w) A (getMethod (.ref x) name pl) Q E s := by
  obtain ⟨od, J, hl⟩ := I.look
  exact PySem.W.method_fn X J (PySem.W.plainGet_of hg).1 (PySem.W.plainGet_of hg).2 hf (beq_iff_eq.mp ht) (by show (PySem.W.lookIn name od).map (·.isSome) = some false; rw [hl, hv]; rfl) h

theorem set_map {ns : List Str} {Q : Unit → Shared → Prop} (X : K.In s.heap) (I : ObjM s.heap x dx C mA)
    (hs : PySem.W.findIn K (.ref C) "__setattr__" = some (some (.builtin "object.__setattr__"))) (hp : PySem.W.plainOver K C = true) (ht : PySem.W.takerIn K C name = some none) (hh : PySem.W.hasDictIn K C = true)
    (hw : PySem.Within mA ns) (hsz : ns.length ≤ sizeLine)
    (h : ∀ h', ObjM h' x dx C (fun y => if y = name then some v else mA y) → Heap.SameBut dx s.heap h' → Q () { s with heap := h', toks := s.toks + 2 }) :
    wpAny (model prog w) A (setAttr (.ref x) name v) Q E s := by
  obtain ⟨od, J, hl⟩ := I.look
  refine PySem.W.set_plain X J hs (PySem.W.osa_open (s := { s with toks := s.toks + 1 }) (r := none) X J hp ht fun b => ?_)
  obtain ⟨cd, hc, hd'⟩ := PySem.W.any_some hh
  have hx : s.heap.get? x = some ⟨.ref C, some dx, .plain, #[]⟩ := I.obj
  refine wpAny_bind (wpAny_pure (wpAny_bind (wpAny_bind (wpAny_loadPart hx (wpAny_bind (PySem.W.Looks.here (s := { s with toks := s.toks + 1 }) (PySem.W.looks_clsIn X hc) ?_))))))
  rw [hd']
  refine wpAny_pure (a := some dx) (wpAny_bind (wpAny_pure (wpAny_bind ?_)))
  refine wpAny_nsSet1 (s := { s with toks := s.toks + 1 }) I.ns fun h' hn2 hs2 => ?_
  obtain ⟨oD, esD, epD, hoD, hdD, hcD⟩ := hn2.count (PySem.Within.cons name v hw)
  refine wpAny_bind (wpAny_lookBehind hoD (by rw [hdD]; exact pastItsLine_dict (Nat.le_trans hcD (by rw [List.length_cons]; omega))) ?_)
  exact wpAny_pure (h _ ⟨(hs2.2 _ (Ne.symm I.ne)).trans I.obj, hn2, I.ne⟩ hs2)

theorem make_map {R : Result → Shared → Prop} {vs : List Value} {kw : List (Str × Value)} (X : K.In s.heap) (hm : PySem.W.makesIn K C = true)
    (hi : PySem.W.findIn K (.ref C) "__init__" = some (some (.ref f))) (hf : PySem.W.typeIn K (.ref f) = some (.type "function"))
    (h : codeAny (model prog w) (A.under (.builtin "type.__call__" ⟨.ref C :: vs, kw⟩)) (.call (.ref f) ⟨.ref (s.heap.objs.size + 1) :: vs, kw⟩) (PySem.W.InitBack (s.heap.objs.size + 1) R)
      { s with heap := (s.heap.push PySem.W.emptyDict).push (PySem.W.instObj C s.heap.objs.size) }) :
    codeAny (model prog w) A (.call (.ref C) ⟨vs, kw⟩) R s := by
  obtain ⟨hh, g, d, t, os⟩ := s
  exact PySem.W.make_core (PySem.W.makes_of X hm) (PySem.W.looks_findIn X hi) (fun self => PySem.W.bind_fn X self hf) (.inl rfl) h
end

noncomputable def putF (f : Str) (v : V) : List (Str × V) → List (Str × V)
  | [] => [(f, v)]
  | (g, x) :: r => if g = f then (g, v) :: r else (g, x) :: putF f v r
theorem lookup_putF (f g : Str) (v : V) : ∀ fs : List (Str × V), (putF f v fs).lookup g = if g = f then some v else fs.lookup g
  | [] => by
    show List.lookup g [(f, v)] = _
    by_cases h : g = f
    · have hb : (g == f) = true := beq_iff_eq.mpr h
      simp only [List.lookup, hb, if_pos h]
    · have hb : (g == f) = false := beq_eq_false_iff_ne.mpr h
      simp only [List.lookup, hb, if_neg h]
  | (k, x) :: r => by
    have ih := lookup_putF f g v r
    rw [show putF f v ((k, x) :: r) = (if k = f then (k, v) :: r else (k, x) :: putF f v r) from rfl]
    by_cases hk : k = f
    · rw [if_pos hk]
      by_cases h : g = k
      · have hb : (g == k) = true := beq_iff_eq.mpr h
        simp only [List.lookup, hb, if_pos (h.trans hk)]
      · have hb : (g == k) = false := beq_eq_false_iff_ne.mpr h
        simp only [List.lookup, hb, if_neg (fun e : g = f => h (e.trans hk.symm))]
    · rw [if_neg hk]
      by_cases h : g = k
      · have hb : (g == k) = true := beq_iff_eq.mpr h
        simp only [List.lookup, hb, if_neg (fun e : g = f => hk (h.symm.trans e))]
      · have hb : (g == k) = false := beq_eq_false_iff_ne.mpr h
        simp only [List.lookup, hb]
        exact ih
theorem keys_putF (f : Str) (v : V) : ∀ fs : List (Str × V), f ∈ (putF f v fs).map (·.1) ∧ ∀ g, g ∈ fs.map (·.1) → g ∈ (putF f v fs).map (·.1)
  | [] => ⟨by simp [putF], fun g h => by simp at h⟩
  | (k, x) :: r => by
    obtain ⟨i1, i2⟩ := keys_putF f v r
    rw [show putF f v ((k, x) :: r) = (if k = f then (k, v) :: r else (k, x) :: putF f v r) from rfl]
    by_cases hk : k = f
    · rw [if_pos hk]
      subst hk
      exact ⟨by simp, fun g h => by simpa using h⟩
    · rw [if_neg hk]
      refine ⟨?_, fun g h => ?_⟩
      · rw [List.map_cons]
        exact List.mem_cons_of_mem _ i1
      · rw [List.map_cons] at h ⊢
        rcases List.mem_cons.mp h with e | e
        · exact List.mem_cons.mpr (.inl e)
        · exact List.mem_cons_of_mem _ (i2 g e)
theorem length_putF (f : Str) (v : V) : ∀ fs : List (Str × V), (putF f v fs).length ≤ fs.length + 1
  | [] => by simp [putF]
  | (k, x) :: r => by
    have ih := length_putF f v r
    rw [show putF f v ((k, x) :: r) = (if k = f then (k, v) :: r else (k, x) :: putF f v r) from rfl]
    by_cases hk : k = f
    · rw [if_pos hk, List.length_cons, List.length_cons]; omega
    · rw [if_neg hk, List.length_cons, List.length_cons]; omega

theorem RelO.some_of {v : V} {o : Option Value} (r : RelO (some v) o) : ∃ u, o = some u ∧ RelV v u := by
  cases o with
  | none => exact (show False from r).elim
  | some u => exact ⟨u, rfl, r⟩
theorem RelO.none_of {o : Option Value} (r : RelO none o) : o = none := by
  cases o with
  | none => rfl
  | some u => exact (show False from r).elim
theorem handed_of {v : V} {u : Value} (r : RelV v u) : PySem.W.handedIn u = true := by
  cases v with
  | non => cases (show u = Value.none from r); rfl
  | bl b => cases (show u = Value.bool b from r); rfl
  | int i => obtain ⟨t, e⟩ := (show ∃ t, u = Value.int i t from r); cases e; rfl
  | str x => obtain ⟨t, e⟩ := (show ∃ t, u = Value.str x t from r); cases e; rfl
  | byt b => obtain ⟨t, e⟩ := (show ∃ t, u = Value.bytes b t from r); cases e; rfl
  | flt b => obtain ⟨t, e⟩ := (show ∃ t, u = Value.float b t from r); cases e; rfl
  | ref a => cases (show u = Value.ref a from r); rfl
  | ty n => cases (show u = Value.type n from r); rfl

section
variable {P : Program} {w : World} {H H' : Hp} {h h' : Heap} {a C dx : Addr} {fs fs' : List (Str × V)}
theorem ins_get (hok : HOk P w H h) (e : H a = some (.ins C dx fs)) : ∃ mA, ObjM h a dx C mA ∧ (∀ f, RelO (fs.lookup f) (mA f)) ∧ PySem.Within mA (fs.map (·.1)) ∧ fs.length ≤ 1000 ∧ H dx = some (.own a) := by
  obtain ⟨d, z, ne, ob, mA, n, r, q⟩ := (show ObjOk P w H h a (.ins C dx fs) from hok a _ e)
  exact ⟨mA, ⟨ob, n, ne⟩, r, q, z, d⟩
end

structure Cls (K : PySem.W.Frag) (C : Addr) : Prop where
  pg : PySem.W.plainGet K C Str.empty = true
  hd : PySem.W.hasDictIn K C = true
  po : PySem.W.plainOver K C = true
  sa : PySem.W.findIn K (.ref C) "__setattr__" = some (some (.builtin "object.__setattr__"))
theorem Cls.get {K : PySem.W.Frag} {C : Addr} (c : Cls K C) (f : Str) : PySem.W.plainGet K C f = true := c.pg
noncomputable def NoAttr (K : PySem.W.Frag) (C : Addr) (f : Str) : Prop := PySem.W.findIn K (.ref C) f = some none
theorem NoAttr.taker {K : PySem.W.Frag} {C : Addr} {f : Str} (n : NoAttr K C f) : PySem.W.takerIn K C f = some none := by
  unfold PySem.W.takerIn
  rw [show PySem.W.findIn K (.ref C) f = some none from n]
  rfl
structure Con (K : PySem.W.Frag) (C : Addr) (f : Str) (v : V) (u : Value) : Prop where
  at_ : PySem.W.findIn K (.ref C) f = some (some u)
  rel : RelV v u
  get : PySem.W.specialIn K u "__get__" = some none
  cp : PySem.W.copiedNames.contains f = false
structure Meth (K : PySem.W.Frag) (C : Addr) (m : Str) (f : Addr) : Prop where
  at_ : PySem.W.findIn K (.ref C) m = some (some (.ref f))
  fn : PySem.W.isFn K (.ref f) = true
  kp : PySem.W.keepIn K (.ref f) = true

section
variable {X : Cx} {pins : List (Addr × Obj)} {σ : St} {H : Hp} {s : Shared} {a C dx : Addr} {fs : List (Str × V)} {f : Str} {v : V} {A : Around} {E : Value → Shared → Prop}

theorem getattr_ok {b : Bool} {Q : Value → Shared → Prop} (I : Inv X pins σ H s) (e : H a = some (.ins C dx fs)) (c : Cls X.K C) (n : NoAttr X.K C f) (l : fs.lookup f = some v)
    (h : ∀ u s', Inv X pins σ H s' → RelV v u → Q u s') : wpAny (model X.prog X.w) A (getAttr (.ref a) f b) Q E s := by
  obtain ⟨mA, O, r, _, _, _⟩ := ins_get I.hok e
  obtain ⟨u, hu, ru⟩ := RelO.some_of (v := v) (o := mA f) (by rw [← l]; exact r f)
  exact get_map I.kIn O (c.get f) c.hd n hu (handed_of ru) (h u _ (I.tok _) ru)

theorem getmeth_ok {m : Str} {g : Addr} {pl : Sem Bool} {Q : Value × List Value → Shared → Prop} (I : Inv X pins σ H s) (e : H a = some (.ins C dx fs)) (c : Cls X.K C) (k : Meth X.K C m g) (l : fs.lookup m = none)
    (h : Q (.ref g, [.ref a]) s) : wpAny (model X.prog X.w) A (getMethod (.ref a) m pl) Q E s := by
  obtain ⟨mA, O, r, _, _, _⟩ := ins_get I.hok e
  have hn : mA m = none := RelO.none_of (by rw [← l]; exact r m)
  exact get_meth I.kIn O (c.get m) k.at_ k.fn hn h

theorem setattr_ok {y : V} {u : Value} {Q : Unit → Shared → Prop} (I : Inv X pins σ H s) (e : H a = some (.ins C dx fs)) (c : Cls X.K C) (n : NoAttr X.K C f) (hl : fs.length < 1000) (ry : RelV y u)
    (h : ∀ s', Inv X pins σ (upd H a (.ins C dx (putF f y fs))) s' → Q () s') : wpAny (model X.prog X.w) A (setAttr (.ref a) f u) Q E s := by
  obtain ⟨mA, O, r, wi, _, ho⟩ := ins_get I.hok e
  have hz : (fs.map (·.1)).length ≤ sizeLine := by rw [List.length_map, sizeLine_eq]; omega
  refine set_map I.kIn O c.sa c.po n.taker c.hd wi hz fun h' O' sb => h _ ?_
  have hd : ∃ o, h'.get? dx = some o := let ⟨o, _, _, e', _⟩ := O'.ns; ⟨o, e'⟩
  refine I.write (x := a) (e := dx) (by rw [e]; exact True.intro) (.inr ho) (fun b q hb z => (sb.2 b hb).trans z) hd ?_
  refine ⟨by rw [upd_ne O.ne]; exact ho, ?_, O.ne, O'.obj, _, O'.ns, fun g => ?_, fun g hg => ?_⟩
  · have := length_putF f y fs; omega
  · show RelO ((putF f y fs).lookup g) (if g = f then some u else mA g)
    rw [lookup_putF]
    by_cases q : g = f
    · rw [if_pos q, if_pos q]; exact ry
    · rw [if_neg q, if_neg q]; exact r g
  · by_cases q : g = f
    · rw [q]; exact (keys_putF f y fs).1
    · refine (keys_putF f y fs).2 g (wi g fun z => hg ?_)
      show (if g = f then some u else mA g) = none
      rw [if_neg q]; exact z

theorem Inv.made (I : Inv X pins σ H s) : Inv X pins σ (upd (upd H s.heap.objs.size (.own (s.heap.objs.size + 1))) (s.heap.objs.size + 1) (.ins C s.heap.objs.size []))
    { s with heap := (s.heap.push PySem.W.emptyDict).push (PySem.W.instObj C s.heap.objs.size) } := by
  have e1 : (s.heap.push PySem.W.emptyDict).get? s.heap.objs.size = some PySem.W.emptyDict := Heap.get?_push_size s.heap rfl
  have e2 : ((s.heap.push PySem.W.emptyDict).push (PySem.W.instObj C s.heap.objs.size)).get? (s.heap.objs.size + 1) = some (PySem.W.instObj C s.heap.objs.size) := by
    have := Heap.get?_push_size (s.heap.push PySem.W.emptyDict) (o := PySem.W.instObj C s.heap.objs.size) rfl
    rwa [Heap.size_push] at this
  have e3 : (s.heap.push PySem.W.emptyDict).Ns s.heap.objs.size (fun _ => none) := ⟨PySem.W.emptyDict, #[], _, e1, rfl, (fun e he => absurd he (by simp)), fun _ => rfl⟩
  have I1 := I.laid (a := s.heap.objs.size) (o := .own (s.heap.objs.size + 1)) (h' := s.heap.push PySem.W.emptyDict) (t' := s.toks) (fun b u q => Heap.get?_push_of_some _ q) (Nat.le_refl _) ⟨_, e1⟩
  refine I1.laid (a := s.heap.objs.size + 1) (o := .ins C s.heap.objs.size []) (t' := s.toks) (fun b u q => Heap.get?_push_of_some _ q) (Nat.le_of_eq (Heap.size_push _ _)) ?_
  have ne : s.heap.objs.size ≠ s.heap.objs.size + 1 := Nat.ne_of_lt (Nat.lt_succ_self _)
  refine ⟨by rw [upd_ne ne, upd_same], Nat.zero_le _, ne, e2, fun _ => none, (Heap.Ns1.of_empty e3).at fun o q => Heap.get?_push_of_some _ q, fun _ => True.intro, fun y hy => absurd rfl hy⟩

theorem attr_of {prog : Program} {w : World} {env : Env} {e : Expr} {f : Str} {pos : Pos} {s : Shared} {Q : Value → Shared → Prop} (hb : attributeBase e f env (eval e env) = eval e env)
    (h : wpAny (model prog w) A (eval e env) (fun o s₁ => wpAny (model prog w) A (getAttr o f true) Q E s₁) E s) : wpAny (model prog w) A (eval (.Attribute e f pos) env) Q E s :=
  Attribute_any_ h (by rw [arm_eval_Attribute, hb])
end

noncomputable def tFld (K : PySem.W.Frag) (ta : TE) (f : Str) : TE := fun σ H Q => ta σ H fun x H1 => ∃ a C dx fs v, x = .ref a ∧ H1 a = some (.ins C dx fs) ∧ Cls K C ∧ NoAttr K C f ∧ fs.lookup f = some v ∧ Q v H1
noncomputable def sFld (K : PySem.W.Frag) (ta tv : TE) (f : Str) : TS := fun D σ H => tv σ H fun y H1 => ta σ H1 fun x H2 => ∃ a C dx fs, x = .ref a ∧ H2 a = some (.ins C dx fs) ∧ Cls K C ∧ NoAttr K C f ∧ fs.length < 1000 ∧
  D.nx σ (upd H2 a (.ins C dx (putF f y fs)))
noncomputable def InOp (X : Cx) (op : Operator) (rd : V → V → Hp → VK → Prop) : Prop :=
  ∀ (pins : List (Addr × Obj)) (s : Shared) (σ : St) (H : Hp) (x y : V) (u v : Value) (Q : VK), Inv X pins σ H s → RelV x u → RelV y v → rd x y H Q → wpAny (model X.prog X.w) X.A (inplaceOp op u v) (EP X pins σ Q) X.xe s
noncomputable def sFldAug (K : PySem.W.Frag) (ta tv : TE) (rd : V → V → Hp → VK → Prop) (f : Str) : TS := fun D σ H => ta σ H fun x H1 => ∃ a C dx fs v, x = .ref a ∧ H1 a = some (.ins C dx fs) ∧ Cls K C ∧ NoAttr K C f ∧ fs.lookup f = some v ∧
  tv σ H1 fun y H2 => rd v y H2 fun z H3 => ∃ dx' fs', H3 a = some (.ins C dx' fs') ∧ fs'.length < 1000 ∧ D.nx σ (upd H3 a (.ins C dx' (putF f z fs')))

section
variable {X : Cx} {o e value : Expr} {f : Str} {pos pos' tpos : Pos} {ta tv : TE}
theorem pe_fld (he : PE X e ta) (hb : attributeBase e f X.env (eval e X.env) = eval e X.env) : PE X (.Attribute e f pos) (tFld X.K ta f) := by
  intro pins s σ H Q I h
  refine attr_of hb (thn (he pins s σ H _ I h) fun u s1 ⟨x, H1, I1, rx, a, C, dx, fs, v, ex, ea, c, n, l, q⟩ => ?_)
  subst ex
  obtain rfl : u = Value.ref a := rx
  exact getattr_ok I1 ea c n l fun u' s2 I2 ru => ⟨v, H1, I2, ru, q⟩
theorem ps_fld (ha : PE X o ta) (hv : PE X value tv) (hs : swapsWith value (some (.Attribute o f pos')) pos.line X.env = pure false) : PS X (.Assign [.Attribute o f pos'] value pos) (sFld X.K ta tv f) := by
  intro pins s σ H D I h
  refine plainObj_wpAny_Assign_Attribute (thn (hv pins s σ H _ I h) fun u s1 ⟨y, H1, I1, ry, q⟩ => thn (ha pins s1 σ H1 _ I1 q) fun ov s2 ⟨x, H2, I2, rx, a, C, dx, fs, ex, ea, c, n, l, q2⟩ => ?_) hs
  subst ex
  obtain rfl : ov = Value.ref a := rx
  exact setattr_ok I2 ea c n l ry fun s3 I3 => ⟨σ, _, I3, q2⟩
theorem ps_fldaug {op : Operator} {rd : V → V → Hp → VK → Prop} (ha : PE X o ta) (hv : PE X value tv) (hop : InOp X op rd) : PS X (.AugAssign (.Attribute o f tpos) op value pos) (sFldAug X.K ta tv rd f) := by
  intro pins s σ H D I h
  refine wpAny_AugAssign_AttributeAny (thn (ha pins s σ H _ I h) fun ov s1 ⟨x, H1, I1, rx, a, C, dx, fs, v, ex, ea, c, n, l, q⟩ => ?_)
  subst ex
  obtain rfl : ov = Value.ref a := rx
  refine getattr_ok I1 ea c n l fun u s2 I2 ru => thn (hv pins s2 σ H1 _ I2 q) fun w3 s3 ⟨y, H2, I3, ry, q3⟩ => thn (hop pins s3 σ H2 v y u w3 _ I3 ru ry q3) fun w4 s4 ⟨z, H3, I4, rz, dx', fs', ea', l', q4⟩ => ?_
  exact setattr_ok I4 ea' c n l' rz fun s5 I5 => ⟨σ, _, I5, q4⟩
noncomputable def rAdd : V → V → Hp → VK → Prop := fun x y H Q => ∃ i j, x = .int i ∧ y = .int j ∧ Q (.int (i + j)) H
noncomputable def rSub : V → V → Hp → VK → Prop := fun x y H Q => ∃ i j, x = .int i ∧ y = .int j ∧ Q (.int (i - j)) H
theorem in_add : InOp X .Add rAdd := by
  rintro pins s σ H x y u v Q I rx ry ⟨i, j, rfl, rfl, q⟩
  obtain ⟨t, rfl⟩ := (show ∃ t, u = Value.int i t from rx)
  obtain ⟨t', rfl⟩ := (show ∃ t', v = Value.int j t' from ry)
  exact PyProof.Rows.iadd_int ⟨.int (i + j), H, I.tok _, ⟨_, rfl⟩, q⟩
theorem in_sub : InOp X .Sub rSub := by
  rintro pins s σ H x y u v Q I rx ry ⟨i, j, rfl, rfl, q⟩
  obtain ⟨t, rfl⟩ := (show ∃ t, u = Value.int i t from rx)
  obtain ⟨t', rfl⟩ := (show ∃ t', v = Value.int j t' from ry)
  exact PyProof.Rows.isub_int ⟨.int (i - j), H, I.tok _, ⟨_, rfl⟩, q⟩

end

section
variable {X : Cx} {pins : List (Addr × Obj)} {σ : St} {H : Hp} {s : Shared} {A : Around} {E : Value → Shared → Prop} {Q : Value → Shared → Prop} {c : Value} {b : Bool}
inductive TyOf (K : PySem.W.Frag) (H : Hp) : V → Value → Prop where
  | non : TyOf K H .non (.type "NoneType")
  | bl (x : Bool) : TyOf K H (.bl x) (.type "bool")
  | int (i : Int) : TyOf K H (.int i) (.type "int")
  | str (x : Str) : TyOf K H (.str x) (.type "str")
  | flt (x : UInt64) : TyOf K H (.flt x) (.type "float")
  | lst {a : Addr} {xs : List V} (e : H a = some (.lst xs)) : TyOf K H (.ref a) (.type "list")
  | frz {a : Addr} {o : Obj} {xs : List V} (e : H a = some (.frz o (.lst xs))) : TyOf K H (.ref a) (.type "list")
  | tup {a : Addr} {xs : List V} (e : H a = some (.tup xs)) : TyOf K H (.ref a) (.type "tuple")
  | dK {a : Addr} {kvs : List (Key × V)} (e : H a = some (.dK kvs)) : TyOf K H (.ref a) (.type "dict")
  | dT {a : Addr} {kvs : List (List Key × V)} (e : H a = some (.dT kvs)) : TyOf K H (.ref a) (.type "dict")
  | ins {a C dx : Addr} {fs : List (Str × V)} (e : H a = some (.ins C dx fs)) (cl : Cls K C) (ha : PySem.W.findIn K (.ref C) "__class__" = some (some (.builtin "object.__class__")))
      (hn : PySem.W.specialIn K (.builtin "object.__class__") "__get__" = some (some (.builtin "getset_descriptor.__get__"))) (htk : PySem.W.takesIn K (.builtin "object.__class__") = some true)
      (hm : PySem.W.mroIn K C (.type "object") = some true) : TyOf K H (.ref a) (.ref C)
end
end L2

namespace L2
open PySem PySem.Spec PyProof.Rows

structure Room (k : Nat) (A : Around) : Prop where
  hd : A.handled = none
  dp : A.depth + 3 * k + 5 < recursionLimit
  un : A.units + 16 * k + 200 < cLine
theorem Room.mono {j k : Nat} {A : Around} (r : Room k A) (h : j ≤ k) : Room j A := ⟨r.hd, by have := r.dp; omega, by have := r.un; omega⟩
theorem Room.deeper {k : Nat} {A : Around} (r : Room (k + 1) A) (env : Env) : Room k (A.deeper env) :=
  ⟨r.hd, by have := r.dp; show A.depth + 1 + 3 * k + 5 < _; omega, by have := r.un; show A.units + 3 + 16 * k + 200 < _; omega⟩
theorem Room.in1 {k : Nat} {A : Around} (r : Room (k + 1) A) : Room k A.in1 :=
  ⟨r.hd, by have := r.dp; show A.depth + 3 * k + 5 < _; omega, by have := r.un; show A.units + 1 + 16 * k + 200 < _; omega⟩
theorem make_depth {A : Around} {C : Addr} {us : List Value} {kw : List (Str × Value)} : (A.under (.builtin "type.__call__" ⟨.ref C :: us, kw⟩)).depth = A.depth + 1 := by
  first | rfl | simp [Around.under, Code.weight, Code.isCreation, Code.isGuard, Code.isCaller, Code.frames, Code.isFrame, guardIds]
theorem make_units {A : Around} {C : Addr} {us : List Value} {kw : List (Str × Value)} : (A.under (.builtin "type.__call__" ⟨.ref C :: us, kw⟩)).units = A.units + 1 := by
  first | rfl | simp [Around.under, Code.cUnits, Code.frames, Code.isFrame]
theorem Room.make {k : Nat} {A : Around} (r : Room (k + 1) A) (C : Addr) (us : List Value) (kw : List (Str × Value)) : Room k (A.under (.builtin "type.__call__" ⟨.ref C :: us, kw⟩)) :=
  ⟨r.hd, by have := r.dp; rw [make_depth]; omega, by have := r.un; rw [make_units]; omega⟩
theorem Room.depth {k : Nat} {A : Around} (r : Room k A) : A.depth < recursionLimit := by have := r.dp; omega
theorem Room.units {k : Nat} {A : Around} (r : Room k A) : A.units + 64 < cLine := by have := r.un; omega
noncomputable def tNil : TA := fun _ H Q => Q [] H
noncomputable def tCons (ta : TE) (tr : TA) : TA := fun σ H Q => ta σ H fun x H1 => tr σ H1 fun xs H2 => Q (x :: xs) H2
section
variable {X : Cx} {e : Expr} {es : List Expr} {te : TE} {t : TA} {pos : Pos}
theorem pa_nil : PA X [] tNil := fun _ _ _ _ H Q I h => Calls.spliced_nil ⟨[], H, I, .nil, h⟩
theorem pa_cons (ha : PE X e te) (hr : PA X es t) (hs : starEach (e :: es) X.env = (false, eval e X.env) :: starEach es X.env := by rfl) : PA X (e :: es) (tCons te t) := by
  intro pos pins s σ H Q I h
  rw [hs]
  show wpAny _ _ (spliced ((false, eval e X.env) :: backTo pos (starEach es X.env))) _ _ s
  refine Calls.spliced_cons (thn (ha pins s σ H _ I h) fun u s1 ⟨x, H1, I1, r1, q1⟩ => ?_)
  exact thn (hr pos pins s1 σ H1 _ I1 q1) fun us s2 ⟨xs, H2, I2, r2, q2⟩ => ⟨x :: xs, H2, I2, .cons r1 r2, q2⟩

noncomputable def tTup (t : TA) : TE := fun σ H Q => t σ H fun xs H1 => xs.length ≤ sizeLine ∧ ∀ p, H1 p = none → Q (.ref p) (upd H1 p (.tup xs))
noncomputable def tLst (t : TA) : TE := fun σ H Q => t σ H fun xs H1 => xs.length ≤ sizeLine ∧ ∀ p, H1 p = none → Q (.ref p) (upd H1 p (.lst xs))
theorem pe_tup {x1} (h : PA X es t) : PE X (.Tuple es x1 pos) (tTup t) := by
  intro pins s σ H Q I hq
  refine wpAny_Tuple_spliced (thn (h pos pins s σ H _ I hq) fun us s1 ⟨xs, H1, I1, r, z, q⟩ => ⟨by rw [← r.length]; exact z, ?_⟩)
  have hf : H1 s1.heap.objs.size = none := I1.hok.fresh (Nat.le_refl _)
  refine ⟨.ref s1.heap.objs.size, upd H1 s1.heap.objs.size (.tup xs), I1.laid (t' := s1.toks) (fun b u e => Heap.get?_push_of_some _ e) (Nat.le_refl _) ?_, rfl, q _ hf⟩
  exact ⟨z, us, r, ⟨_, Heap.get?_push_size _ rfl, rfl, _, rfl⟩⟩
theorem pe_lst (h : PA X es t) : PE X (.List es pos) (tLst t) := by
  intro pins s σ H Q I hq
  refine wpAny_List_spliced (thn (h pos pins s σ H _ I hq) fun us s1 ⟨xs, H1, I1, r, z, q⟩ => ⟨by rw [← r.length]; exact z, ?_⟩)
  have hf : H1 s1.heap.objs.size = none := I1.hok.fresh (Nat.le_refl _)
  refine ⟨.ref s1.heap.objs.size, upd H1 s1.heap.objs.size (.lst xs), I1.laid (t' := s1.toks) (fun b u e => Heap.get?_push_of_some _ e) (Nat.le_refl _) ?_, rfl, q _ hf⟩
  exact ⟨z, us, 0, r, Heap.get?_push_size _ rfl⟩
end

noncomputable abbrev Sp := List V → Hp → VK → XK → Prop
noncomputable abbrev CXT := List Env → Hp → Shared → XK → Value → Shared → Prop

structure Env0 (P : Program) (w : World) (K : PySem.W.Frag) (mg : Str → Option Value) (base : Heap) (A : Around) (outer : List Env) (s : Shared) (H : Hp) : Prop where
  frames : A.frames = some outer
  mod : Mod K mg base
  bs : ∀ b o, base.get? b = some o → s.heap.get? b = some o ∧ H b = none
  bsz : base.objs.size ≤ s.heap.objs.size
  funs : s.heap.FunFrames base outer
  frf : ∀ b ∈ frs outer, H b = none
  hok : HOk P w H s.heap
  bare : AllBare s.gens
noncomputable def CE (outer : List Env) (P : Program) (w : World) (H : Hp) (s : Shared) (Q : VK) (u : Value) (s' : Shared) : Prop :=
  ∃ v H', s'.os = s.os ∧ AllBare s'.gens ∧ Un (frs outer) [] H H' s.heap s'.heap ∧ HOk P w H' s'.heap ∧ RelV v u ∧ Q v H'
noncomputable def CR (CX : CXT) (outer : List Env) (P : Program) (w : World) (H : Hp) (s : Shared) (Q : VK) (E : XK) (r : Result) (s' : Shared) : Prop :=
  match r with
  | .ok (.ret u) => CE outer P w H s Q u s'
  | .ok _ => False
  | .error e => CX outer H s E e s'
structure FnOk (P : Program) (w : World) (K : PySem.W.Frag) (mg : Str → Option Value) (base : Heap) (CX : CXT) (k : Nat) (f : Addr) (fd : FuncData) (ps : List Str) (sp : Sp) : Prop where
  len : ∀ vs H Q E, sp vs H Q E → vs.length = ps.length
  run : ∀ (A : Around) (outer : List Env) (s : Shared) (H : Hp) (args : Args) (us : List Value) (vs : List V) (Q : VK) (E : XK), Room k A → Env0 P w K mg base A outer s H → BindsTo s fd args (ps.zip us) → Vals vs us → sp vs H Q E →
    codeAny (model P w) A (.call (.ref f) args) (CR CX outer P w H s Q E) s
theorem FnOk.mono {P : Program} {w : World} {K : PySem.W.Frag} {mg : Str → Option Value} {base : Heap} {CX : CXT} {j k : Nat} {f : Addr} {fd : FuncData} {ps : List Str} {sp : Sp} (F : FnOk P w K mg base CX j f fd ps sp) (h : j ≤ k) :
    FnOk P w K mg base CX k f fd ps sp := ⟨F.len, fun A outer s H args us vs Q E hr => F.run A outer s H args us vs Q E (hr.mono h)⟩
theorem FnOk.imp {P : Program} {w : World} {K : PySem.W.Frag} {mg : Str → Option Value} {base : Heap} {CX : CXT} {k : Nat} {f : Addr} {fd : FuncData} {ps : List Str} {sp sp' : Sp} (F : FnOk P w K mg base CX k f fd ps sp)
    (h : ∀ vs H Q E, sp' vs H Q E → sp vs H Q E) : FnOk P w K mg base CX k f fd ps sp' :=
  ⟨fun vs H Q E q => F.len vs H Q E (h _ _ _ _ q), fun A outer s H args us vs Q E hr he hb hv hs => F.run A outer s H args us vs Q E hr he hb hv (h _ _ _ _ hs)⟩

theorem Env0.make {P : Program} {w : World} {K : PySem.W.Frag} {mg : Str → Option Value} {base : Heap} {A : Around} {outer : List Env} {s : Shared} {H : Hp} (e : Env0 P w K mg base A outer s H) (C : Addr) (us : List Value) (kw : List (Str × Value)) :
    Env0 P w K mg base (A.under (.builtin "type.__call__" ⟨.ref C :: us, kw⟩)) outer s H := ⟨by first | exact e.frames | (simpa [Around.under, Code.envs, Code.isFrame, pushEnvs] using e.frames), e.mod, e.bs, e.bsz, e.funs, e.frf, e.hok, e.bare⟩
theorem Env0.in1 {P : Program} {w : World} {K : PySem.W.Frag} {mg : Str → Option Value} {base : Heap} {A : Around} {outer : List Env} {s : Shared} {H : Hp} (e : Env0 P w K mg base A outer s H) :
    Env0 P w K mg base A.in1 outer s H := ⟨e.frames, e.mod, e.bs, e.bsz, e.funs, e.frf, e.hok, e.bare⟩

section
variable {X : Cx} {pins : List (Addr × Obj)} {σ : St} {H : Hp} {s s' : Shared}
theorem Inv.env0 (I : Inv X pins σ H s) : Env0 X.prog X.w X.K X.mg X.base X.A X.stack s H :=
  ⟨I.ok.frames, I.ok.mod, I.bs, Nat.le_trans I.ok.bsz I.sz, I.stack, I.stkFree, I.hok, I.bare⟩
theorem Inv.after {Q : VK} {u : Value} (I : Inv X pins σ H s) (h : CE X.stack X.prog X.w H s Q u s') : EP X pins σ Q u s' := by
  obtain ⟨v, H', os, bare, un, hok, r, q⟩ := h
  obtain ⟨hh, g, d, t, os'⟩ := s'
  obtain rfl : os' = s.os := os
  exact ⟨v, H', I.call (h' := hh) (g' := g) (d' := d) (t' := t) (ch := []) un hok bare (fun b z => absurd z (by simp)), r, q⟩
end

noncomputable def tCall (sp : Sp) (dvs : List V) (E : XK) (t : TA) : TE := fun σ H Q => t σ H fun vs H1 => sp (vs ++ dvs) H1 Q E
noncomputable def tMeth (C : Addr) (m : Str) (sp : Sp) (dvs : List V) (E : XK) (ta : TE) (t : TA) : TE := fun σ H Q => ta σ H fun x H1 => ∃ a dx fs, x = .ref a ∧ H1 a = some (.ins C dx fs) ∧ fs.lookup m = none ∧
  t σ H1 fun vs H2 => sp (x :: (vs ++ dvs)) H2 Q E
noncomputable def tMake (C : Addr) (sp : Sp) (dvs : List V) (E : XK) (t : TA) : TE := fun σ H Q => t σ H fun vs H1 => ∀ x dx, H1 x = none → H1 dx = none → dx ≠ x →
  sp (.ref x :: (vs ++ dvs)) (upd (upd H1 dx (.own x)) x (.ins C dx [])) (fun v H2 => v = .non ∧ Q (.ref x) H2) E

noncomputable def Binds (K : PySem.W.Frag) (fd : FuncData) (ps : List Str) (ds : List Value) : Prop :=
  ∀ (s : Shared) (us : List Value), K.In s.heap → (us ++ ds).length = ps.length → BindsTo s fd ⟨us, []⟩ (ps.zip (us ++ ds))
theorem Binds.all {K : PySem.W.Frag} {fd : FuncData} {ps : List Str} (h : ∀ us : List Value, us.length = ps.length → bindArgs fd ⟨us, []⟩ = pure (ps.zip us)) : Binds K fd ps [] := fun s us _ hl => by
  rw [List.append_nil] at hl ⊢
  exact .of_eq (h us hl)

noncomputable def Passes (CX : CXT) (X : Cx) (E : XK) : Prop := ∀ (pins : List (Addr × Obj)) (σ : St) (H : Hp) (s : Shared) (e : Value) (s' : Shared), Inv X pins σ H s → CX X.stack H s E e s' → X.xe e s'

section
variable {X : Cx} {CX : CXT} {k : Nat} {f C : Addr} {fd : FuncData} {ps : List Str} {sp : Sp} {dvs : List V} {ds : List Value} {E : XK} {x m : Str} {p pos apos : Pos} {e o : Expr} {es : List Expr} {ta : TE} {t : TA}

theorem run_fn {pins : List (Addr × Obj)} {σ : St} {H : Hp} {s : Shared} {Q : VK} {us : List Value} {vs : List V} (F : FnOk X.prog X.w X.K X.mg X.base CX k f fd ps sp) (hr : Room k X.A) (hb : Binds X.K fd ps ds) (hd : Vals dvs ds) (hx : Passes CX X E)
    (I : Inv X pins σ H s) (r : Vals vs us) (h : sp (vs ++ dvs) H Q E) : wpAny (model X.prog X.w) X.A (call (.ref f) us) (EP X pins σ Q) X.xe s := by
  have r2 : Vals (vs ++ dvs) (us ++ ds) := r.append hd
  have hl : (us ++ ds).length = ps.length := by rw [← r2.length]; exact F.len _ _ _ _ h
  refine wpAny_call (codeAny_mono (F.run X.A X.stack s H ⟨us, []⟩ (us ++ ds) (vs ++ dvs) Q E hr I.env0 (hb s us I.kIn hl) r2 h) fun r s' hq => ?_)
  cases r with
  | error e => exact hx pins σ H s e s' I hq
  | ok fl =>
    cases fl with
    | ret u => exact I.after hq
    | next => exact False.elim hq
    | brk => exact False.elim hq
    | cont => exact False.elim hq

theorem pe_call (F : FnOk X.prog X.w X.K X.mg X.base CX k f fd ps sp) (hr : Room k X.A) (hg : Gl X x) (hm : X.mg x = some (.ref f)) (hk : PySem.W.keepIn X.K (.ref f) = true) (hb : Binds X.K fd ps ds) (hd : Vals dvs ds) (hx : Passes CX X E)
    (ha : PA X (e :: es) t) (hdb : (x == ("__debug__" : Str)) = false := by decide) (he : starEach (e :: es) X.env = (false, eval e X.env) :: starEach es X.env := by rfl) (hpl : (backTo pos (starEach es X.env)).any (·.1) = false := by rfl) :
    PE X (.Call (.Name x p) (e :: es) [] pos) (tCall sp dvs E t) := by
  intro pins s σ H Q I h
  refine wpAny_Call_Name_kw (ld_glob I hg hm ?_ hdb)
  refine PySem.W.callWith_K (h₀ := X.base) I.ok.mod.kin hk (thn (ha pos pins s σ H _ I h) fun us s1 ⟨vs, H1, I1, r, q⟩ => ⟨I1.kIn, ?_⟩) he hpl
  exact run_fn F hr hb hd hx I1 r q
theorem pe_meth {pl : Sem Bool} (he : PE X o ta) (c : Cls X.K C) (hm : Meth X.K C m f) (F : FnOk X.prog X.w X.K X.mg X.base CX k f fd ps sp) (hr : Room k X.A) (hb : Binds X.K fd ps ds) (hd : Vals dvs ds) (hx : Passes CX X E) (ha : PA X (e :: es) t)
    (hst : starEach (e :: es) X.env = (false, eval e X.env) :: starEach es X.env := by rfl) (hpl : (backTo pos (starEach es X.env)).any (·.1) = false := by rfl)
    (ht : eval (.Call (.Attribute o m apos) (e :: es) [] pos) X.env = (do
      let ov ← eval o X.env
      standAt apos.atName
      let (f, first) ← holding [ov] (getMethod ov m pl)
      callWith pos f first (backTo pos (starEach (e :: es) X.env)) (backToKw pos (keywordEach [] X.env))) := by rfl) :
    PE X (.Call (.Attribute o m apos) (e :: es) [] pos) (tMeth C m sp dvs E ta t) := by
  intro pins s σ H Q I h
  refine PySem.W.methodCall_KW (pl := pl) (thn (he pins s σ H _ I h) fun u s1 ⟨x, H1, I1, rx, a, dx, fs, ex, ea, l, q⟩ => ?_) ht
  subst ex
  obtain rfl : u = Value.ref a := rx
  refine getmeth_ok I1 ea c hm l ?_
  refine PySem.W.callWith_K (first := [.ref a]) (h₀ := X.base) I.ok.mod.kin hm.kp (thn (ha pos pins s1 σ H1 _ I1 q) fun us s2 ⟨vs, H2, I2, r, q2⟩ => ⟨I2.kIn, ?_⟩) hst hpl
  exact run_fn (us := .ref a :: us) (vs := .ref a :: vs) F hr hb hd hx I2 (.cons rfl r) q2
theorem pe_meth0 {pl : Sem Bool} (he : PE X o ta) (c : Cls X.K C) (hm : Meth X.K C m f) (F : FnOk X.prog X.w X.K X.mg X.base CX k f fd ps sp) (hr : Room k X.A) (hb : Binds X.K fd ps ds) (hd : Vals dvs ds) (hx : Passes CX X E)
    (ht : eval (.Call (.Attribute o m apos) [] [] pos) X.env = (do
      let ov ← eval o X.env
      standAt apos.atName
      let (f, first) ← holding [ov] (getMethod ov m pl)
      callWith pos f first (backTo pos (starEach [] X.env)) (backToKw pos (keywordEach [] X.env))) := by rfl) :
    PE X (.Call (.Attribute o m apos) [] [] pos) (tMeth C m sp dvs E ta tNil) := by
  intro pins s σ H Q I h
  refine PySem.W.methodCall_KW (pl := pl) (thn (he pins s σ H _ I h) fun u s1 ⟨x, H1, I1, rx, a, dx, fs, ex, ea, l, q⟩ => ?_) ht
  subst ex
  obtain rfl : u = Value.ref a := rx
  refine getmeth_ok I1 ea c hm l ?_
  exact PySem.W.callWith_K0 (first := [.ref a]) I1.kIn hm.kp (run_fn (us := [.ref a]) (vs := [.ref a]) F hr hb hd hx I1 (.cons rfl .nil) q)

structure Mk (K : PySem.W.Frag) (C f : Addr) : Prop where
  makes : PySem.W.makesIn K C = true
  init : PySem.W.findIn K (.ref C) "__init__" = some (some (.ref f))
  fn : PySem.W.isFn K (.ref f) = true
  kp : PySem.W.keepIn K (.ref C) = true

theorem run_make {pins : List (Addr × Obj)} {σ : St} {H : Hp} {s : Shared} {Q : VK} {us : List Value} {vs : List V} (M : Mk X.K C f) (F : FnOk X.prog X.w X.K X.mg X.base CX k f fd ps sp) (hr : Room (k + 1) X.A) (hb : Binds X.K fd ps ds) (hd : Vals dvs ds)
    (hx : Passes CX X E) (I : Inv X pins σ H s) (r : Vals vs us)
    (h : ∀ x dx, H x = none → H dx = none → dx ≠ x → sp (.ref x :: (vs ++ dvs)) (upd (upd H dx (.own x)) x (.ins C dx [])) (fun v H2 => v = .non ∧ Q (.ref x) H2) E) :
    wpAny (model X.prog X.w) X.A (call (.ref C) us) (EP X pins σ Q) X.xe s := by
  have hq := h (s.heap.objs.size + 1) s.heap.objs.size (I.hok.fresh (Nat.le_succ _)) (I.hok.fresh (Nat.le_refl _)) (Nat.ne_of_lt (Nat.lt_succ_self _))
  have I2 := Inv.made (C := C) I
  have r2 : Vals (V.ref (s.heap.objs.size + 1) :: (vs ++ dvs)) (Value.ref (s.heap.objs.size + 1) :: (us ++ ds)) := .cons rfl (r.append hd)
  have hl : (Value.ref (s.heap.objs.size + 1) :: us ++ ds).length = ps.length := by
    have e := r2.length
    rw [F.len _ _ _ _ hq] at e
    exact e.symm
  refine wpAny_call (make_map (f := f) I.kIn M.makes M.init (beq_iff_eq.mp M.fn) (codeAny_mono (F.run _ X.stack _ _ ⟨Value.ref (s.heap.objs.size + 1) :: us, []⟩ (Value.ref (s.heap.objs.size + 1) :: (us ++ ds)) _ _ E (hr.make C us [])
    (I2.env0.make C us []) (hb _ (Value.ref (s.heap.objs.size + 1) :: us) I2.kIn hl) r2 hq) fun r s' hq' => ?_))
  cases r with
  | error e => exact hx pins σ _ _ e s' I2 hq'
  | ok fl =>
    cases fl with
    | ret u =>
      obtain ⟨v, H', I3, rv, ev, q3⟩ := I2.after hq'
      subst ev
      exact ⟨rv, ⟨V.ref (s.heap.objs.size + 1), H', I3, rfl, q3⟩⟩
    | next => exact False.elim hq'
    | brk => exact False.elim hq'
    | cont => exact False.elim hq'
theorem pe_make0 (M : Mk X.K C f) (F : FnOk X.prog X.w X.K X.mg X.base CX k f fd ps sp) (hr : Room (k + 1) X.A) (hg : Gl X x) (hm : X.mg x = some (.ref C)) (hb : Binds X.K fd ps ds) (hd : Vals dvs ds) (hx : Passes CX X E)
    (hdb : (x == ("__debug__" : Str)) = false := by decide) : PE X (.Call (.Name x p) [] [] pos) (tMake C sp dvs E tNil) := by
  intro pins s σ H Q I h
  refine wpAny_Call_Name_kw (ld_glob I hg hm ?_ hdb)
  exact PySem.W.callWith_K0 I.kIn M.kp (run_make (us := []) M F hr hb hd hx I .nil h)
end

section
variable {X : Cx} {CX : CXT} {k : Nat} {f C : Addr} {fd : FuncData} {ps ks : List Str} {sp : Sp} {E : XK} {x m : Str} {p pos apos kpos : Pos} {e o : Expr} {es : List Expr} {kws : List Keyword} {te ta : TE} {t tk : TA} {nm : Option Str}
structure KBinds (K : PySem.W.Frag) (fd : FuncData) (ps ks : List Str) (g : List Value → List Value → List Value) (gV : List V → List V → List V) : Prop where
  to : ∀ (s : Shared) (us ws : List Value), K.In s.heap → (g us ws).length = ps.length → BindsTo s fd ⟨us, ks.zip ws⟩ (ps.zip (g us ws))
  rel : ∀ {vs : List V} {us : List Value} {zs : List V} {ws : List Value}, Vals vs us → Vals zs ws → Vals (gV vs zs) (g us ws)
variable {g : List Value → List Value → List Value} {gV : List V → List V → List V}
end

structure FnScope (N P : List Str) (sc : Scope) : Prop where
  kind : sc.kind = .function
  co : sc.isCoroutine = false
  gen : sc.isGenerator = false
  nd : N.Nodup
  pre : N.take P.length = P
  par : ∀ x ∈ P, sc.names.lookup x = some .local ∨ sc.names.lookup x = some .cell
  nofree : ∀ y ∈ sc.names, y.2 ≠ .free

theorem bindL_out {kindOf : Str → Option NameKind} {x : Str} : ∀ {binds : List (Str × Value)} {m : Str → Option Value}, (∀ v, (x, v) ∉ binds) → bindL kindOf binds m x = m x
  | [], _, _ => rfl
  | (n, v) :: r, m, h => by
    unfold bindL
    rw [bindL_out fun w hw => h w (List.mem_cons_of_mem _ hw)]
    split
    · have : x ≠ n := by rintro rfl; exact h v List.mem_cons_self
      simp [this]
    · rfl
theorem bindC_out {kindOf : Str → Option NameKind} {x : Str} : ∀ {binds : List (Str × Value)} {m : Str → Option Value}, (∀ v, (x, v) ∉ binds) → bindC kindOf binds m x = m x
  | [], _, _ => rfl
  | (n, v) :: r, m, h => by
    unfold bindC
    rw [bindC_out fun w hw => h w (List.mem_cons_of_mem _ hw)]
    split
    · rfl
    · have : x ≠ n := by rintro rfl; exact h v List.mem_cons_self
      simp [this]
theorem bindL_get {kindOf : Str → Option NameKind} {x : Str} {v : Value} : ∀ {P : List Str} {vs : List Value} {i : Nat} {m : Str → Option Value}, P.Nodup → P[i]? = some x → vs[i]? = some v → kindOf x = some .local →
    bindL kindOf (P.zip vs) m x = some v
  | [], _, _, _, _, h, _, _ => by simp at h
  | _ :: _, [], _, _, _, _, h, _ => by simp at h
  | p :: P, w :: vs, 0, m, nd, h1, h2, hk => by
    simp at h1 h2; subst h1; subst h2
    show bindL kindOf ((p, w) :: P.zip vs) m p = _
    unfold bindL
    rw [bindL_out fun v hv => (List.nodup_cons.mp nd).1 (List.of_mem_zip hv).1, if_pos hk]
    simp
  | p :: P, w :: vs, i + 1, m, nd, h1, h2, hk => by
    show bindL kindOf ((p, w) :: P.zip vs) m x = _
    unfold bindL
    exact bindL_get (i := i) (List.nodup_cons.mp nd).2 (by simpa using h1) (by simpa using h2) hk
theorem bindC_get {kindOf : Str → Option NameKind} {x : Str} {v : Value} : ∀ {P : List Str} {vs : List Value} {i : Nat} {m : Str → Option Value}, P.Nodup → P[i]? = some x → vs[i]? = some v → kindOf x ≠ some .local →
    bindC kindOf (P.zip vs) m x = some v
  | [], _, _, _, _, h, _, _ => by simp at h
  | _ :: _, [], _, _, _, _, h, _ => by simp at h
  | p :: P, w :: vs, 0, m, nd, h1, h2, hk => by
    simp at h1 h2; subst h1; subst h2
    show bindC kindOf ((p, w) :: P.zip vs) m p = _
    unfold bindC
    rw [bindC_out fun v hv => (List.nodup_cons.mp nd).1 (List.of_mem_zip hv).1, if_neg hk]
    simp
  | p :: P, w :: vs, i + 1, m, nd, h1, h2, hk => by
    show bindC kindOf ((p, w) :: P.zip vs) m x = _
    unfold bindC
    exact bindC_get (i := i) (List.nodup_cons.mp nd).2 (by simpa using h1) (by simpa using h2) hk

noncomputable def start (N : List Str) (vs : List V) : St := vs.map some ++ List.replicate (N.length - vs.length) none

noncomputable def cxOf (CX : CXT) (P : Program) (w : World) (K : PySem.W.Frag) (mg : Str → Option Value) (base : Heap) (N : List Str) (qual : Str) (scope : Scope) (f : Addr) (cd : Value) (A : Around) (outer : List Env) (s : Shared) (H : Hp) (E : XK) : Cx where
  prog := P
  w := w
  K := K
  mg := mg
  base := base
  A := A.deeper (envOfC qual scope s.heap.objs.size f cd)
  N := N
  s₀ := s
  H₀ := H
  env := envOfC qual scope s.heap.objs.size f cd
  outer := outer
  stack := envOfC qual scope s.heap.objs.size f cd :: outer
  ex := []
  calm := true
  fn := fun _ => true
  pn := []
  xe := fun e s' => wpAny (model P w) (A.deeper (envOfC qual scope s.heap.objs.size f cd)) (leaving (envOfC qual scope s.heap.objs.size f cd) e) (fun _ s'' => CX outer H s E e s'') (fun e' s'' => CX outer H s E e' s'') s'

theorem cell_has {sc : Scope} {n : Nat} {x : Str} (h : sc.names.lookup x = some .cell) : ∃ c, (cellsFrom n sc.names []).lookup x = some c := by
  have q := PySem.W.cellsFrom_some sc.names n [] (.inl h)
  exact Option.isSome_iff_exists.mp q

theorem inv_start {CX : CXT} {P : Program} {w : World} {K : PySem.W.Frag} {mg : Str → Option Value} {base : Heap} {N ps : List Str} {qual : Str} {scope : Scope} {f : Addr} {cd : Value} {A : Around} {outer : List Env} {s s1 : Shared} {H : Hp} {E : XK} {us : List Value} {vs : List V}
    (S : FnScope N ps scope) (hd : A.handled = none) (e0 : Env0 P w K mg base A outer s H) (hl : vs.length = ps.length) (r : Vals vs us)
    (x : InCallC s s.heap.objs.size (bindL (envOfC qual scope s.heap.objs.size f cd).kindOf (ps.zip us) fun _ => none) (cellsFrom (s.heap.objs.size + 1) scope.names []) (bindC (envOfC qual scope s.heap.objs.size f cd).kindOf (ps.zip us) fun _ => none) s1) :
    Inv (cxOf CX P w K mg base N qual scope f cd A outer s H E) [] (start N vs) H s1 := by
  have hpl : ps.length ≤ N.length := by have := congrArg List.length S.pre; rw [List.length_take] at this; omega
  obtain ⟨h1, tk, rfl, hk⟩ := x.done
  have noA : ∀ b : Addr, b ∉ (cxOf CX P w K mg base N qual scope f cd A outer s H E).ex := fun b z => absurd (show b ∈ ([] : List Addr) from z) (by simp)
  refine ⟨⟨e0.mod, S.kind, rfl, rfl, Nat.le_refl _, fun y z c h1 h2 => ?_, fun y hy => ?_, fun y c _ h => ?_, fun _ => hd, Around.frames_deeper e0.frames, .inr ⟨rfl, rfl⟩, fun b z => absurd z (noA b), e0.bs, e0.bsz, fun b _ _ => noA b, fun b z => absurd z (noA b), e0.funs, e0.frf⟩,
    rfl, e0.bare, Un.kept hk, ⟨_, x.toInCall.ns, fun i y v h1 h2 h3 => ?_⟩, fun y c h => ⟨_, x.cell y c h⟩, e0.hok.fresh (Nat.le_refl _), fun y c h => ?_, fun p hp => absurd (show p ∈ ([] : List (Addr × Obj)) from hp) (by simp), e0.hok.kept hk, ?_⟩
  · exact name_of_addr x.apart (PySem.mem_of_lookup h1) (PySem.mem_of_lookup h2)
  · have hy : scope.names.lookup y = some .cell ∨ scope.names.lookup y = some .free := hy
    rcases hy with hy | hy
    · exact cell_has hy
    · exact absurd rfl (S.nofree _ (PySem.mem_of_lookup hy))
  · exact Nat.le_of_lt (x.above y c (PySem.mem_of_lookup h))
  · have hi : i < vs.length := by
      unfold start at h2
      by_cases hi : i < vs.length
      · exact hi
      · rw [List.getElem?_append_right (by simpa using hi)] at h2
        rw [List.getElem?_replicate] at h2
        split at h2 <;> cases h2
    have ha : vs[i]? = some v := by
      unfold start at h2
      rw [List.getElem?_append_left (by simpa using hi), List.getElem?_map] at h2
      cases e : vs[i]? with
      | none => rw [e] at h2; cases h2
      | some a => rw [e] at h2; cases h2; rfl
    obtain ⟨u, hu, rv⟩ := r.get ha
    have hp : ps[i]? = some y := by
      rw [← S.pre, List.getElem?_take_of_lt (by omega)]; exact h1
    have ndP : ps.Nodup := by rw [← S.pre]; exact S.nd.sublist (List.take_sublist _ _)
    refine ⟨u, rv, ?_⟩
    rcases S.par y (List.mem_of_getElem? hp) with k | k
    · exact .inl ⟨k, bindL_get ndP hp hu k⟩
    · obtain ⟨c, e⟩ := cell_has (n := s.heap.objs.size + 1) k
      refine .inr ⟨.inl k, c, e, ?_⟩
      have q := x.cell y c e
      rw [bindC_get ndP hp hu (by show scope.names.lookup y ≠ _; rw [k]; decide)] at q
      exact q
  · exact e0.hok.fresh (Nat.le_of_lt (x.above y c (PySem.mem_of_lookup h)))
  · unfold start
    show _ = N.length
    rw [List.length_append, List.length_map, List.length_replicate]
    omega

theorem fn_of {CX : CXT} {P : Program} {w : World} {K : PySem.W.Frag} {mg : Str → Option Value} {base : Heap} {k : Nat} {f : Addr} {name qual : Str} {params : Arguments} {body : List Stmt} {scope : Scope} {dV kV doc pm cdv ct oc : Value} {an od : Option Addr}
    {osl : Array (Option Value)} {N ps : List Str} {sp : Sp} (lk : K.lookup f = some ⟨oc, od, .func (PySem.W.fnOf name qual params body scope dV kV doc pm an cdv ct), osl⟩) (hcd : PySem.W.codeIn K cdv qual = true) (S : FnScope N ps scope)
    (len : ∀ vs H Q E, sp vs H Q E → vs.length = ps.length)
    (hbody : ∀ (A : Around) (outer : List Env) (s : Shared) (H : Hp) (vs : List V) (Q : VK) (E : XK), Room k (A.deeper (envOfC qual scope s.heap.objs.size f cdv)) → sp vs H Q E →
      ∃ t, PSs (cxOf CX P w K mg base N qual scope f cdv A outer s H E) body t ∧ t { nx := fun _ H' => Q .non H', rt := Q } (start N vs) H) :
    FnOk P w K mg base CX (k + 1) f (PySem.W.fnOf name qual params body scope dV kV doc pm an cdv ct) ps sp := by
  refine ⟨len, fun A outer s H args us vs Q E hr e0 hb r hsp => ?_⟩
  have hl := len _ _ _ _ hsp
  have KX : K.In s.heap := e0.mod.kin.keeps fun b o e => (e0.bs b o e).1
  have lim : s.heap.NoLimit := e0.mod.nolimit.keeps fun b o e => (e0.bs b o e).1
  have hkind : ∀ y ∈ ps.zip us, scope.names.lookup y.1 = some .local ∨ (scope.names.lookup y.1 = some .cell ∧ ((cellsFrom (s.heap.objs.size + 1) scope.names []).lookup y.1).isSome = true) := fun ⟨n, v⟩ hy => by
    rcases S.par n (List.of_mem_zip hy).1 with q | q
    · exact .inl q
    · exact .inr ⟨q, PySem.W.cellsFrom_some _ _ _ (.inl q)⟩
  refine codeAny_call_function hr.depth (KX _ _ lk) rfl S.co S.gen rfl (PySem.W.codeRec_of KX hcd) (hb _ _ _ _ ?_)
  refine wpAny_newFunctionEnv_cells S.kind hkind fun env he s1 x => ?_
  subst he
  refine ⟨lim.keeps x.toInCall.keep, codeAny_func ?_⟩
  obtain ⟨t, ht, hq⟩ := hbody A outer s H vs Q E (hr.deeper _) hsp
  have I : Inv (cxOf CX P w K mg base N qual scope f cdv A outer s H E) [] (start N vs) H s1 := inv_start S hr.hd e0 hl r x
  refine wpAny_mono (ht [] s1 (start N vs) H _ I hq) (fun fl s' hs => ?_) fun e s' hs => hs
  have fin : ∀ {σ' : St} {H' : Hp} {v : V} {u : Value}, Inv (cxOf CX P w K mg base N qual scope f cdv A outer s H E) [] σ' H' s' → RelV v u → Q v H' → CE outer P w H s Q u s' :=
    fun {σ' H' v u} J rv q => ⟨v, H', J.os, J.bare, J.base, J.hok, rv, q⟩
  cases fl with
  | ret u =>
    obtain ⟨v, σ', H', J, rv, q⟩ := hs
    exact fin J rv q
  | next =>
    obtain ⟨σ', H', J, q⟩ := hs
    exact fin (v := V.non) (u := Value.none) J rfl q
  | brk =>
    obtain ⟨_, _, _, q⟩ := hs
    exact False.elim q
  | cont =>
    obtain ⟨_, _, _, q⟩ := hs
    exact False.elim q
end L2

namespace L2
open PySem PySem.Spec PyProof.Rows
section
variable {X : Cx} {x : Str} {p pos : Pos} {e : Expr} {es : List Expr} {t : TA} {id T : String} {r : List V → Hp → VK → Prop}

noncomputable def tCB (r : List V → Hp → VK → Prop) (t : TA) : TE := fun σ H Q => t σ H fun vs H1 => r vs H1 Q
theorem pe_callB (hc : CallR X (.builtin id) r) (hg : Gl X x) (hm : X.mg x = none) (hv : bootBuiltins x = some (.builtin id)) (ha : PA X (e :: es) t) (hn : x ≠ "__name__" := by decide) (hdb : (x == ("__debug__" : Str)) = false := by decide)
    (he : starEach (e :: es) X.env = (false, eval e X.env) :: starEach es X.env := by rfl) (hpl : (backTo pos (starEach es X.env)).any (·.1) = false := by rfl) : PE X (.Call (.Name x p) (e :: es) [] pos) (tCB r t) := by
  intro pins s σ H Q I h
  refine wpAny_Call_Name_kw (ld_blt I hg hm hv ?_ hn hdb)
  exact PyProof.Rows.callWith_builtin1 (thn (ha pos pins s σ H _ I h) fun us s1 ⟨vs, H1, I1, r1, q1⟩ => hc pins s1 σ H1 vs us Q I1 r1 q1) he hpl
theorem pe_callTy (hc : CallR X (.type T) r) (hg : Gl X x) (hm : X.mg x = none) (hv : bootBuiltins x = some (.type T)) (ha : PA X (e :: es) t) (hn : x ≠ "__name__" := by decide) (hdb : (x == ("__debug__" : Str)) = false := by decide)
    (he : starEach (e :: es) X.env = (false, eval e X.env) :: starEach es X.env := by rfl) (hpl : (backTo pos (starEach es X.env)).any (·.1) = false := by rfl) : PE X (.Call (.Name x p) (e :: es) [] pos) (tCB r t) := by
  intro pins s σ H Q I h
  refine wpAny_Call_Name_kw (ld_blt I hg hm hv ?_ hn hdb)
  exact PyProof.Rows.callWith_type1 (thn (ha pos pins s σ H _ I h) fun us s1 ⟨vs, H1, I1, r1, q1⟩ => hc pins s1 σ H1 vs us Q I1 r1 q1) he hpl
end
end L2

namespace HT
open PySem PyProof.Rows

section
open PySem.SeqAt
open PySem.AutoSeq1 (wpAny_loadPart')
open PySem.MeetsSeq PySem.MeetsSeq2 PySem.MeetsSeq3

end

section
variable {prog : Program} {w : World} {A : Around} {E : Value → Shared → Prop} {s : Shared}

theorem cat_tup {t b : Addr} {vs ws : List Value} {Q : Value → Shared → Prop} (ht : IsTup s.heap t vs.toArray) (hb : IsTup s.heap b ws.toArray) (hv : vs ≠ [])
    (h1 : ws = [] → Q (.ref t) s) (h2 : ws ≠ [] → Q (.ref s.heap.objs.size) { s with heap := s.heap.push { cls := .type "tuple", data := .seq (vs ++ ws).toArray } })
    (hsz : vs.length + ws.length ≤ sizeLine) : wpAny (model prog w) A (binaryOp .Add (.ref t) (.ref b)) Q E s := by
  obtain ⟨⟨cls, dd, data, sl⟩, ho, hc, n, hd⟩ := id ht
  obtain ⟨⟨cls2, dd2, data2, sl2⟩, ho2, hc2, n2, hd2⟩ := id hb
  simp only at hc hd hc2 hd2
  subst hc hd hc2 hd2
  have e : vs.toArray ++ ws.toArray = (vs ++ ws).toArray := by simp
  by_cases hw : ws = []
  · exact concat_meets ⟨_, ho, rfl⟩ ⟨_, ho2, rfl⟩ noFill_tuple_add seq_tuple_add PySem.F.slot_tuple_add PySem.F.entry_tuple_add (PySem.F.args_tuple_add_2 _ _)
      (tuple_addW1 t b vs.toArray ws.toArray n n2 dd dd2 sl sl2 (by simpa using hv) (by simp [hw])) ⟨ho, ho2, h1 hw⟩
  · refine concat_meets ⟨_, ho, rfl⟩ ⟨_, ho2, rfl⟩ noFill_tuple_add seq_tuple_add PySem.F.slot_tuple_add PySem.F.entry_tuple_add (PySem.F.args_tuple_add_2 _ _)
      (tuple_addW2 t b vs.toArray ws.toArray n n2 dd dd2 sl sl2 (by simpa using hv) (by simpa using hw) (by rw [List.size_toArray, List.size_toArray]; exact hsz)) ⟨ho, ho2, ?_⟩
    rw [e]
    exact h2 hw

noncomputable def sIx (n d : Nat) : Option Int → Nat
  | none => d
  | some v => if v < 0 then (v + (n : Int)).toNat else min v.toNat n
theorem sIx_none (n d : Nat) : sIx n d none = d := rfl
theorem sIx_nat (n d k : Nat) : sIx n d (some (k : Int)) = min k n := by
  show (if (k : Int) < 0 then ((k : Int) + (n : Int)).toNat else min (k : Int).toNat n) = min k n
  rw [if_neg (by omega), Int.toNat_natCast]
end
end HT

namespace L2
open PySem PySem.Spec PyProof.Rows

noncomputable abbrev TO := St → Hp → (Option Int → Hp → Prop) → Prop
noncomputable def PO (X : Cx) (e : Option Expr) (t : TO) : Prop :=
  ∀ (pins : List (Addr × Obj)) (s : Shared) (σ : St) (H : Hp) (Q : Option Int → Hp → Prop), Inv X pins σ H s → t σ H Q →
    wpAny (model X.prog X.w) X.A (evalPart e X.env) (fun u s' => ∃ o H', Inv X pins σ H' s' ∧ IsPart u o ∧ Q o H') X.xe s
noncomputable def tNoPart : TO := fun _ H Q => Q none H
noncomputable def tPart (t : TE) : TO := fun σ H Q => t σ H fun x H1 => ∃ i, x = .int i ∧ Q (some i) H1

section
variable {X : Cx} {e : Expr} {te : TE} {lo hi : Option Expr} {tl th : TO} {pos p2 : Pos}

theorem po_none : PO X none tNoPart := by
  intro pins s σ H Q I h
  rw [evalPart_none]
  exact wpAny_pure ⟨none, H, I, .none, h⟩
theorem po_some (h : PE X e te) : PO X (some e) (tPart te) := by
  intro pins s σ H Q I hw
  rw [evalPart_some]
  refine thn (h pins s σ H _ I hw) fun u s1 ⟨x, H1, I1, r1, q1⟩ => ?_
  obtain ⟨i, rfl, q⟩ := q1
  obtain ⟨t, rfl⟩ := r1
  exact ⟨some i, H1, I1, .int i t, q⟩

noncomputable def SlR (X : Cx) (r : V → Option Int → Option Int → Hp → VK → Prop) : Prop :=
  ∀ (pins : List (Addr × Obj)) (s : Shared) (σ : St) (H : Hp) (x : V) (v vl vu : Value) (lo hi : Option Int) (sl : Addr) (Q : VK), Inv X pins σ H s → RelV x v → s.heap.IsSliceOf sl vl vu .none → IsPart vl lo → IsPart vu hi → r x lo hi H Q →
    ∃ T id, typeLookup (.type T) "__getitem__" = pure (some (.builtin id)) ∧ s.TypeIs v T ∧ wpAny (model X.prog X.w) X.A (getItem v (.ref sl)) (EP X pins σ Q) X.xe s
theorem SlR.or {r r' : V → Option Int → Option Int → Hp → VK → Prop} (h : SlR X r) (h' : SlR X r') : SlR X (fun x lo hi H Q => r x lo hi H Q ∨ r' x lo hi H Q) := by
  intro pins s σ H x v vl vu lo hi sl Q I rx hs pl pu q
  rcases q with q | q
  · exact h pins s σ H x v vl vu lo hi sl Q I rx hs pl pu q
  · exact h' pins s σ H x v vl vu lo hi sl Q I rx hs pl pu q
noncomputable def tSl (r : V → Option Int → Option Int → Hp → VK → Prop) (te : TE) (tl th : TO) : TE := fun σ H Q => te σ H fun x H1 => tl σ H1 fun l H2 => th σ H2 fun u H3 => r x l u H3 Q
theorem pe_slice {r : V → Option Int → Option Int → Hp → VK → Prop} (hr : SlR X r) (he : PE X e te) (hl : PO X lo tl) (hu : PO X hi th) : PE X (.Subscript e (.Slice lo hi none p2) pos) (tSl r te tl th) := by
  intro pins s σ H Q I h
  refine Subscript_ (thn (he pins s σ H _ I h) fun v s1 ⟨x, H1, I1, r1, q1⟩ => ?_)
  refine wpAny_Slice (thn (hl pins s1 σ H1 _ I1 q1) fun vl s2 ⟨l, H2, I2, pl, q2⟩ => thn (hu pins s2 σ H2 _ I2 q2) fun vu s3 ⟨u, H3, I3, pu, q3⟩ => ?_)
  rw [evalPart_none]
  refine wpAny_pure ?_
  have I4 : Inv X pins σ H3 { s3 with heap := s3.heap.push { cls := .type "slice", data := .fields #[vl, vu, .none] } } := I3.kept (t' := s3.toks) fun b ob q => Heap.get?_push_of_some _ q
  obtain ⟨T, id, hT, ht, hg⟩ := hr pins { s3 with heap := s3.heap.push { cls := .type "slice", data := .fields #[vl, vu, .none] } } σ H3 x v vl vu l u s3.heap.objs.size Q I4 r1 (Heap.IsSliceOf.new ..) pl pu q3
  show wpAny (model X.prog X.w) X.A (subscriptTail e (.Slice lo hi none p2) v (.ref s3.heap.objs.size)) (EP X pins σ Q) X.xe { s3 with heap := s3.heap.push { cls := .type "slice", data := .fields #[vl, vu, .none] } }
  exact tail_any (ops := [.ref s3.heap.objs.size, v]) ht hT hg (by with_unfolding_all rfl)

noncomputable def cutV (xs : List V) (lo hi : Option Int) : List V := (xs.drop (HT.sIx xs.length 0 lo)).take (HT.sIx xs.length xs.length hi - HT.sIx xs.length 0 lo)
theorem cutV_length (xs : List V) (lo hi : Option Int) : (cutV xs lo hi).length ≤ xs.length := by
  unfold cutV
  rw [List.length_take, List.length_drop]
  omega
noncomputable def rCatT (K : PySem.W.Frag) : R2 := fun x y H Q => ∃ a b xs ys, x = .ref a ∧ y = .ref b ∧ SqT K H a xs ∧ SqT K H b ys ∧ xs ≠ [] ∧ xs.length + ys.length ≤ sizeLine ∧
  (ys = [] → Q (.ref a) H) ∧ (ys ≠ [] → ∀ p, H p = none → Q (.ref p) (upd H p (.tup (xs ++ ys))))
theorem Vals.nil_iff {xs : List V} {us : List Value} (r : Vals xs us) : us = [] ↔ xs = [] := by
  cases r with
  | nil => simp
  | cons _ _ => simp
theorem op_catT : OpR X (binaryOp .Add) (rCatT X.K) := by
  intro pins s σ H x y v u Q I rx ry h
  obtain ⟨a, b, xs, ys, rfl, rfl, ha, hb, hx, hz, q1, q2⟩ := h
  cases rx
  cases ry
  obtain ⟨its, r1, p1, _⟩ := I.tuple ha
  obtain ⟨its2, r2, p2, _⟩ := I.tuple hb
  refine HT.cat_tup p1 p2 (fun z => hx (r1.nil_iff.mp z)) (fun z => ⟨.ref a, H, I, rfl, q1 (r2.nil_iff.mp z)⟩) (fun z => ?_) (by rw [← r1.length, ← r2.length]; exact hz)
  refine ⟨.ref s.heap.objs.size, _, I.laid (t' := s.toks) (o := .tup (xs ++ ys)) (fun b ob q => Heap.get?_push_of_some _ q) (Nat.le_refl _) ?_, rfl, q2 (fun w => z (r2.nil_iff.mpr w)) _ (I.hok.fresh (Nat.le_refl _))⟩
  exact ⟨by rw [List.length_append]; exact hz, _, r1.append r2, IsTup.new _ _⟩
end
end L2

namespace L2
open PySem PySem.Spec PyProof.Rows

noncomputable def ixN (n : Nat) (i : Int) : Option Nat := if 0 ≤ i then (if i < n then some i.toNat else none) else if -(n : Int) ≤ i then some (i + n).toNat else none
noncomputable def atI {α : Type} (xs : List α) (i : Int) : Option α := (ixN xs.length i).bind fun j => xs[j]?
theorem ixN_seq {n : Nat} {i : Int} {j : Nat} (h : ixN n i = some j) : seqIndex? i n = some j ∧ j < n ∧ -(n : Int) ≤ i ∧ i < n := by
  unfold ixN at h
  by_cases h0 : 0 ≤ i
  · rw [if_pos h0] at h
    by_cases h1 : i < n
    · rw [if_pos h1] at h
      have e : i.toNat = j := Option.some.inj h
      exact ⟨by rw [seqIndex_of h0 h1, e], by omega, by omega, h1⟩
    · rw [if_neg h1] at h; cases h
  · rw [if_neg h0] at h
    by_cases h1 : -(n : Int) ≤ i
    · rw [if_pos h1] at h
      have e : (i + n).toNat = j := Option.some.inj h
      exact ⟨by rw [seqIndex_neg (by omega) h1, e], by omega, h1, by omega⟩
    · rw [if_neg h1] at h; cases h
theorem atI_get {α : Type} {xs : List α} {i : Int} {v : α} (h : atI xs i = some v) : ∃ j, seqIndex? i xs.length = some j ∧ xs[j]? = some v ∧ j < xs.length ∧ -(xs.length : Int) ≤ i ∧ i < xs.length := by
  unfold atI at h
  cases e : ixN xs.length i with
  | none => rw [e] at h; cases h
  | some j =>
    rw [e] at h
    obtain ⟨h1, h2, h3, h4⟩ := ixN_seq e
    exact ⟨j, h1, h, h2, h3, h4⟩
theorem atI_nat {α : Type} {xs : List α} {j : Nat} {v : α} (h : xs[j]? = some v) : atI xs (j : Int) = some v := by
  have hj : j < xs.length := (List.getElem?_eq_some_iff.mp h).1
  have e : ixN xs.length (j : Int) = some j := by
    unfold ixN
    rw [if_pos (by omega), if_pos (by omega)]; simp
  unfold atI; rw [e]; exact h
noncomputable def PlainIx (b : Expr) : Prop := ∀ o i, subscripted b false o i = operate [o, i] (getItem o i)
noncomputable def IxR (X : Cx) (r : R2) : Prop :=
  ∀ (value slice : Expr) (pins : List (Addr × Obj)) (s : Shared) (σ : St) (H : Hp) (x y : V) (v u : Value) (Q : VK), Inv X pins σ H s → RelV x v → RelV y u → r x y H Q →
    subscripted slice false v u = operate [v, u] (getItem v u) → wpAny (model X.prog X.w) X.A (subscriptTail value slice v u) (EP X pins σ Q) X.xe s
noncomputable def MtR (X : Cx) (id : String) (r : V → List V → Hp → VK → Prop) : Prop :=
  ∀ (pins : List (Addr × Obj)) (s : Shared) (σ : St) (H : Hp) (x : V) (xs : List V) (v : Value) (us : List Value) (Q : VK), Inv X pins σ H s → RelV x v → Vals xs us → r x xs H Q →
    wpAny (model X.prog X.w) X.A (call (.builtin id) (v :: us)) (EP X pins σ Q) X.xe s
section
variable {X : Cx} {a b : Expr} {ta tb : TE} {pos : Pos}
theorem IxR.or {r r' : R2} (h : IxR X r) (h' : IxR X r') : IxR X (fun x y H Q => r x y H Q ∨ r' x y H Q) := by
  intro value slice pins s σ H x y v u Q I rx ry q hs
  rcases q with q | q
  · exact h value slice pins s σ H x y v u Q I rx ry q hs
  · exact h' value slice pins s σ H x y v u Q I rx ry q hs
theorem MtR.or {id : String} {r r' : V → List V → Hp → VK → Prop} (h : MtR X id r) (h' : MtR X id r') : MtR X id (fun x xs H Q => r x xs H Q ∨ r' x xs H Q) := by
  intro pins s σ H x xs v us Q I rx rs q
  rcases q with q | q
  · exact h pins s σ H x xs v us Q I rx rs q
  · exact h' pins s σ H x xs v us Q I rx rs q
theorem pe_ix {r : R2} (hr : IxR X r) (ha : PE X a ta) (hb : PE X b tb) (hs : PlainIx b) : PE X (.Subscript a b pos) (tOp r ta tb) := by
  intro pins s σ H Q I h
  exact Subscript_ (binT ha hb I h fun v u s2 x y H2 I2 rx ry q => hr a b pins s2 σ H2 x y v u Q I2 rx ry q (hs _ _))

noncomputable def rIxL (K : PySem.W.Frag) : R2 := fun x y H Q => ∃ p xs i v, x = .ref p ∧ y = .int i ∧ SqL K H p xs ∧ atI xs i = some v ∧ Q v H
noncomputable def rIxT (K : PySem.W.Frag) : R2 := fun x y H Q => ∃ p xs i v, x = .ref p ∧ y = .int i ∧ SqT K H p xs ∧ atI xs i = some v ∧ Q v H
noncomputable def rIxS : R2 := fun x y H Q => ∃ z i c, x = .str z ∧ y = .int i ∧ z.length ≤ sizeLine ∧ atI z.cps.toList i = some c ∧ Q (.str ⟨#[c]⟩) H
theorem ix_list : IxR X (rIxL X.K) := by
  intro value slice pins s σ H x y v u Q I rx ry h hs
  obtain ⟨p, xs, i, z, rfl, rfl, hq, he, q⟩ := h
  cases rx
  obtain ⟨t, rfl⟩ := ry
  obtain ⟨its, r, pl, hz⟩ := I.list hq
  obtain ⟨j, h1, h2, h3, h4, h5⟩ := atI_get he
  obtain ⟨w, ew, rw'⟩ := r.get h2
  have hl := r.length
  have hn := line63
  have fin : EP X pins σ Q w s := ⟨z, H, I, rw', q⟩
  by_cases h0 : 0 ≤ i
  · have hj : i.toNat = j := by
      rw [seqIndex_of h0 h5] at h1
      exact Option.some.inj h1
    exact item_listR pl.isList h0 (by omega) (by rw [hj]; simpa using ew) fin hs
  · have hj : (i + (its.toArray.size : Int)).toNat = j := by
      rw [seqIndex_neg (by omega) h4] at h1
      rw [List.size_toArray, ← hl]
      exact Option.some.inj h1
    exact subscriptTail_builtinR (x := w) pl.isList.typeIs slot_list_getitem.lookup
      (wpAny_getItem_list_neg (Q := fun r s' => r = w ∧ EP X pins σ Q r s') pl.isList (by omega) (by rw [List.size_toArray] <;> omega) (by omega) (by rw [hj]; simpa using ew) ⟨rfl, fin⟩) hs
theorem ix_tup : IxR X (rIxT X.K) := by
  intro value slice pins s σ H x y v u Q I rx ry h hs
  obtain ⟨p, xs, i, z, rfl, rfl, hq, he, q⟩ := h
  cases rx
  obtain ⟨t, rfl⟩ := ry
  obtain ⟨its, r, pl, hz⟩ := I.tuple hq
  obtain ⟨j, h1, h2, h3, h4, h5⟩ := atI_get he
  obtain ⟨w, ew, rw'⟩ := r.get h2
  have hl := r.length
  have hn := line63
  have fin : EP X pins σ Q w s := ⟨z, H, I, rw', q⟩
  exact subscriptTail_builtinR (x := w) pl.typeIs slot_tuple_getitem.lookup
    (getItem_tuple (j := j) (Q := fun r s' => r = w ∧ EP X pins σ Q r s') pl (by omega) (by omega) (by rw [List.size_toArray, ← hl]; exact h1) (by simpa using ew) ⟨rfl, fin⟩) hs
theorem ix_str : IxR X rIxS := by
  intro value slice pins s σ H x y v u Q I rx ry h hs
  obtain ⟨z, i, c, rfl, rfl, hz, he, q⟩ := h
  obtain ⟨t, rfl⟩ := rx
  obtain ⟨t', rfl⟩ := ry
  obtain ⟨j, h1, h2, h3, h4, h5⟩ := atI_get he
  have hl : z.cps.toList.length = z.length := by simp [Str.length]
  rw [hl] at h1 h4 h5
  have hn := line63
  exact tail_any (typeIs_str s z t) slot_str_getitem.lookup (getItem_str (c := c) (by
    have e1 : decide (i < -(2 ^ 63 : Int)) = false := decide_eq_false (by omega)
    have e2 : decide (i ≥ 2 ^ 63) = false := decide_eq_false (by omega)
    rw [e1, e2, Bool.or_false]) (by rw [h1]; simpa using h2) ⟨.str ⟨#[c]⟩, H, I.tok _, ⟨_, rfl⟩, q⟩) hs
theorem Inv.lst {pins : List (Addr × Obj)} {σ : St} {H : Hp} {s : Shared} {p : Addr} {xs : List V} (I : Inv X pins σ H s) (h : H p = some (.lst xs)) :
    ∃ (its : List Value) (n : Nat), Vals xs its ∧ s.heap.get? p = some { cls := .type "list", data := .seq its.toArray n } ∧ xs.length ≤ sizeLine := by
  obtain ⟨z, its, n, r, e⟩ := I.hok p _ h
  exact ⟨its, n, r, e, z⟩
theorem slice_bounds (lo hi : Option Int) (n : Nat) : (sliceBounds lo hi none n).1 = ((HT.sIx n 0 lo : Nat) : Int) ∧ (sliceBounds lo hi none n).2.1 = ((HT.sIx n n hi : Nat) : Int) ∧ (sliceBounds lo hi none n).2.2 = 1 := by
  refine ⟨?_, ?_, rfl⟩
  · cases lo with
    | none => simp [sliceBounds, HT.sIx]
    | some i =>
      simp only [sliceBounds, HT.sIx, Option.getD_none, show (1 : Int) > 0 by decide, if_true]
      by_cases h : i < 0
      · simp only [h, if_true] <;> omega
      · simp only [h, if_false] <;> omega
  · cases hi with
    | none => simp [sliceBounds, HT.sIx]
    | some i =>
      simp only [sliceBounds, HT.sIx, Option.getD_none, show (1 : Int) > 0 by decide, if_true]
      by_cases h : i < 0
      · simp only [h, if_true] <;> omega
      · simp only [h, if_false] <;> omega
theorem slicePick_cut (its : List Value) (lo hi : Option Int) : slicePick its.toArray lo hi none = ((its.drop (HT.sIx its.length 0 lo)).take (HT.sIx its.length its.length hi - HT.sIx its.length 0 lo)).toArray := by
  obtain ⟨h1, h2, h3⟩ := slice_bounds lo hi its.toArray.size
  unfold slicePick
  rw [h1, h2, h3]
  simp only [sliceRange_one, pick_run, List.size_toArray] <;> rfl
noncomputable def rSlL (K : PySem.W.Frag) : V → Option Int → Option Int → Hp → VK → Prop := fun x lo hi H Q => ∃ a xs, x = .ref a ∧ SqL K H a xs ∧ ∀ p, H p = none → Q (.ref p) (upd H p (.lst (cutV xs lo hi)))
theorem sl_list : SlR X (rSlL X.K) := by
  intro pins s σ H x v vl vu lo hi sl Q I rx hs pl pu h
  obtain ⟨a, xs, rfl, hx, q⟩ := h
  cases rx
  obtain ⟨its, r, ht, hz⟩ := I.list hx
  have hlen := r.length
  refine ⟨"list", _, slot_list_getitem.lookup, ht.isList.typeIs, ?_⟩
  refine wpAny_getItem_list_slice ht.isList hs pl pu .none (by simp) ?_ (by rw [List.size_toArray] <;> omega)
  rw [slicePick_cut, ← hlen]
  refine ⟨.ref s.heap.objs.size, _, I.laid (t' := s.toks) (o := .lst (cutV xs lo hi)) (fun b ob q => Heap.get?_push_of_some _ q) (Nat.le_refl _) ?_, rfl, q _ (I.hok.fresh (Nat.le_refl _))⟩
  exact ⟨Nat.le_trans (cutV_length xs lo hi) hz, _, 0, (r.drop (HT.sIx xs.length 0 lo)).take (HT.sIx xs.length xs.length hi - HT.sIx xs.length 0 lo), Heap.get?_push_size _ rfl⟩

theorem call_len_seq : CallR X (.builtin "len") (fun xs H Q => ∃ p ys, xs = [.ref p] ∧ (SqL X.K H p ys ∨ SqT X.K H p ys) ∧ Q (.int ys.length) H) := by
  intro pins s σ H xs us Q I r h
  obtain ⟨p, ys, rfl, hq, q⟩ := h
  obtain ⟨u, rfl, rx⟩ := vals1 r
  cases rx
  have hn := line63
  rcases hq with hq | hq
  · obtain ⟨its, r', pl, hz⟩ := I.list hq
    have hlen := r'.length
    exact Calls.call_len_list pl.isList (by simp only [List.size_toArray] <;> omega) ⟨.int ys.length, H, I.tok _, ⟨s.toks + 1, by rw [List.size_toArray, hlen]⟩, q⟩
  · obtain ⟨its, r', pl, hz⟩ := I.tuple hq
    have hlen := r'.length
    exact len_tuple pl (by simp only [List.size_toArray] <;> omega) ⟨.int ys.length, H, I.tok _, ⟨s.toks + 1, by rw [List.size_toArray, hlen]⟩, q⟩
theorem call_len_str : CallR X (.builtin "len") (fun xs H Q => ∃ z, xs = [.str z] ∧ z.length ≤ sizeLine ∧ Q (.int z.length) H) := by
  intro pins s σ H xs us Q I r h
  obtain ⟨z, rfl, hz, q⟩ := h
  obtain ⟨u, rfl, t, rfl⟩ := vals1 r
  have hn := line63
  exact len_str (by omega) ⟨.int z.length, H, I.tok _, ⟨_, rfl⟩, q⟩
theorem CallR.or {f : Value} {r r' : List V → Hp → VK → Prop} (h : CallR X f r) (h' : CallR X f r') : CallR X f (fun xs H Q => r xs H Q ∨ r' xs H Q) := by
  intro pins s σ H xs us Q I rs q
  rcases q with q | q
  · exact h pins s σ H xs us Q I rs q
  · exact h' pins s σ H xs us Q I rs q
theorem call_list_of : CallR X (.type "list") (fun xs H Q => ∃ p ys, xs = [.ref p] ∧ (SqL X.K H p ys ∨ SqT X.K H p ys) ∧ ∀ l, H l = none → Q (.ref l) (upd H l (.lst ys))) := by
  intro pins s σ H xs us Q I r h
  obtain ⟨p, ys, rfl, hq, q⟩ := h
  obtain ⟨u, rfl, rx⟩ := vals1 r
  cases rx
  have fin : ∀ (its : List Value), Vals ys its → ys.length ≤ sizeLine → ∀ (h' : Heap) (c' : Nat), (∀ b o', s.heap.get? b = some o' → h'.get? b = some o') →
      h'.get? s.heap.objs.size = some { cls := .type "list", dict := none, data := .seq its.toArray c', slots := #[] } → EP X pins σ Q (.ref s.heap.objs.size) { s with heap := h' } := fun its r' hz h' c' kp e =>
    ⟨.ref s.heap.objs.size, _, I.laid (t' := s.toks) kp (Nat.le_refl _) (show ObjOk X.prog X.w _ h' _ (.lst ys) from ⟨hz, its, c', r', e⟩), rfl, q _ (I.hok.fresh (Nat.le_refl _))⟩
  rcases hq with hq | hq
  · obtain ⟨its, r', pl, hz⟩ := I.list hq
    have hlen := r'.length
    obtain ⟨o, ho, hc, n, hd⟩ := pl.isList
    exact call_list_seq p (.inl rfl) ho hc hd (fun h' c' kp e => fin its r' hz h' c' kp e) (by simp only [List.size_toArray] <;> omega)
  · obtain ⟨its, r', pl, hz⟩ := I.tuple hq
    have hlen := r'.length
    obtain ⟨o, ho, hc, n, hd⟩ := pl
    exact call_list_seq p (.inr rfl) ho hc hd (fun h' c' kp e => fin its r' hz h' c' kp e) (by simp only [List.size_toArray] <;> omega)
theorem call_tuple_of : CallR X (.type "tuple") (fun xs H Q => ∃ p ys, xs = [.ref p] ∧ ((SqL X.K H p ys ∧ ∀ l, H l = none → Q (.ref l) (upd H l (.tup ys))) ∨ (SqT X.K H p ys ∧ Q (.ref p) H))) := by
  intro pins s σ H xs us Q I r h
  obtain ⟨p, ys, rfl, h⟩ := h
  obtain ⟨u, rfl, rx⟩ := vals1 r
  cases rx
  rcases h with ⟨hq, q⟩ | ⟨hq, q⟩
  · obtain ⟨its, r', pl, hz⟩ := I.list hq
    have hlen := r'.length
    refine call_tuple_list pl.isList (fun h' kp => ?_) (by simp only [List.size_toArray] <;> omega)
    have I1 : Inv X pins σ H { s with heap := h' } := I.kept (t' := s.toks) kp
    have I2 : Inv X pins σ (upd H h'.objs.size (.tup ys)) { s with heap := h'.push { cls := .type "tuple", data := .seq its.toArray } } :=
      I1.laid (t' := s.toks) (fun b o e => Heap.get?_push_of_some _ e) (Nat.le_refl _) (show ObjOk X.prog X.w _ _ _ (.tup ys) from ⟨hz, its, r', IsTup.new _ _⟩)
    exact ⟨.ref h'.objs.size, _, I2, rfl, q _ (I1.hok.fresh (Nat.le_refl _))⟩
  · obtain ⟨its, r', pl, hz⟩ := I.tuple hq
    exact call_tuple_same pl ⟨.ref p, H, I, rfl, q⟩

noncomputable def tyV (K : PySem.W.Frag) (T : String) (x : V) (H : Hp) : Prop := match x with
  | .str _ => T = "str"
  | .int _ => T = "int"
  | .ref p => (T = "list" ∧ ∃ xs, SqL K H p xs) ∨ (T = "tuple" ∧ ∃ o, K.lookup p = some o ∧ o.cls = .type "tuple" ∧ o.dict = none) ∨
      (T = "dict" ∧ ((∃ kvs, H p = some (.dK kvs)) ∨ ∃ kvs, H p = some (.dT kvs))) ∨ (T = "set" ∧ ∃ S n, H p = some (.set S n))
  | _ => False
theorem tyV_is {pins : List (Addr × Obj)} {σ : St} {H : Hp} {s : Shared} {T : String} {x : V} {v : Value} (I : Inv X pins σ H s) (r : RelV x v) (ty : tyV X.K T x H) :
    s.TypeIs v T ∧ ∀ a, v = .ref a → ∃ ob, s.heap.get? a = some ob ∧ ob.dict = none := by
  cases x with
  | str z =>
    obtain ⟨t, rfl⟩ := r
    cases (show T = "str" from ty)
    exact ⟨typeIs_str s z t, fun _ e => nomatch e⟩
  | int i =>
    obtain ⟨t, rfl⟩ := r
    cases (show T = "int" from ty)
    exact ⟨typeIs_int s i t, fun _ e => nomatch e⟩
  | ref p =>
    cases r
    rcases ty with ⟨rfl, xs, hq⟩ | ⟨rfl, o, hk, hc, hd⟩ | ⟨rfl, hk⟩ | ⟨rfl, S, n, hk⟩
    · obtain ⟨its, _, pl, _⟩ := I.list hq
      refine ⟨pl.isList.typeIs, fun a e => ?_⟩
      cases e
      obtain ⟨o, n, e, c, hd, _⟩ := pl
      exact ⟨o, e, hd⟩
    · refine ⟨⟨o, I.kIn p o hk, hc⟩, fun a e => ?_⟩
      cases e
      exact ⟨o, I.kIn _ o hk, hd⟩
    · have z : ∃ o, s.heap.get? p = some o ∧ o.ExactDict := by
        rcases hk with ⟨kvs, hk⟩ | ⟨kvs, hk⟩
        · obtain ⟨_, _, _, _, o, _, _, e, ex, _⟩ := I.hok p _ hk
          exact ⟨o, e, ex⟩
        · obtain ⟨_, _, _, _, o, _, _, e, ex, _⟩ := I.hok p _ hk
          exact ⟨o, e, ex⟩
      obtain ⟨o, e, ex⟩ := z
      refine ⟨⟨o, e, ex.1⟩, fun a e2 => ?_⟩
      cases e2
      exact ⟨o, e, ex.2.1⟩
    · obtain ⟨o, _, _, _, e, ex, _⟩ := I.hok p _ hk
      refine ⟨⟨o, e, ex.1⟩, fun a e2 => ?_⟩
      cases e2
      exact ⟨o, e, ex.2.1⟩
  | _ => exact False.elim ty
noncomputable def tBM (K : PySem.W.Frag) (T : String) (r : V → List V → Hp → VK → Prop) (to : TE) (t : TA) : TE := fun σ H Q => to σ H fun x H1 => tyV K T x H1 ∧ t σ H1 fun xs H2 => r x xs H2 Q
variable {o e : Expr} {es : List Expr} {to : TE} {t : TA} {name : Str} {apos cpos : Pos} {T id : String} {r : V → List V → Hp → VK → Prop}
theorem pe_bm (pa : PlainAttrs T) (slot : Slot T name id) (hty : typeOf (.builtin id) = pure (.type "method_descriptor")) (hm : MtR X id r) (ho : PE X o to) (ha : PA X (e :: es) t)
    (hbase : attributeBase o name X.env (eval o X.env) = eval o X.env := by rfl)
    (hfew : ((backTo cpos (starEach (e :: es) X.env)).all (fun x => !x.1) && (backToKw cpos (keywordEach [] X.env)).all (fun x => x.1.isSome)
      && decide ((e :: es).length + ([] : List Keyword).length + (if ([] : List Keyword).isEmpty then 0 else 1) < 30)) = true := by rfl)
    (hline : (apos.endLine == cpos.line) = true := by rfl) (hs : starEach (e :: es) X.env = (false, eval e X.env) :: starEach es X.env := by rfl) (hplain : (backTo cpos (starEach es X.env)).any (·.1) = false := by rfl) :
    PE X (.Call (.Attribute o name apos) (e :: es) [] cpos) (tBM X.K T r to t) := by
  intro pins s σ H Q I h
  refine wpAny_Call_method_late hbase hfew hline rfl (thn (ho pins s σ H _ I h) fun v s1 ⟨x, H1, I1, r1, ty, q1⟩ => ?_)
  obtain ⟨h1, h2⟩ := tyV_is I1 r1 ty
  refine ⟨T, id, pa, slot, hty, h1, h2, ?_⟩
  have hA := ha cpos pins s1 σ H1 _ I1 q1
  rw [hs] at hA ⊢
  refine Calls.callWith_builtin (by show (false || (backTo cpos (starEach es X.env)).any (·.1)) = false; rw [hplain] <;> rfl) (Calls.evalArgs_plain ?_)
  exact thn hA fun us s2 ⟨vs, H2, I2, r2, q2⟩ => hm pins s2 σ H2 x vs v us Q I2 r1 r2 q2
/- xs.append(e), list.index on a module's tuple .. are MtR facts of 06m -/
end
end L2

namespace L2
open PySem PySem.Spec PyProof.Rows

noncomputable def MtM (X : Cx) (id : String) (r : V → List V → Hp → VK → Prop) : Prop :=
  ∀ (pins : List (Addr × Obj)) (s : Shared) (σ : St) (H : Hp) (x : V) (xs : List V) (v : Value) (us : List Value) (Q : VK), Inv X pins σ H s → RelV x v → Vals xs us → r x xs H Q →
    wpAny (model X.prog X.w) X.A (call (.builtin id) (v :: us)) (EP X pins σ Q) X.xe s

theorem Vals.one : ∀ {x : V} {us : List Value}, Vals [x] us → ∃ u, us = [u] ∧ RelV x u
  | _, _, .cons r .nil => ⟨_, rfl, r⟩
theorem Vals.zero : ∀ {us : List Value}, Vals [] us → us = []
  | _, .nil => rfl
theorem Vals.reverse {xs : List V} {us : List Value} (h : Vals xs us) : Vals xs.reverse us.reverse := by
  induction h with
  | nil => exact .nil
  | cons r t ih => rw [List.reverse_cons, List.reverse_cons]; exact Vals.append ih (.cons r .nil)
theorem Vals.rep {xs : List V} {us : List Value} (h : Vals xs us) : ∀ k : Nat, Vals (List.replicate k xs).flatten (List.replicate k us).flatten
  | 0 => .nil
  | k + 1 => by
    rw [List.replicate_succ, List.replicate_succ, List.flatten_cons, List.flatten_cons]
    exact Vals.append h (Vals.rep h k)
theorem foldl_rep (its : List Value) : ∀ (k : Nat) (acc : List Value),
    List.foldl (fun x1 x2 => x1 ++ x2) acc.toArray (List.replicate k its.toArray) = (acc ++ (List.replicate k its).flatten).toArray
  | 0, acc => by simp
  | k + 1, acc => by
    have e : acc.toArray ++ its.toArray = (acc ++ its).toArray := by simp
    have e2 : (acc ++ its) ++ (List.replicate k its).flatten = acc ++ (List.replicate (k + 1) its).flatten := by
      rw [List.replicate_succ, List.flatten_cons, List.append_assoc]
    rw [← e2, ← foldl_rep its k (acc ++ its), ← e, List.replicate_succ, List.foldl_cons]

section
variable {X : Cx} {pins : List (Addr × Obj)} {σ : St} {H : Hp} {s : Shared} {l b : Addr} {xs ys zs : List V}

theorem Inv.lset {its its' : List Value} {n : Nat} {f : Array Value → Array Value} {t' : Nat} (I : Inv X pins σ H s) (hH : H l = some (.lst xs))
    (e : s.heap.get? l = some { cls := .type "list", data := .seq its.toArray n }) (hf : f its.toArray = its'.toArray) (hv : Vals ys its') (hz : ys.length ≤ sizeLine) :
    Inv X pins σ (upd H l (.lst ys)) { s with heap := s.heap.update l (Obj.mapSeq f), toks := t' } := by
  have q := PySem.IsL.update e f
  rw [hf] at q
  refine I.write (x := l) (e := l) (by rw [hH]; exact trivial) (.inl rfl) (fun b' u hb hu => (Heap.get?_update_other s.heap (Obj.mapSeq f) (Ne.symm hb)).trans hu) ⟨_, q⟩ ?_
  exact ⟨hz, its', _, hv, q⟩
theorem Inv.lnew {its : List Value} {t' : Nat} (I : Inv X pins σ H s) (hv : Vals ys its) (hz : ys.length ≤ sizeLine) :
    Inv X pins σ (upd H s.heap.objs.size (.lst ys)) { s with heap := s.heap.push { cls := .type "list", data := .seq its.toArray }, toks := t' } :=
  I.laid (fun _ _ q => Heap.get?_push_of_some _ q) (Nat.le_refl _) ⟨hz, its, 0, hv, Heap.get?_push_size _ rfl⟩
theorem Inv.fresh (I : Inv X pins σ H s) : H s.heap.objs.size = none := I.hok.fresh (Nat.le_refl _)
theorem Inv.lstM (I : Inv X pins σ H s) (hH : H l = some (.lst xs)) : xs.length ≤ sizeLine ∧ ∃ (its : List Value) (n : Nat), Vals xs its ∧ xs.length = its.length ∧ s.heap.get? l = some { cls := .type "list", data := .seq its.toArray n } := by
  obtain ⟨z, its, n, r, e⟩ := I.hok l _ hH
  exact ⟨z, its, n, r, r.length, e⟩

end

section
variable {X : Cx}

noncomputable def rAppend : V → List V → Hp → VK → Prop := fun x vs H Q => ∃ l xs y, x = .ref l ∧ vs = [y] ∧ H l = some (.lst xs) ∧ xs.length < sizeLine ∧ Q .non (upd H l (.lst (xs ++ [y])))
theorem mt_append : MtM X "list.append" rAppend := by
  intro pins s σ H x vs v us Q I rx rv h
  obtain ⟨l, xs, y, rfl, rfl, hH, hz, q⟩ := h
  cases rx
  obtain ⟨u, rfl, ru⟩ := rv.one
  obtain ⟨z, its, n, r, hl, e⟩ := I.lstM hH
  refine call_meets F.slot_list_append ⟨_, e, rfl⟩ F.entry_list_append (F.args_list_append_2 _ _) (PySem.list_append l its.toArray n u (by rw [List.size_toArray]; omega)) ⟨e, ?_⟩
  refine ⟨.non, _, I.lset (its' := its ++ [u]) hH e (by simp) (r.append (.cons ru .nil)) ?_, rfl, q⟩
  rw [List.length_append, List.length_singleton]
  omega

noncomputable def rCat : R2 := fun x y H Q => ∃ l b xs zs, x = .ref l ∧ y = .ref b ∧ H l = some (.lst xs) ∧ H b = some (.lst zs) ∧ xs.length + zs.length ≤ sizeLine ∧ ∀ p, H p = none → Q (.ref p) (upd H p (.lst (xs ++ zs)))
theorem op_cat : OpR X (binaryOp .Add) rCat := by
  intro pins s σ H x y v u Q I rx ry h
  obtain ⟨l, b, xs, zs, rfl, rfl, hH, hB, hz, q⟩ := h
  cases rx
  cases ry
  obtain ⟨z, its, n, r, hl, e⟩ := I.lstM hH
  obtain ⟨z2, its2, n2, r2, hl2, e2⟩ := I.lstM hB
  refine PySem.P.add_list e e2 ?_ (by rw [List.size_toArray, List.size_toArray]; omega)
  have ea : its.toArray ++ its2.toArray = (its ++ its2).toArray := by simp
  rw [ea]
  exact ⟨.ref _, _, I.lnew (t' := s.toks) (r.append r2) (by rw [List.length_append]; omega), rfl, q _ I.fresh⟩
theorem len_rep {α : Type} (xs : List α) (k : Nat) : (List.replicate k xs).flatten.length = k * xs.length := by
  induction k with
  | zero => simp
  | succ k ih => rw [List.replicate_succ, List.flatten_cons, List.length_append, ih, Nat.succ_mul, Nat.add_comm]
end

section
variable {prog : Program} {w : World} {A : Around} {E : Value → Shared → Prop} {s : Shared}
end

section
variable {X : Cx}
end
end L2

namespace Att
open PySem PySem.W PySem.Calls PyProof.Rows

theorem ints_of_wellAll {P : Params} {h : Heap} : ∀ (ns : List Int) (vs : List Value), WellAll P h vs (ns.map WData.int) → IntsAre vs ns := by
  intro ns
  induction ns with
  | nil =>
    intro vs w
    rw [List.map_nil] at w
    cases w
    exact .nil
  | cons n ns ih =>
    intro vs w
    rw [List.map_cons] at w
    cases w with
    | cons a b =>
      cases a
      exact .cons _ _ (ih _ b)

theorem script_of {l : OpenLaw} {n : Nat} (hn : l.most = some n) {P : Params} {h : Heap} {args : List WData} {vals : List Value}
    (hpre : l.row.toRowW.claim.pre args = true) (hwl : WellAll P h vals args) :
    ∃ a vs ns, vals = [Value.ref a] ∧ args = [WData.list (ns.map WData.int)] ∧ h.get? a = some { cls := .type "list", data := .seq vs.toArray } ∧ IntsAre vs ns ∧ ns.length ≤ n := by
  have hsh : WShape.hasAll [] args [.list .int] = true := (pre_splitW hpre).1
  have hc : l.pre.holds [] { args := args } = true := (pre_splitW hpre).2
  obtain ⟨d, r, rfl, h1, h2⟩ := hasAllW_cons hsh
  obtain rfl := hasAllW_nil h2
  obtain ⟨xs, rfl, h3⟩ := hasW_list h1
  obtain ⟨ns, rfl⟩ := items_int h3
  have hlen : ns.length ≤ n := by
    unfold OpenLaw.pre at hc
    have h4 : (WTm.not (.lt (.lit (.int (n : Int))) (.len (.arg 0)))).holds [] { args := [.list (ns.map .int)] } = true := by
      have h4 := (holds_andW hc).1
      rw [hn] at h4
      exact h4
    have h5 := condW_of h4 (w_not (w_lt w_lit (w_len_list (w_arg rfl))))
    rw [List.length_map] at h5
    refine Nat.le_of_not_lt fun q => ?_
    have q' : (n : Int) < ((ns.length : Nat) : Int) := by omega
    first
      | (rw [decide_eq_true q'] at h5; exact absurd h5 (by decide))
      | (simp at h5; omega)
  cases hwl with
  | cons w1 w2 =>
    cases w2
    cases w1 with
    | list ho hall => exact ⟨_, _, ns, rfl, rfl, ho, ints_of_wellAll ns _ hall, hlen⟩

theorem post_true (l : OpenLaw) (args : List WData) : l.row.toRowW.claim.post args (.bool true) args = true :=
  postW_of (r := l.row.toRowW) (X := (true == true))
    (show WShape.has [] (.bool true) .bool = true by first | rfl | decide | simp [WShape.has, WShape.arms, WShape.armsAll])
    (show (WTm.eq .res (.lit (.bool true))).value [] { args := args, res := some (.bool true), after := args } = some (.bool (true == true)) from w_eq_bool (w_res rfl) w_lit) rfl

theorem attach_call {l : OpenLaw} {n : Nat} {q : Program} {loose : List Str} {XP : (Str → Option Value) → Heap → Prop} {YP : World → Heap → Prop} {d : DefRec}
    (hn : l.most = some n) (hdf : d.params.defaults = [])
    (call : ∀ (w : World) (s₀ s₁ : Shared) (mg mb : Str → Option Value) (fa : Addr) (o : Obj) (pm cd doc : Value) (a : Addr) (vs : List Value) (ns : List Int),
      Ground q loose [] XP w s₀ mg mb s₁.heap → YP w s₁.heap →
      s₁.heap.get? fa = some o → o.data = .func (docDef d.name d.params d.body d.scope pm cd doc) → s₁.heap.CodeRec cd d.name → mg d.name = some (.ref fa) →
      s₁.heap.get? a = some { cls := .type "list", data := .seq vs.toArray } → IntsAre vs ns → ns.length ≤ n → s₁.gens = #[] →
      codeAny (model l.prog w) callerA (.call (.ref fa) ⟨[.ref a], []⟩) (fun r s' => r = .ok (.ret (.bool true)) ∧ OldK s₁.heap s'.heap ∧ s'.os = s₁.os ∧ AllBare s'.gens) s₁) :
    WalkO q loose XP YP l.row.toRowW d [] (fun f vs => PySem.call f vs) := by
  intro w s₀ s₁ mg mb G Y fa o pm cd doc dV kV ho hd hcd hD hmg hg args vals as hpre hlay hrd hwl hlo
  obtain rfl : dV = .none := Dflts.none hD hdf
  obtain rfl : kV = .none := Dflts.noKw hD
  obtain ⟨a, vs, ns, rfl, rfl, hobj, hints, hlen⟩ := script_of hn hpre hwl
  refine enter_call (codeAny_mono (call w s₀ s₁ mg mb fa o pm cd doc a vs ns G Y ho (fd_plain hd) hcd hmg hobj hints hlen hg) fun r s' hq => ?_)
  obtain ⟨rfl, h2, h3, h4⟩ := hq
  exact ⟨.inl ⟨.bool true, .bool true, [], rfl, fun _ => rfl, .bool true, post_true l _, fun _ => ⟨List.Pairwise.nil, fun _ hm => (nomatch hm)⟩⟩, h2, h3, h4⟩

section
variable {prog : Program} {w : World} {A : Around} {E : Value → Shared → Prop} {s : Shared} {K : Frag}

end
end Att

namespace L2
open PySem PySem.Spec PyProof.Rows

theorem vals_ints : ∀ {vs : List Value} {ns : List Int}, IntsAre vs ns → Vals (ns.map V.int) vs
  | _, _, .nil => .nil
  | _, _, .cons n t h => .cons ⟨t, rfl⟩ (vals_ints h)

noncomputable def Only (H : Hp) : Prop := ∀ b, H b = none ∨ ∃ o xs, H b = some (.frz o (.lst xs))

theorem law_call {P : Program} {w : World} {K : PySem.W.Frag} {mg mb : Str → Option Value} {CX : CXT} {k : Nat} {fa a : Addr} {fd : FuncData} {x : Str} {sp : Sp} {s₁ : Shared} {vs : List Value} {ns : List Int}
    (KX : K.In s₁.heap) (hns : s₁.heap.Ns mainGlobals mg) (hb : s₁.heap.Ns builtinsNs mb) (hbb : ∀ x : Str, x ≠ "__name__" → mb x = bootBuiltins x) (hlim : s₁.heap.NoLimit) (hg : s₁.gens = #[])
    (ha : s₁.heap.get? a = some { cls := .type "list", data := .seq vs.toArray }) (hi : IntsAre vs ns) (hl : ns.length ≤ sizeLine) (hr : Room k callerA)
    (F : ∀ base : Heap, K.In base → base.Ns mainGlobals mg → FnOk P w K mg base CX k fa fd [x] sp) (hbind : ∀ (s : Shared) (u : Value), BindsTo s fd ⟨[u], []⟩ [(x, u)])
    (hsp : ∀ H : Hp, Only H → SqL K H a (ns.map V.int) → sp [.ref a] H (fun v _ => v = .bl true) fun _ _ _ => False)
    (hCX : ∀ H e s', CX [] H s₁ (fun _ _ _ => False) e s' → False) :
    codeAny (model P w) callerA (.call (.ref fa) ⟨[.ref a], []⟩) (fun r s' => r = .ok (.ret (.bool true)) ∧ OldK s₁.heap s'.heap ∧ s'.os = s₁.os ∧ AllBare s'.gens) s₁ := by
  have rv := vals_ints hi
  have lenV := hi.length
  have core : ∀ H : Hp, Only H → SqL K H a (ns.map V.int) → HOk P w H s₁.heap → (∀ b, H b ≠ none → b = a) → (H a ≠ none → K.lookup a = none) →
      codeAny (model P w) callerA (.call (.ref fa) ⟨[.ref a], []⟩) (fun r s' => r = .ok (.ret (.bool true)) ∧ OldK s₁.heap s'.heap ∧ s'.os = s₁.os ∧ AllBare s'.gens) s₁ := by
    intro H hO hS hok hA hK
    have base_of : ∀ {b : Addr} {o : Obj}, s₁.heap.get? b = some o → H b = none → (hidT s₁.heap H).get? b = some o := fun e n => hidT_get e n
    have noA : ∀ {b : Addr} {o : Obj} {es : Array DictEntry} {ep : Nat}, s₁.heap.get? b = some o → o.data = .dict es ep → H b = none := fun {b o es ep} e d => by
      cases q : H b with
      | none => rfl
      | some u =>
        have e' : b = a := hA b (by rw [q]; simp)
        subst e'
        rw [ha] at e; cases e
        have d' : Data.seq vs.toArray _ = Data.dict es ep := d
        cases d'
    have nsK : ∀ {b : Addr} {m : Str → Option Value}, s₁.heap.Ns b m → (hidT s₁.heap H).Ns b m := fun {b m} ⟨o, es, ep, e, d, r⟩ => ⟨o, es, ep, base_of e (noA e d), d, r⟩
    have hKb : K.In (hidT s₁.heap H) := fun b o e => base_of (KX b o e) (by
      cases q : H b with
      | none => rfl
      | some u =>
        have e' : b = a := hA b (by rw [q]; simp)
        subst e'
        rw [hK (by rw [q]; simp)] at e; cases e)
    have hM : Mod K mg (hidT s₁.heap H) := ⟨hKb, nsK hns, ⟨mb, nsK hb, hbb⟩, let ⟨mc, h1, h2⟩ := hlim; ⟨mc, nsK h1, h2⟩⟩
    have e0 : Env0 P w K mg (hidT s₁.heap H) callerA [] s₁ H := ⟨rfl, hM, fun b o e => of_hidT e, Nat.le_of_eq (hidT_size _ _), trivial, fun b hb => absurd (show b ∈ ([] : List Addr) from hb) (by simp), hok, .of_eq hg⟩
    refine codeAny_mono ((F _ hKb (nsK hns)).run callerA [] s₁ H ⟨[.ref a], []⟩ [.ref a] [.ref a] _ _ hr e0 (hbind s₁ (.ref a)) (.cons rfl .nil) (hsp H hO hS)) fun r s' h => ?_
    cases r with
    | error e => exact (hCX H e s' h).elim
    | ok fl =>
      cases fl with
      | next => exact False.elim h
      | brk => exact False.elim h
      | cont => exact False.elim h
      | ret u =>
        obtain ⟨v, H', os, bare, un, hok', r', q⟩ := h
        have q' : v = .bl true := q
        subst q'
        obtain rfl : u = Value.bool true := r'
        refine ⟨rfl, OldK.of_keep fun b o e => ?_, os, bare⟩
        cases q : H b with
        | none => exact un.keep b o e q (by intro z; exact absurd (show b ∈ ([] : List Addr) from z) (by simp)) (by simp)
        | some u =>
          rcases hO b with z | ⟨ob, xs, z⟩
          · rw [q] at z; cases z
          · have z2 := un.frzs b ob _ z
            obtain ⟨e1, _⟩ := hok b _ z
            obtain ⟨e2, _⟩ := hok' b _ z2
            rw [e] at e1; cases e1
            exact e2
  cases hk : K.lookup a with
  | some o =>
    have e := KX a o hk
    rw [ha] at e
    cases e
    refine core (fun _ => none) (fun _ => .inl rfl) (.inr ⟨_, vs.toArray, _, hk, rfl, rfl, rfl, by rw [List.size_toArray, lenV]; exact hl, by simpa using rv⟩) (fun b u z => by have z' : (none : Option HO) = some u := z; cases z') (fun b z => absurd rfl z) fun z => absurd rfl z
  | none =>
    refine core (fun b => if b = a then some (.frz { cls := .type "list", data := .seq vs.toArray } (.lst (ns.map V.int))) else none) (fun b => ?_) (.inl (.inr ⟨{ cls := .type "list", data := .seq vs.toArray }, if_pos rfl⟩)) (fun b u z => ?_) (fun b z => ?_) fun _ => hk
    · by_cases hb : b = a
      · exact .inr ⟨_, _, if_pos hb⟩
      · exact .inl (if_neg hb)
    · by_cases hb : b = a
      · have z' := (if_pos hb).symm.trans z
        cases z'
        subst hb
        exact ⟨ha, by rw [List.length_map]; exact hl, vs, _, rv, ha⟩
      · have z' := (if_neg hb).symm.trans z
        cases z'
    · by_cases hb : b = a
      · exact hb
      · exact absurd (if_neg hb) z
end L2

namespace L2
open PySem PySem.Spec PyProof.Rows

theorem walk_of {l : PySem.W.OpenLaw} {n k : Nat} {q : Program} {loose : List Str} {XP : (Str → Option Value) → Heap → Prop} {YP : World → Heap → Prop} {d : DefRec} {K : Params → PySem.W.Frag} {CX : World → CXT} {sp : World → Sp} {x : Str}
    (hn : l.most = some n) (hn2 : n ≤ sizeLine) (hdf : d.params.defaults = []) (hr : Room k callerA)
    (hY : ∀ (w : World) (h : Heap), YP w h → (K w.params).In h)
    (F : ∀ (w : World) (mg : Str → Option Value) (fa : Addr) (h : Heap), (K w.params).In h → h.Ns mainGlobals mg → mg d.name = some (.ref fa) →
      ∃ fd : FuncData, (∀ (s : Shared) (u : Value), BindsTo s fd ⟨[u], []⟩ [(x, u)]) ∧
        ∀ base : Heap, (K w.params).In base → base.Ns mainGlobals mg → FnOk l.prog w (K w.params) mg base (CX w) k fa fd [x] (sp w))
    (hsp : ∀ (w : World) (H : Hp) (a : Addr) (ns : List Int), ns.length ≤ n → Only H → SqL (K w.params) H a (ns.map V.int) → sp w [.ref a] H (fun v _ => v = .bl true) fun _ _ _ => False)
    (hCX : ∀ (w : World) (H : Hp) (s : Shared) (e : Value) (s' : Shared), CX w [] H s (fun _ _ _ => False) e s' → False) :
    PySem.W.WalkO q loose XP YP l.row.toRowW d [] (fun f vs => PySem.call f vs) := by
  refine Att.attach_call hn hdf fun w s₀ s₁ mg mb fa o pm cd doc a vs ns G Y ho hd hcd hmg hobj hints hlen hg => ?_
  have KX := hY w _ Y
  obtain ⟨fd, hb, hF⟩ := F w mg fa _ KX G.T.g hmg
  exact law_call KX G.T.g G.T.b G.T.builtins G.T.nolimit hg hobj hints (Nat.le_trans hlen hn2) hr hF hb (fun H hO hS => hsp w H a ns hlen hO hS) fun H e s' => hCX w H s₁ e s'
end L2

/- THE LAST THEOREM (shape; LID, My.* are yours):
   My.Adr: a structure of the addresses that your layer names (classes, functions); My.Txt K t: a structure (Prop) of the equations over K;
   My.txt_mk : {K} {implicit addresses ..} (e1 : nsIn K mainGlobals "law" = some (some (.ref f))) (e2 : K.lookup f = some ⟨oc, od, .func (fnOf "law" "law" params body scope dV kV doc pm an cdv ct), sl⟩) (e3 : codeIn K cdv "law" = true) .. : ∃ t, My.Txt K t

set_option maxRecDepth 100000 in
set_option maxHeartbeats 0 in
theorem PySem.Challenge.cw_LID_holds : PySem.Challenge.rw_LID.Holds := by
  w_on; o_law; k_head; (case hw => w_witness2)
  k_fill
  refine L2.walk_of (l := PySem.Challenge.rw_LID) (n := 63) (k := 40) (x := "script") (CX := fun w => ..) (sp := fun _ => My.sp_law) rfl (by decide) rfl ⟨rfl, by decide, by decide⟩ (fun w h Y => PySem.W.kIn_of Y) ?F ?S ?C
  case F =>
    intro w mg fa h KX G hmg
    have T : ∃ t, My.Txt (L2.KOf KX) t := by
      dsimp only [L2.KOf]                          -- K must stand as «<heap const> w.params» for k_is
      refine' My.txt_mk ?e1 ?e2 ?e3 ..
      (case e1 => PySem.W.k_is)                    -- in the order: a name -> its address -> its object -> its parts
      (case e2 => PySem.W.k_is)
      ..
    obtain ⟨t, T⟩ := T
    have e0 := hmg.symm.trans (PySem.W.mg_of KX G T.law)
    cases e0                                       -- fa is the law's own address
    exact ⟨_, fun s u => .of_eq rfl, fun base kb nb => My.law_fn T kb nb⟩     -- if «.of_eq rfl» comes too early: refine' ⟨_, ?b, fun base kb nb => My.law_fn T kb nb⟩; exact fun s u => .of_eq rfl
  case S => exact fun w H a ns hl hO hS => ..
  case C => exact ..
(the tactic k_is has no namespace: write k_is) -/
namespace L2
open PySem PySem.Spec PyProof.Rows

noncomputable def inClass (s : Stmt) (j : Nat) : Stmt := match s with
  | .ClassDef _ _ _ body _ _ _ _ _ _ _ => body.getD j (.Pass ⟨0, 0, 0, 0⟩)
  | _ => .Pass ⟨0, 0, 0, 0⟩
noncomputable def defArgs (s : Stmt) : Arguments := match s with
  | .FunctionDef _ a _ _ _ _ _ _ _ _ => a
  | _ => { posonlyargs := [], args := [], vararg := none, kwonlyargs := [], kw_defaults := [], kwarg := none, defaults := [] }
noncomputable def defBody (s : Stmt) : List Stmt := match s with
  | .FunctionDef _ _ b _ _ _ _ _ _ _ => b
  | _ => []
noncomputable def defScope (s : Stmt) : Scope := match s with
  | .FunctionDef _ _ _ _ _ _ sc _ _ _ => sc
  | _ => { kind := .function, names := [], isGenerator := false, isCoroutine := false }

noncomputable abbrev CX0 : CXT := fun _ _ _ _ _ _ => False
noncomputable abbrev E0 : XK := fun _ _ _ => False
structure Fun (K : PySem.W.Frag) (x qual : Str) (st : Stmt) (f : Addr) (fd : FuncData) : Prop where
  ex : ∃ (oc : Value) (od : Option Addr) (kV doc pm : Value) (an : Option Addr) (cdv ct : Value) (osl : Array (Option Value)),
    fd = PySem.W.fnOf x qual (defArgs st) (defBody st) (defScope st) .none kV doc pm an cdv ct ∧ K.lookup f = some ⟨oc, od, .func fd, osl⟩ ∧ PySem.W.codeIn K cdv qual = true
  kp : PySem.W.keepIn K (.ref f) = true
section
variable {P : Program} {w : World} {K : PySem.W.Frag} {mg : Str → Option Value} {base : Heap}
theorem Fun.ok {x qual : Str} {st : Stmt} {f : Addr} {fd : FuncData} {N ps : List Str} {k : Nat} {sp : Sp} (F : Fun K x qual st f fd) (S : FnScope N ps (defScope st)) (len : ∀ vs H Q E, sp vs H Q E → vs.length = ps.length)
    (hbody : ∀ (cdv : Value) (A : Around) (outer : List Env) (s : Shared) (H : Hp) (vs : List V) (Q : VK) (E : XK), Room k (A.deeper (envOfC qual (defScope st) s.heap.objs.size f cdv)) → sp vs H Q E →
      ∃ t, PSs (cxOf CX0 P w K mg base N qual (defScope st) f cdv A outer s H E).nox (defBody st) t ∧ t { nx := fun _ H' => Q .non H', rt := Q } (start N vs) H) : FnOk P w K mg base CX0 (k + 1) f fd ps sp := by
  obtain ⟨oc, od, kV, doc, pm, an, cdv, ct, osl, rfl, lk, hcd⟩ := F.ex
  refine fn_of lk hcd S len fun A outer s H vs Q E hr hsp => ?_
  obtain ⟨t, h, q⟩ := hbody cdv A outer s H vs Q E hr hsp
  exact ⟨t, h.nox, q⟩
theorem Fun.binds {x qual : Str} {st : Stmt} {f : Addr} {fd : FuncData} {ps : List Str} (F : Fun K x qual st f fd)
    (h : ∀ (kV doc pm : Value) (an : Option Addr) (cdv ct : Value) (us : List Value), us.length = ps.length → bindArgs (PySem.W.fnOf x qual (defArgs st) (defBody st) (defScope st) .none kV doc pm an cdv ct) ⟨us, []⟩ = pure (ps.zip us)) : Binds K fd ps [] := by
  obtain ⟨oc, od, kV, doc, pm, an, cdv, ct, osl, rfl, lk, hcd⟩ := F.ex
  exact .all (h kV doc pm an cdv ct)
theorem fun_mk {x qual : Str} {st : Stmt} {f : Addr} {oc : Value} {od an : Option Addr} {osl : Array (Option Value)} {kV doc pm cdv ct : Value} (l : K.lookup f = some ⟨oc, od, .func (PySem.W.fnOf x qual (defArgs st) (defBody st) (defScope st) .none kV doc pm an cdv ct), osl⟩)
    (c : PySem.W.codeIn K cdv qual = true) (k : PySem.W.keepIn K (.ref f) = true) : Fun K x qual st f (PySem.W.fnOf x qual (defArgs st) (defBody st) (defScope st) .none kV doc pm an cdv ct) := ⟨⟨oc, od, kV, doc, pm, an, cdv, ct, osl, rfl, l, c⟩, k⟩
end
section
variable {X : Cx}
end

noncomputable def Same (H H' : Hp) : Prop := ∀ b o, H b = some o → H' b = some o
theorem Same.refl (H : Hp) : Same H H := fun _ _ h => h
theorem Same.trans {H H1 H2 : Hp} (a : Same H H1) (b : Same H1 H2) : Same H H2 := fun c o h => b c o (a c o h)
theorem Same.free {H H' : Hp} (e : Same H H') {l : Addr} (h : H' l = Option.none) : H l = Option.none := by
  cases q : H l with
  | none => rfl
  | some o =>
    rw [e l o q] at h
    cases h
theorem Same.seq {K : PySem.W.Frag} {H H' : Hp} {a : Addr} {xs : List V} (e : Same H H') (h : SqL K H a xs) : SqL K H' a xs := by
  rcases h with (h | ⟨o, h⟩) | h
  · exact .inl (.inl (e _ _ h))
  · exact .inl (.inr ⟨o, e _ _ h⟩)
  · exact .inr h

end L2

section
set_option Elab.async false
set_option linter.all false
set_option maxRecDepth 100000
namespace DL
open PySem PySem.Spec PyProof.Rows L2

inductive D where
  | non | bl (b : Bool) | int (i : Int) | str (x : Str) | tup (xs : List D) | lst (xs : List D) | scr (xs : List D) | res (i : Nat) | exv (C : Addr)
inductive S where
  | lst (xs : List D)
  | ins (C : Addr) (fs : List (Str × D))
  | dct (kvs : List (D × D))
  | dtt (kvs : List (D × D))
noncomputable abbrev Sto := List S
noncomputable abbrev Ev := List (Option D)
inductive Out (α : Type) where
  | ok (a : α) (st : Sto)
  | exc (c : Addr) (st : Sto)
  | bad
noncomputable def Out.bind {α β : Type} (r : Out α) (k : α → Sto → Out β) : Out β := match r with
  | .ok a st => k a st
  | .exc c st => .exc c st
  | .bad => .bad
theorem nodup_at {α : Type} {l : List α} (hl : l.Nodup) {i j : Nat} {x : α} (a : l[i]? = some x) (b : l[j]? = some x) : i = j := by
  obtain ⟨h1, e1⟩ := List.getElem?_eq_some_iff.mp a
  obtain ⟨h2, e2⟩ := List.getElem?_eq_some_iff.mp b
  have hp := List.pairwise_iff_getElem.mp hl
  rcases Nat.lt_trichotomy i j with h | h | h
  · exact absurd (e1.trans e2.symm) (hp i j h1 h2 h)
  · exact h
  · exact absurd (e2.trans e1.symm) (hp j i h2 h1 h)
noncomputable def ExcO (a C : Addr) : Heap → Prop := fun h => ∃ o vs, h.get? a = some o ∧ o.cls = .ref C ∧ o.data = .fields vs
theorem ExcO.inj {a C C' : Addr} {h : Heap} (x : ExcO a C h) (y : ExcO a C' h) : C = C' := by
  obtain ⟨o, _, e, c, _⟩ := x
  obtain ⟨o', _, e', c', _⟩ := y
  rw [e] at e'
  cases e'
  rw [c] at c'
  exact Value.ref.inj c'
section
variable (K : PySem.W.Frag)
noncomputable def SqF (H : Hp) (a : Addr) (vs : List V) : Prop :=
  (∃ o, H a = some (.frz o (.lst vs))) ∨ ∃ (o : Obj) (its : Array Value) (n : Nat), K.lookup a = some o ∧ o.cls = .type "list" ∧ o.dict = none ∧ o.data = .seq its n ∧ its.size ≤ sizeLine ∧ Vals vs its.toList
mutual
noncomputable def Rep (O : List Addr) (H : Hp) : D → V → Prop
  | .non, v => v = .non
  | .bl b, v => v = .bl b
  | .int i, v => v = .int i
  | .str x, v => v = .str x
  | .tup ds, v => ∃ a vs, v = .ref a ∧ H a = some (.tup vs) ∧ Reps O H ds vs
  | .lst ds, v => ∃ a vs, v = .ref a ∧ a ∉ O ∧ H a = some (.lst vs) ∧ Reps O H ds vs
  | .scr ds, v => ∃ a vs, v = .ref a ∧ SqF K H a vs ∧ Reps O H ds vs
  | .res i, v => ∃ a, v = .ref a ∧ O[i]? = some a
  | .exv C, v => ∃ a, v = .ref a ∧ H a = some (.ext (ExcO a C))
noncomputable def Reps (O : List Addr) (H : Hp) : List D → List V → Prop
  | [], vs => vs = []
  | d :: ds, vs => ∃ v r, vs = v :: r ∧ Rep O H d v ∧ Reps O H ds r
end
noncomputable def Flds (O : List Addr) (H : Hp) : List (Str × D) → List (Str × V) → Prop
  | [], vs => vs = []
  | (x, d) :: ds, vs => ∃ v r, vs = (x, v) :: r ∧ Rep K O H d v ∧ Flds O H ds r
noncomputable def keyD : D → Option Key
  | .int i => some (.inl i)
  | .str x => some (.inr x)
  | _ => none
noncomputable def keyDs : List D → Option (List Key)
  | [] => some []
  | d :: ds => match keyD d, keyDs ds with
    | some k, some ks => some (k :: ks)
    | _, _ => none
noncomputable def keyT : D → Option (List Key)
  | .tup ds => keyDs ds
  | _ => none
noncomputable def Kvs {κ : Type} (f : D → Option κ) (O : List Addr) (H : Hp) : List (D × D) → List (κ × V) → Prop
  | [], vs => vs = []
  | (k, d) :: ds, vs => ∃ q v r, vs = (q, v) :: r ∧ f k = some q ∧ Rep K O H d v ∧ Kvs f O H ds r
noncomputable def RepS (O : List Addr) (H : Hp) (a : Addr) : S → Prop
  | .dct ds => ∃ vs, H a = some (.dK vs) ∧ Kvs K keyD O H ds vs
  | .dtt ds => ∃ vs, H a = some (.dT vs) ∧ Kvs K keyT O H ds vs
  | .lst ds => ∃ vs, H a = some (.lst vs) ∧ Reps K O H ds vs
  | .ins C fs => ∃ dx vfs, H a = some (.ins C dx vfs) ∧ Flds K O H fs vfs
structure WR (O : List Addr) (H : Hp) (st : Sto) : Prop where
  len : O.length = st.length
  nd : O.Nodup
  at_ : ∀ (i : Nat) (a : Addr) (s : S), O[i]? = some a → st[i]? = some s → RepS K O H a s
structure Keep (O : List Addr) (H : Hp) (O' : List Addr) (H' : Hp) : Prop where
  tup : ∀ a vs, H a = some (.tup vs) → H' a = some (.tup vs)
  lst : ∀ a vs, a ∉ O → H a = some (.lst vs) → a ∉ O' ∧ H' a = some (.lst vs)
  frz : ∀ a vs, SqF K H a vs → SqF K H' a vs
  pre : ∀ (i : Nat) (a : Addr), O[i]? = some a → O'[i]? = some a
  exv : ∀ a C, H a = some (.ext (ExcO a C)) → H' a = some (.ext (ExcO a C))
end

section
variable {K : PySem.W.Frag} {O O1 O2 O' : List Addr} {H H1 H2 H' : Hp} {st st' : Sto}
theorem SqF.sq {a : Addr} {vs : List V} (h : SqF K H a vs) : SqL K H a vs := by
  rcases h with ⟨o, h⟩ | h
  · exact .inl (.inr ⟨o, h⟩)
  · exact .inr h
theorem SqF.of {a : Addr} {vs : List V} (h : SqL K H a vs) (hn : H a ≠ some (.lst vs)) : SqF K H a vs := by
  rcases h with (h | ⟨o, h⟩) | h
  · exact absurd h hn
  · exact .inl ⟨o, h⟩
  · exact .inr h
theorem Keep.refl : Keep K O H O H := ⟨fun _ _ h => h, fun _ _ n h => ⟨n, h⟩, fun _ _ h => h, fun _ _ h => h, fun _ _ h => h⟩
theorem Keep.trans (a : Keep K O H O1 H1) (b : Keep K O1 H1 O2 H2) : Keep K O H O2 H2 :=
  ⟨fun x vs h => b.tup x vs (a.tup x vs h), fun x vs n h => let ⟨n1, h1⟩ := a.lst x vs n h; b.lst x vs n1 h1, fun x vs h => b.frz x vs (a.frz x vs h), fun i x h => b.pre i x (a.pre i x h), fun x C h => b.exv x C (a.exv x C h)⟩
mutual
theorem Rep.mono (k : Keep K O H O' H') : ∀ (d : D) (v : V), Rep K O H d v → Rep K O' H' d v
  | .non, _, h => by unfold Rep at h ⊢; exact h
  | .bl _, _, h => by unfold Rep at h ⊢; exact h
  | .int _, _, h => by unfold Rep at h ⊢; exact h
  | .str _, _, h => by unfold Rep at h ⊢; exact h
  | .tup ds, v, h => by
    unfold Rep at h ⊢
    obtain ⟨a, vs, e, q, r⟩ := h
    exact ⟨a, vs, e, k.tup _ _ q, Reps.mono k ds vs r⟩
  | .lst ds, v, h => by
    unfold Rep at h ⊢
    obtain ⟨a, vs, e, n, q, r⟩ := h
    exact ⟨a, vs, e, (k.lst _ _ n q).1, (k.lst _ _ n q).2, Reps.mono k ds vs r⟩
  | .scr ds, v, h => by
    unfold Rep at h ⊢
    obtain ⟨a, vs, e, q, r⟩ := h
    exact ⟨a, vs, e, k.frz _ _ q, Reps.mono k ds vs r⟩
  | .res i, v, h => by
    unfold Rep at h ⊢
    obtain ⟨a, e, q⟩ := h
    exact ⟨a, e, k.pre _ _ q⟩
  | .exv C, v, h => by
    unfold Rep at h ⊢
    obtain ⟨a, e, q⟩ := h
    exact ⟨a, e, k.exv _ _ q⟩
theorem Reps.mono (k : Keep K O H O' H') : ∀ (ds : List D) (vs : List V), Reps K O H ds vs → Reps K O' H' ds vs
  | [], _, h => by unfold Reps at h ⊢; exact h
  | d :: ds, vs, h => by
    unfold Reps at h ⊢
    obtain ⟨v, r, e, q, t⟩ := h
    exact ⟨v, r, e, Rep.mono k d v q, Reps.mono k ds r t⟩
end
theorem Kvs.mono {κ : Type} {f : D → Option κ} (k : Keep K O H O' H') : ∀ (ds : List (D × D)) (vs : List (κ × V)), Kvs K f O H ds vs → Kvs K f O' H' ds vs
  | [], _, h => by unfold Kvs at h ⊢; exact h
  | (x, d) :: ds, vs, h => by
    unfold Kvs at h ⊢
    obtain ⟨q, v, r, e, z, y, t⟩ := h
    exact ⟨q, v, r, e, z, Rep.mono k d v y, Kvs.mono k ds r t⟩
theorem Flds.mono (k : Keep K O H O' H') : ∀ (ds : List (Str × D)) (vs : List (Str × V)), Flds K O H ds vs → Flds K O' H' ds vs
  | [], _, h => by unfold Flds at h ⊢; exact h
  | (x, d) :: ds, vs, h => by
    unfold Flds at h ⊢
    obtain ⟨v, r, e, q, t⟩ := h
    exact ⟨v, r, e, Rep.mono k d v q, Flds.mono k ds r t⟩

theorem Rep.non_i {v : V} : Rep K O H .non v ↔ v = .non := by unfold Rep; exact Iff.rfl
theorem Rep.bl_i {b : Bool} {v : V} : Rep K O H (.bl b) v ↔ v = .bl b := by unfold Rep; exact Iff.rfl
theorem Rep.int_i {i : Int} {v : V} : Rep K O H (.int i) v ↔ v = .int i := by unfold Rep; exact Iff.rfl
theorem Rep.str_i {x : Str} {v : V} : Rep K O H (.str x) v ↔ v = .str x := by unfold Rep; exact Iff.rfl
theorem Rep.tup_i {ds : List D} {v : V} : Rep K O H (.tup ds) v ↔ ∃ a vs, v = .ref a ∧ H a = some (.tup vs) ∧ Reps K O H ds vs := by unfold Rep; exact Iff.rfl
theorem Rep.lst_i {ds : List D} {v : V} : Rep K O H (.lst ds) v ↔ ∃ a vs, v = .ref a ∧ a ∉ O ∧ H a = some (.lst vs) ∧ Reps K O H ds vs := by unfold Rep; exact Iff.rfl
theorem Rep.scr_i {ds : List D} {v : V} : Rep K O H (.scr ds) v ↔ ∃ a vs, v = .ref a ∧ SqF K H a vs ∧ Reps K O H ds vs := by unfold Rep; exact Iff.rfl
theorem Rep.res_i {i : Nat} {v : V} : Rep K O H (.res i) v ↔ ∃ a, v = .ref a ∧ O[i]? = some a := by unfold Rep; exact Iff.rfl
theorem Rep.exv_i {C : Addr} {v : V} : Rep K O H (.exv C) v ↔ ∃ a, v = .ref a ∧ H a = some (.ext (ExcO a C)) := by unfold Rep; exact Iff.rfl
theorem Reps.nil_i {vs : List V} : Reps K O H [] vs ↔ vs = [] := by unfold Reps; exact Iff.rfl
theorem Reps.cons_i {d : D} {ds : List D} {vs : List V} : Reps K O H (d :: ds) vs ↔ ∃ v r, vs = v :: r ∧ Rep K O H d v ∧ Reps K O H ds r := by
  constructor
  · intro h; unfold Reps at h; exact h
  · intro h; unfold Reps; exact h
theorem Reps.length : ∀ {ds : List D} {vs : List V}, Reps K O H ds vs → ds.length = vs.length
  | [], _, h => by rw [Reps.nil_i] at h; subst h; rfl
  | d :: ds, vs, h => by
    obtain ⟨v, r, rfl, _, t⟩ := Reps.cons_i.mp h
    rw [List.length_cons, List.length_cons, Reps.length t]
theorem Reps.get : ∀ {ds : List D} {vs : List V} {i : Nat} {d : D}, Reps K O H ds vs → ds[i]? = some d → ∃ v, vs[i]? = some v ∧ Rep K O H d v
  | [], _, i, d, _, e => by simp at e
  | x :: ds, vs, 0, d, h, e => by
    obtain ⟨v, r, rfl, q, _⟩ := Reps.cons_i.mp h
    simp at e; subst e
    exact ⟨v, rfl, q⟩
  | x :: ds, vs, i + 1, d, h, e => by
    obtain ⟨v, r, rfl, _, t⟩ := Reps.cons_i.mp h
    obtain ⟨u, e1, q⟩ := Reps.get (i := i) (d := d) t (by simpa using e)
    exact ⟨u, by simpa using e1, q⟩
theorem Reps.append : ∀ {ds es : List D} {vs us : List V}, Reps K O H ds vs → Reps K O H es us → Reps K O H (ds ++ es) (vs ++ us)
  | [], _, _, _, h, k => by rw [Reps.nil_i] at h; subst h; exact k
  | d :: ds, es, vs, us, h, k => by
    obtain ⟨v, r, rfl, q, t⟩ := Reps.cons_i.mp h
    exact Reps.cons_i.mpr ⟨v, r ++ us, rfl, q, Reps.append t k⟩
theorem Reps.take : ∀ {ds : List D} {vs : List V} (n : Nat), Reps K O H ds vs → Reps K O H (ds.take n) (vs.take n)
  | ds, vs, 0, _ => by rw [List.take_zero, List.take_zero]; exact Reps.nil_i.mpr rfl
  | [], vs, n + 1, h => by rw [Reps.nil_i] at h; subst h; exact Reps.nil_i.mpr rfl
  | d :: ds, vs, n + 1, h => by
    obtain ⟨v, r, rfl, q, t⟩ := Reps.cons_i.mp h
    exact Reps.cons_i.mpr ⟨v, r.take n, rfl, q, Reps.take n t⟩
theorem Reps.drop : ∀ {ds : List D} {vs : List V} (n : Nat), Reps K O H ds vs → Reps K O H (ds.drop n) (vs.drop n)
  | ds, vs, 0, h => by rw [List.drop_zero, List.drop_zero]; exact h
  | [], vs, n + 1, h => by rw [Reps.nil_i] at h; subst h; exact Reps.nil_i.mpr rfl
  | d :: ds, vs, n + 1, h => by
    obtain ⟨v, r, rfl, q, t⟩ := Reps.cons_i.mp h
    exact Reps.drop n t
theorem Reps.set {d : D} {v : V} (q : Rep K O H d v) : ∀ {ds : List D} {vs : List V} (n : Nat), Reps K O H ds vs → Reps K O H (ds.set n d) (vs.set n v)
  | [], vs, n, h => by rw [Reps.nil_i] at h; subst h; exact Reps.nil_i.mpr rfl
  | x :: ds, vs, 0, h => by
    obtain ⟨u, r, rfl, _, t⟩ := Reps.cons_i.mp h
    exact Reps.cons_i.mpr ⟨v, r, rfl, q, t⟩
  | x :: ds, vs, n + 1, h => by
    obtain ⟨u, r, rfl, q', t⟩ := Reps.cons_i.mp h
    exact Reps.cons_i.mpr ⟨u, r.set n v, rfl, q', Reps.set q n t⟩
theorem Reps.one {d : D} {v : V} (q : Rep K O H d v) : Reps K O H [d] [v] := Reps.cons_i.mpr ⟨v, [], rfl, q, Reps.nil_i.mpr rfl⟩
theorem Reps.rep {ds : List D} {vs : List V} (h : Reps K O H ds vs) : ∀ k : Nat, Reps K O H (List.replicate k ds).flatten (List.replicate k vs).flatten
  | 0 => by simp only [List.replicate_zero, List.flatten_nil]; exact Reps.nil_i.mpr rfl
  | k + 1 => by simp only [List.replicate_succ, List.flatten_cons]; exact Reps.append h (Reps.rep h k)

noncomputable def isS : HO → Bool
  | .lst _ => true
  | .ins _ _ _ => true
  | .dK _ => true
  | .dT _ => true
  | _ => false
theorem tup_upd {a p : Addr} {o : HO} {vs : List V} (h : H a = some (.tup vs)) (hp : H p = none ∨ ∃ o, H p = some o ∧ isS o = true) : upd H p o a = some (.tup vs) := by
  rw [upd_ne]
  · exact h
  · rintro rfl
    rcases hp with q | ⟨u, q, z⟩
    · rw [q] at h; cases h
    · rw [q] at h; cases h; cases z
theorem sqF_upd {a p : Addr} {o : HO} {vs : List V} (h : SqF K H a vs) (hp : H p = none ∨ ∃ o, H p = some o ∧ isS o = true) : SqF K (upd H p o) a vs := by
  rcases h with ⟨ob, h⟩ | h
  · refine .inl ⟨ob, ?_⟩
    rw [upd_ne]
    · exact h
    · rintro rfl
      rcases hp with q | ⟨u, q, z⟩
      · rw [q] at h; cases h
      · rw [q] at h; cases h; cases z
  · exact .inr h
theorem Keep.laid {p : Addr} {o : HO} (hp : H p = none) : Keep K O H O (upd H p o) :=
  ⟨fun _ _ h => tup_upd h (.inl hp), fun a vs n h => ⟨n, by rw [upd_ne (ne_of_none h hp)]; exact h⟩, fun _ _ h => sqF_upd h (.inl hp), fun _ _ h => h, fun a C h => by rw [upd_ne (ne_of_none h hp)]; exact h⟩
theorem RepS.mono' (k : Keep K O H O' H') {a : Addr} (e : H' a = H a) : ∀ {s : S}, RepS K O H a s → RepS K O' H' a s
  | .lst ds, h => by
    obtain ⟨vs, q, r⟩ := h
    exact ⟨vs, by rw [e]; exact q, Reps.mono k _ _ r⟩
  | .ins C fs, h => by
    obtain ⟨dx, vs, q, r⟩ := h
    exact ⟨dx, vs, by rw [e]; exact q, Flds.mono k _ _ r⟩
  | .dct ds, h => by
    obtain ⟨vs, q, r⟩ := h
    exact ⟨vs, by rw [e]; exact q, Kvs.mono k _ _ r⟩
  | .dtt ds, h => by
    obtain ⟨vs, q, r⟩ := h
    exact ⟨vs, by rw [e]; exact q, Kvs.mono k _ _ r⟩
theorem RepS.some_of {a : Addr} : ∀ {s : S}, RepS K O H a s → ∃ o, H a = some o ∧ isS o = true
  | .lst ds, ⟨vs, q, _⟩ => ⟨_, q, rfl⟩
  | .ins C fs, ⟨dx, vs, q, _⟩ => ⟨_, q, rfl⟩
  | .dct ds, ⟨vs, q, _⟩ => ⟨_, q, rfl⟩
  | .dtt ds, ⟨vs, q, _⟩ => ⟨_, q, rfl⟩
theorem WR.some_of (W : WR K O H st) {i : Nat} {a : Addr} (h : O[i]? = some a) : ∃ o, H a = some o ∧ isS o = true := by
  have hi : i < st.length := by rw [← W.len]; exact (List.getElem?_eq_some_iff.mp h).1
  exact (W.at_ i a st[i] h (List.getElem?_eq_getElem hi)).some_of
theorem WR.ne (W : WR K O H st) {i : Nat} {a p : Addr} (h : O[i]? = some a) (hp : H p = none) : a ≠ p := by
  rintro rfl
  obtain ⟨_, q, _⟩ := W.some_of h
  rw [hp] at q
  cases q
theorem WR.laid (W : WR K O H st) {p : Addr} {o : HO} (hp : H p = none) : WR K O (upd H p o) st :=
  ⟨W.len, W.nd, fun i a s h1 h2 => (W.at_ i a s h1 h2).mono' (Keep.laid hp) (by rw [upd_ne (W.ne h1 hp)])⟩
theorem Keep.push {p : Addr} {o : HO} (hp : H p = none) : Keep K O H (O ++ [p]) (upd H p o) :=
  ⟨fun _ _ h => tup_upd h (.inl hp), fun a vs n h => ⟨fun hm => by
      rcases List.mem_append.mp hm with q | q
      · exact n q
      · rw [List.mem_singleton] at q; exact ne_of_none h hp q, by rw [upd_ne (ne_of_none h hp)]; exact h⟩,
    fun _ _ h => sqF_upd h (.inl hp), fun i a h => by rw [List.getElem?_append_left (List.getElem?_eq_some_iff.mp h).1]; exact h, fun a C h => by rw [upd_ne (ne_of_none h hp)]; exact h⟩
theorem WR.push' (W : WR K O H st) {p : Addr} {o : HO} {s : S} (hp : H p = none) (hs : RepS K (O ++ [p]) (upd H p o) p s) : WR K (O ++ [p]) (upd H p o) (st ++ [s]) := by
  refine ⟨by simp [W.len], ?_, fun i a s' h1 h2 => ?_⟩
  · refine List.nodup_append.mpr ⟨W.nd, by simp, fun a ha b hb => ?_⟩
    rw [List.mem_singleton] at hb
    subst hb
    obtain ⟨i, hi⟩ := List.mem_iff_getElem?.mp ha
    exact W.ne hi hp
  · by_cases hi : i < O.length
    · rw [List.getElem?_append_left hi] at h1
      rw [List.getElem?_append_left (by rw [← W.len]; exact hi)] at h2
      exact (W.at_ i a s' h1 h2).mono' (Keep.push hp) (by rw [upd_ne (W.ne h1 hp)])
    · rw [List.getElem?_append_right (by omega)] at h1
      rw [List.getElem?_append_right (by rw [← W.len]; omega)] at h2
      rw [← W.len] at h2
      have e0 : i - O.length = 0 := by
        have := (List.getElem?_eq_some_iff.mp h1).1
        simp at this
        omega
      rw [e0] at h1 h2
      simp at h1 h2
      subst h1 h2
      exact hs
theorem WR.push (W : WR K O H st) {p : Addr} {ds : List D} {vs : List V} (hp : H p = none) (r : Reps K O H ds vs) : WR K (O ++ [p]) (upd H p (.lst vs)) (st ++ [.lst ds]) :=
  W.push' hp ⟨vs, upd_same, Reps.mono (Keep.push hp) _ _ r⟩
theorem rep_last {p : Addr} {st : Sto} (e : O.length = st.length) : Rep K (O ++ [p]) H' (.res st.length) (.ref p) := by
  rw [Rep.res_i]
  exact ⟨p, rfl, by rw [← e, List.getElem?_append_right (Nat.le_refl _)]; simp⟩
theorem Keep.write (W : WR K O H st) {i : Nat} {a : Addr} {o : HO} (h : O[i]? = some a) : Keep K O H O (upd H a o) := by
  have q := W.some_of h
  refine ⟨fun _ _ z => tup_upd z (.inr q), fun b vs n z => ⟨n, ?_⟩, fun _ _ z => sqF_upd z (.inr q), fun _ _ z => z, fun b C z => ?_⟩
  · rw [upd_ne]
    · exact z
    · rintro rfl
      exact n (List.mem_of_getElem? h)
  · rw [upd_ne]
    · exact z
    · rintro rfl
      obtain ⟨_, q, y⟩ := q
      rw [z] at q
      cases q
      cases y
theorem WR.write (W : WR K O H st) {i : Nat} {a : Addr} {o : HO} {s : S} (h : O[i]? = some a) (hs : RepS K O (upd H a o) a s) : WR K O (upd H a o) (st.set i s) := by
  refine ⟨by rw [List.length_set]; exact W.len, W.nd, fun j b s' h1 h2 => ?_⟩
  by_cases hj : i = j
  · subst hj
    rw [h] at h1
    cases h1
    have hi : i < st.length := by rw [← W.len]; exact (List.getElem?_eq_some_iff.mp h).1
    rw [List.getElem?_set_self hi] at h2
    cases h2
    exact hs
  · rw [List.getElem?_set_ne hj] at h2
    refine (W.at_ j b s' h1 h2).mono' (Keep.write W h) ?_
    rw [upd_ne]
    rintro rfl
    exact hj (nodup_at W.nd h h1)
theorem WR.writeL (W : WR K O H st) {i : Nat} {a : Addr} {ds : List D} {vs : List V} (h : O[i]? = some a) (r : Reps K O H ds vs) : WR K O (upd H a (.lst vs)) (st.set i (.lst ds)) :=
  W.write h ⟨vs, upd_same, Reps.mono (Keep.write W h) _ _ r⟩

noncomputable def seqL (st : Sto) : D → Option (List D)
  | .lst xs => some xs
  | .scr xs => some xs
  | .res i => match st[i]? with
    | some (.lst xs) => some xs
    | _ => none
  | _ => none
noncomputable def ownL (st : Sto) : D → Option (List D)
  | .lst xs => some xs
  | .res i => match st[i]? with
    | some (.lst xs) => some xs
    | _ => none
  | _ => none
theorem rdO (W : WR K O H st) {d : D} {v : V} {ds : List D} (r : Rep K O H d v) (e : ownL st d = some ds) : ∃ a vs, v = .ref a ∧ H a = some (.lst vs) ∧ Reps K O H ds vs := by
  cases d with
  | lst xs =>
    rw [Rep.lst_i] at r
    obtain ⟨a, vs, rfl, _, q, t⟩ := r
    simp only [ownL, Option.some.injEq] at e
    subst e
    exact ⟨a, vs, rfl, q, t⟩
  | res i =>
    rw [Rep.res_i] at r
    obtain ⟨a, rfl, q⟩ := r
    have hi : i < st.length := by rw [← W.len]; exact (List.getElem?_eq_some_iff.mp q).1
    have z := W.at_ i a st[i] q (List.getElem?_eq_getElem hi)
    simp only [ownL, List.getElem?_eq_getElem hi] at e
    cases hs : st[i] with
    | lst xs =>
      rw [hs] at e z
      simp only [Option.some.injEq] at e
      subst e
      obtain ⟨vs, z1, z2⟩ := z
      exact ⟨a, vs, rfl, z1, z2⟩
    | _ => rw [hs] at e; cases e
  | _ => cases e
theorem rdL (W : WR K O H st) {d : D} {v : V} {ds : List D} (r : Rep K O H d v) (e : seqL st d = some ds) : ∃ a vs, v = .ref a ∧ SqL K H a vs ∧ Reps K O H ds vs := by
  cases d with
  | scr xs =>
    rw [Rep.scr_i] at r
    obtain ⟨a, vs, rfl, q, t⟩ := r
    simp only [seqL, Option.some.injEq] at e
    subst e
    exact ⟨a, vs, rfl, q.sq, t⟩
  | lst xs =>
    obtain ⟨a, vs, h1, h2, h3⟩ := rdO W r (show ownL st (.lst xs) = some ds from e)
    exact ⟨a, vs, h1, SqL.of h2, h3⟩
  | res i =>
    obtain ⟨a, vs, h1, h2, h3⟩ := rdO W r (show ownL st (.res i) = some ds from e)
    exact ⟨a, vs, h1, SqL.of h2, h3⟩
  | _ => cases e

section
variable {X : Cx} {pins : List (Addr × Obj)} {σ : L2.St} {s : Shared}
theorem K_none (I : Inv X pins σ H s) {a : Addr} {o : Obj} (h : X.K.lookup a = some o) : H a = none := (I.bs a o (I.ok.mod.kin a o h)).2
end
end
end DL

end
section
set_option Elab.async false
set_option linter.all false
set_option maxRecDepth 100000
namespace DL
open PySem PySem.Spec PyProof.Rows L2
noncomputable def Ans (A : Around) (s : Shared) (u w : Value) (k : Bool) : Prop := SeqAt.EqAt A s u w k ∧ SeqAt.RcAt A s u w k ∧ SeqAt.RcNeAt A s u w (!k)
section
variable {A : Around} {s : Shared}
theorem eqc_non_non : Ans A s .none .none true := ⟨SeqAt.EqAt.same _, SeqAt.RcAt.none_none, SeqAt.RcNeAt.none_none⟩
theorem eqc_non_bl {b2 : Bool} : Ans A s .none (.bool b2) false := ⟨SeqAt.EqAt.none_bool _, SeqAt.RcAt.none_bool _, SeqAt.RcNeAt.none_bool _⟩
theorem eqc_non_int {i2 : Int} {t2 : Tok} : Ans A s .none (.int i2 t2) false := ⟨SeqAt.EqAt.none_int _ _, SeqAt.RcAt.none_int _ _, SeqAt.RcNeAt.none_int _ _⟩
theorem eqc_non_str {x2 : Str} {t2 : Tok} : Ans A s .none (.str x2 t2) false := ⟨SeqAt.EqAt.none_str _ _, SeqAt.RcAt.none_str _ _, SeqAt.RcNeAt.none_str _ _⟩
theorem eqc_non_tup {a2 : Addr} {its2 : Array Value} (z2 : s.heap.IsTuple a2 its2) (hu : A.units < cLine) : Ans A s .none (.ref a2) false := ⟨SeqAt.EqAt.none_tuple z2 hu, SeqAt.RcAt.none_tuple z2 hu, SeqAt.RcNeAt.none_tuple z2 hu⟩
theorem eqc_non_lst {a2 : Addr} {its2 : Array Value} (z2 : s.heap.IsList a2 its2) (hu : A.units < cLine) : Ans A s .none (.ref a2) false := ⟨SeqAt.EqAt.none_list z2 hu, SeqAt.RcAt.none_list z2 hu, SeqAt.RcNeAt.none_list z2 hu⟩
theorem eqc_bl_non {b1 : Bool} : Ans A s (.bool b1) .none false := ⟨SeqAt.EqAt.bool_none _, SeqAt.RcAt.bool_none _, SeqAt.RcNeAt.bool_none _⟩
theorem eqc_bl_bl {b1 : Bool} {b2 : Bool} : Ans A s (.bool b1) (.bool b2) (b1 == b2) := ⟨SeqAt.EqAt.bool_bool _ _, SeqAt.RcAt.bool_bool _ _, SeqAt.RcNeAt.bool_bool _ _⟩
theorem eqc_bl_int {b1 : Bool} {i2 : Int} {t2 : Tok} : Ans A s (.bool b1) (.int i2 t2) ((if b1 then 1 else 0) == i2) := ⟨SeqAt.EqAt.bool_int _ _ _, SeqAt.RcAt.bool_int _ _ _, SeqAt.RcNeAt.bool_int _ _ _⟩
theorem eqc_bl_str {b1 : Bool} {x2 : Str} {t2 : Tok} : Ans A s (.bool b1) (.str x2 t2) false := ⟨SeqAt.EqAt.bool_str _ _ _, SeqAt.RcAt.bool_str _ _ _, SeqAt.RcNeAt.bool_str _ _ _⟩
theorem eqc_bl_tup {b1 : Bool} {a2 : Addr} {its2 : Array Value} (z2 : s.heap.IsTuple a2 its2) (hu : A.units < cLine) : Ans A s (.bool b1) (.ref a2) false := ⟨SeqAt.EqAt.bool_tuple _ z2 hu, SeqAt.RcAt.bool_tuple _ z2 hu, SeqAt.RcNeAt.bool_tuple _ z2 hu⟩
theorem eqc_bl_lst {b1 : Bool} {a2 : Addr} {its2 : Array Value} (z2 : s.heap.IsList a2 its2) (hu : A.units < cLine) : Ans A s (.bool b1) (.ref a2) false := ⟨SeqAt.EqAt.bool_list _ z2 hu, SeqAt.RcAt.bool_list _ z2 hu, SeqAt.RcNeAt.bool_list _ z2 hu⟩
theorem eqc_int_non {i1 : Int} {t1 : Tok} : Ans A s (.int i1 t1) .none false := ⟨SeqAt.EqAt.int_none _ _, SeqAt.RcAt.int_none _ _, SeqAt.RcNeAt.int_none _ _⟩
theorem eqc_int_bl {i1 : Int} {t1 : Tok} {b2 : Bool} : Ans A s (.int i1 t1) (.bool b2) (i1 == (if b2 then 1 else 0)) := ⟨SeqAt.EqAt.int_bool _ _ _, SeqAt.RcAt.int_bool _ _ _, SeqAt.RcNeAt.int_bool _ _ _⟩
theorem eqc_int_int {i1 : Int} {t1 : Tok} {i2 : Int} {t2 : Tok} : Ans A s (.int i1 t1) (.int i2 t2) (i1 == i2) := ⟨SeqAt.EqAt.int_int _ _ _ _, SeqAt.RcAt.int_int _ _ _ _, SeqAt.RcNeAt.int_int _ _ _ _⟩
theorem eqc_int_str {i1 : Int} {t1 : Tok} {x2 : Str} {t2 : Tok} : Ans A s (.int i1 t1) (.str x2 t2) false := ⟨SeqAt.EqAt.int_str _ _ _ _, SeqAt.RcAt.int_str _ _ _ _, SeqAt.RcNeAt.int_str _ _ _ _⟩
theorem eqc_int_tup {i1 : Int} {t1 : Tok} {a2 : Addr} {its2 : Array Value} (z2 : s.heap.IsTuple a2 its2) (hu : A.units < cLine) : Ans A s (.int i1 t1) (.ref a2) false := ⟨SeqAt.EqAt.int_tuple _ _ z2 hu, SeqAt.RcAt.int_tuple _ _ z2 hu, SeqAt.RcNeAt.int_tuple _ _ z2 hu⟩
theorem eqc_int_lst {i1 : Int} {t1 : Tok} {a2 : Addr} {its2 : Array Value} (z2 : s.heap.IsList a2 its2) (hu : A.units < cLine) : Ans A s (.int i1 t1) (.ref a2) false := ⟨SeqAt.EqAt.int_list _ _ z2 hu, SeqAt.RcAt.int_list _ _ z2 hu, SeqAt.RcNeAt.int_list _ _ z2 hu⟩
theorem eqc_str_non {x1 : Str} {t1 : Tok} : Ans A s (.str x1 t1) .none false := ⟨SeqAt.EqAt.str_none _ _, SeqAt.RcAt.str_none _ _, SeqAt.RcNeAt.str_none _ _⟩
theorem eqc_str_bl {x1 : Str} {t1 : Tok} {b2 : Bool} : Ans A s (.str x1 t1) (.bool b2) false := ⟨SeqAt.EqAt.str_bool _ _ _, SeqAt.RcAt.str_bool _ _ _, SeqAt.RcNeAt.str_bool _ _ _⟩
theorem eqc_str_int {x1 : Str} {t1 : Tok} {i2 : Int} {t2 : Tok} : Ans A s (.str x1 t1) (.int i2 t2) false := ⟨SeqAt.EqAt.str_int _ _ _ _, SeqAt.RcAt.str_int _ _ _ _, SeqAt.RcNeAt.str_int _ _ _ _⟩
theorem eqc_str_str {x1 : Str} {t1 : Tok} {x2 : Str} {t2 : Tok} : Ans A s (.str x1 t1) (.str x2 t2) (x1 == x2) := ⟨SeqAt.EqAt.str_str _ _ _ _, SeqAt.RcAt.str_str _ _ _ _, SeqAt.RcNeAt.str_str _ _ _ _⟩
theorem eqc_str_tup {x1 : Str} {t1 : Tok} {a2 : Addr} {its2 : Array Value} (z2 : s.heap.IsTuple a2 its2) (hu : A.units < cLine) : Ans A s (.str x1 t1) (.ref a2) false := ⟨SeqAt.EqAt.str_tuple _ _ z2 hu, SeqAt.RcAt.str_tuple _ _ z2 hu, SeqAt.RcNeAt.str_tuple _ _ z2 hu⟩
theorem eqc_str_lst {x1 : Str} {t1 : Tok} {a2 : Addr} {its2 : Array Value} (z2 : s.heap.IsList a2 its2) (hu : A.units < cLine) : Ans A s (.str x1 t1) (.ref a2) false := ⟨SeqAt.EqAt.str_list _ _ z2 hu, SeqAt.RcAt.str_list _ _ z2 hu, SeqAt.RcNeAt.str_list _ _ z2 hu⟩
theorem eqc_tup_non {a1 : Addr} {its1 : Array Value} (z1 : s.heap.IsTuple a1 its1) (hu : A.units < cLine) : Ans A s (.ref a1) .none false := ⟨SeqAt.EqAt.tuple_none z1 hu, SeqAt.RcAt.tuple_none z1 hu, SeqAt.RcNeAt.tuple_none z1 hu⟩
theorem eqc_tup_bl {a1 : Addr} {its1 : Array Value} (z1 : s.heap.IsTuple a1 its1) {b2 : Bool} (hu : A.units < cLine) : Ans A s (.ref a1) (.bool b2) false := ⟨SeqAt.EqAt.tuple_bool _ z1 hu, SeqAt.RcAt.tuple_bool _ z1 hu, SeqAt.RcNeAt.tuple_bool _ z1 hu⟩
theorem eqc_tup_int {a1 : Addr} {its1 : Array Value} (z1 : s.heap.IsTuple a1 its1) {i2 : Int} {t2 : Tok} (hu : A.units < cLine) : Ans A s (.ref a1) (.int i2 t2) false := ⟨SeqAt.EqAt.tuple_int _ _ z1 hu, SeqAt.RcAt.tuple_int _ _ z1 hu, SeqAt.RcNeAt.tuple_int _ _ z1 hu⟩
theorem eqc_tup_str {a1 : Addr} {its1 : Array Value} (z1 : s.heap.IsTuple a1 its1) {x2 : Str} {t2 : Tok} (hu : A.units < cLine) : Ans A s (.ref a1) (.str x2 t2) false := ⟨SeqAt.EqAt.tuple_str _ _ z1 hu, SeqAt.RcAt.tuple_str _ _ z1 hu, SeqAt.RcNeAt.tuple_str _ _ z1 hu⟩
theorem eqc_tup_lst {a1 : Addr} {its1 : Array Value} (z1 : s.heap.IsTuple a1 its1) {a2 : Addr} {its2 : Array Value} (z2 : s.heap.IsList a2 its2) (hu : A.units < cLine) : Ans A s (.ref a1) (.ref a2) false := ⟨SeqAt.EqAt.tuple_list z1 z2 hu, SeqAt.RcAt.tuple_list z1 z2 hu, SeqAt.RcNeAt.tuple_list z1 z2 hu⟩
theorem eqc_lst_non {a1 : Addr} {its1 : Array Value} (z1 : s.heap.IsList a1 its1) (hu : A.units < cLine) : Ans A s (.ref a1) .none false := ⟨SeqAt.EqAt.list_none z1 hu, SeqAt.RcAt.list_none z1 hu, SeqAt.RcNeAt.list_none z1 hu⟩
theorem eqc_lst_bl {a1 : Addr} {its1 : Array Value} (z1 : s.heap.IsList a1 its1) {b2 : Bool} (hu : A.units < cLine) : Ans A s (.ref a1) (.bool b2) false := ⟨SeqAt.EqAt.list_bool _ z1 hu, SeqAt.RcAt.list_bool _ z1 hu, SeqAt.RcNeAt.list_bool _ z1 hu⟩
theorem eqc_lst_int {a1 : Addr} {its1 : Array Value} (z1 : s.heap.IsList a1 its1) {i2 : Int} {t2 : Tok} (hu : A.units < cLine) : Ans A s (.ref a1) (.int i2 t2) false := ⟨SeqAt.EqAt.list_int _ _ z1 hu, SeqAt.RcAt.list_int _ _ z1 hu, SeqAt.RcNeAt.list_int _ _ z1 hu⟩
theorem eqc_lst_str {a1 : Addr} {its1 : Array Value} (z1 : s.heap.IsList a1 its1) {x2 : Str} {t2 : Tok} (hu : A.units < cLine) : Ans A s (.ref a1) (.str x2 t2) false := ⟨SeqAt.EqAt.list_str _ _ z1 hu, SeqAt.RcAt.list_str _ _ z1 hu, SeqAt.RcNeAt.list_str _ _ z1 hu⟩
theorem eqc_lst_tup {a1 : Addr} {its1 : Array Value} (z1 : s.heap.IsList a1 its1) {a2 : Addr} {its2 : Array Value} (z2 : s.heap.IsTuple a2 its2) (hu : A.units < cLine) : Ans A s (.ref a1) (.ref a2) false := ⟨SeqAt.EqAt.list_tuple z1 z2 hu, SeqAt.RcAt.list_tuple z1 z2 hu, SeqAt.RcNeAt.list_tuple z1 z2 hu⟩
end
inductive Kd where
  | non | bl (b : Bool) | int (i : Int) | str (x : Str) | tup (xs : List D) | lst (xs : List D) | no
noncomputable def kd (st : Sto) : D → Kd
  | .non => .non
  | .bl b => .bl b
  | .int i => .int i
  | .str x => .str x
  | .tup xs => .tup xs
  | .lst xs => .lst xs
  | .scr xs => .lst xs
  | .res i => match st[i]? with
    | some (.lst xs) => .lst xs
    | _ => .no
  | .exv _ => .no
noncomputable def eqItems (f : D → D → Option Bool) : List D → List D → Option Bool
  | [], [] => some true
  | [], _ :: _ => some false
  | _ :: _, [] => some false
  | x :: xs, y :: ys => match f x y, eqItems f xs ys with
    | some a, some b => some (a && b)
    | _, _ => none
noncomputable def eqN (st : Sto) : Nat → D → D → Option Bool
  | 0, _, _ => none
  | n + 1, a, b => match kd st a, kd st b with
    | .tup xs, .tup ys => eqItems (eqN st n) xs ys
    | .lst xs, .lst ys => eqItems (eqN st n) xs ys
    | .non, .non => some true
    | .bl x, .bl y => some (x == y)
    | .int x, .int y => some (x == y)
    | .str x, .str y => some (x == y)
    | .bl x, .int y => some ((if x then 1 else 0) == y)
    | .int x, .bl y => some (x == (if y then 1 else 0))
    | .no, _ => none
    | _, .no => none
    | _, _ => some false
section
variable {X : Cx} {pins : List (Addr × Obj)} {σ : L2.St} {s : Shared} {O : List Addr} {H : Hp} {st : Sto}
theorem sqT_lst (I : Inv X pins σ H s) {a : Addr} {vs xs : List V} (h : SqT X.K H a vs) (q : H a = some (.lst xs)) : False := by
  rcases h with (h | ⟨ob, h⟩) | ⟨o, _, _, h, _⟩
  · rw [h] at q; cases q
  · rw [h] at q; cases q
  · rw [K_none I h] at q; cases q
theorem sqF_lst (I : Inv X pins σ H s) {a : Addr} {vs xs : List V} (h : SqF X.K H a vs) (q : H a = some (.lst xs)) : False := by
  rcases h with ⟨ob, h⟩ | ⟨o, _, _, h, _⟩
  · rw [h] at q; cases q
  · rw [K_none I h] at q; cases q
theorem sqT_sqF (I : Inv X pins σ H s) {a : Addr} {vs xs : List V} (h : SqT X.K H a vs) (q : SqF X.K H a xs) : False := by
  rcases h with (h | ⟨ob, h⟩) | ⟨o, _, _, h, c, _⟩ <;> rcases q with ⟨ob', q⟩ | ⟨o', _, _, q, c', _⟩
  · rw [h] at q; cases q
  · rw [K_none I q] at h; cases h
  · rw [h] at q; cases q
  · rw [K_none I q] at h; cases h
  · rw [K_none I h] at q; cases q
  · rw [h] at q; cases q; rw [c] at c'; exact absurd (Value.type.inj c') (by decide)
theorem sqT_S (I : Inv X pins σ H s) {a : Addr} {vs : List V} {o : HO} (h : SqT X.K H a vs) (q : H a = some o) (z : isS o = true) : False := by
  rcases h with (h | ⟨ob, h⟩) | ⟨_, _, _, h, _⟩
  · rw [h] at q; cases q; cases z
  · rw [h] at q; cases q; cases z
  · rw [K_none I h] at q; cases q
theorem sqF_S (I : Inv X pins σ H s) {a : Addr} {vs : List V} {o : HO} (h : SqF X.K H a vs) (q : H a = some o) (z : isS o = true) : False := by
  rcases h with ⟨ob, h⟩ | ⟨_, _, _, h, _⟩
  · rw [h] at q; cases q; cases z
  · rw [K_none I h] at q; cases q
theorem sqT_ext (I : Inv X pins σ H s) {a : Addr} {vs : List V} {φ : Heap → Prop} (h : SqT X.K H a vs) (q : H a = some (.ext φ)) : False := by
  rcases h with (h | ⟨ob, h⟩) | ⟨_, _, _, h, _⟩
  · rw [h] at q; cases q
  · rw [h] at q; cases q
  · rw [K_none I h] at q; cases q
theorem sqF_ext (I : Inv X pins σ H s) {a : Addr} {vs : List V} {φ : Heap → Prop} (h : SqF X.K H a vs) (q : H a = some (.ext φ)) : False := by
  rcases h with ⟨ob, h⟩ | ⟨_, _, _, h, _⟩
  · rw [h] at q; cases q
  · rw [K_none I h] at q; cases q
theorem res_T (I : Inv X pins σ H s) (W : WR X.K O H st) {i : Nat} {a : Addr} {vs : List V} (h : O[i]? = some a) (q : SqT X.K H a vs) : False := by
  obtain ⟨o, z, y⟩ := W.some_of h
  exact sqT_S I q z y
theorem res_F (I : Inv X pins σ H s) (W : WR X.K O H st) {i : Nat} {a : Addr} {vs : List V} (h : O[i]? = some a) (q : SqF X.K H a vs) : False := by
  obtain ⟨o, z, y⟩ := W.some_of h
  exact sqF_S I q z y
theorem res_ext (W : WR X.K O H st) {i : Nat} {a : Addr} {φ : Heap → Prop} (h : O[i]? = some a) (q : H a = some (.ext φ)) : False := by
  obtain ⟨o, z, y⟩ := W.some_of h
  rw [q] at z
  cases z
  cases y
mutual
theorem Rep.inj (I : Inv X pins σ H s) (W : WR X.K O H st) : ∀ (d d' : D) (v : V), Rep X.K O H d v → Rep X.K O H d' v → d = d'
  | .non, d', v, h, h' => by
    rw [Rep.non_i] at h; subst h
    cases d' <;> unfold Rep at h' <;> first | rfl | (cases h'; done) | (obtain ⟨_, _, e, _⟩ := h'; cases e) | (obtain ⟨_, e, _⟩ := h'; cases e)
  | .bl b, d', v, h, h' => by
    rw [Rep.bl_i] at h; subst h
    cases d' <;> unfold Rep at h' <;> first | (cases h'; rfl) | (cases h'; done) | (obtain ⟨_, _, e, _⟩ := h'; cases e) | (obtain ⟨_, e, _⟩ := h'; cases e)
  | .int b, d', v, h, h' => by
    rw [Rep.int_i] at h; subst h
    cases d' <;> unfold Rep at h' <;> first | (cases h'; rfl) | (cases h'; done) | (obtain ⟨_, _, e, _⟩ := h'; cases e) | (obtain ⟨_, e, _⟩ := h'; cases e)
  | .str b, d', v, h, h' => by
    rw [Rep.str_i] at h; subst h
    cases d' <;> unfold Rep at h' <;> first | (cases h'; rfl) | (cases h'; done) | (obtain ⟨_, _, e, _⟩ := h'; cases e) | (obtain ⟨_, e, _⟩ := h'; cases e)
  | .tup ds, d', v, h, h' => by
    rw [Rep.tup_i] at h
    obtain ⟨a, vs, rfl, q, r⟩ := h
    cases d' with
    | tup ds' =>
      rw [Rep.tup_i] at h'
      obtain ⟨a', vs', e, q', r'⟩ := h'
      cases e
      have ev : vs = vs' := I.tuple_inj (SqT.of q) (SqT.of q')
      subst ev
      rw [Reps.inj I W ds ds' vs r r']
    | lst ds' => rw [Rep.lst_i] at h'; obtain ⟨a', vs', e, _, q', _⟩ := h'; cases e; exact (sqT_lst I (SqT.of q) q').elim
    | scr ds' => rw [Rep.scr_i] at h'; obtain ⟨a', vs', e, q', _⟩ := h'; cases e; exact (sqT_sqF I (SqT.of q) q').elim
    | res i => rw [Rep.res_i] at h'; obtain ⟨a', e, q'⟩ := h'; cases e; exact (res_T I W q' (SqT.of q)).elim
    | exv C => rw [Rep.exv_i] at h'; obtain ⟨a', e, q'⟩ := h'; cases e; exact (sqT_ext I (SqT.of q) q').elim
    | _ => unfold Rep at h'; cases h'
  | .lst ds, d', v, h, h' => by
    rw [Rep.lst_i] at h
    obtain ⟨a, vs, rfl, n, q, r⟩ := h
    cases d' with
    | tup ds' => rw [Rep.tup_i] at h'; obtain ⟨a', vs', e, q', _⟩ := h'; cases e; exact (sqT_lst I (SqT.of q') q).elim
    | lst ds' =>
      rw [Rep.lst_i] at h'
      obtain ⟨a', vs', e, _, q', r'⟩ := h'
      cases e
      rw [q] at q'
      cases q'
      rw [Reps.inj I W ds ds' vs r r']
    | scr ds' => rw [Rep.scr_i] at h'; obtain ⟨a', vs', e, q', _⟩ := h'; cases e; exact (sqF_lst I q' q).elim
    | res i => rw [Rep.res_i] at h'; obtain ⟨a', e, q'⟩ := h'; cases e; exact (n (List.mem_of_getElem? q')).elim
    | exv C => rw [Rep.exv_i] at h'; obtain ⟨a', e, q'⟩ := h'; cases e; rw [q] at q'; cases q'
    | _ => unfold Rep at h'; cases h'
  | .scr ds, d', v, h, h' => by
    rw [Rep.scr_i] at h
    obtain ⟨a, vs, rfl, q, r⟩ := h
    cases d' with
    | tup ds' => rw [Rep.tup_i] at h'; obtain ⟨a', vs', e, q', _⟩ := h'; cases e; exact (sqT_sqF I (SqT.of q') q).elim
    | lst ds' => rw [Rep.lst_i] at h'; obtain ⟨a', vs', e, _, q', _⟩ := h'; cases e; exact (sqF_lst I q q').elim
    | scr ds' =>
      rw [Rep.scr_i] at h'
      obtain ⟨a', vs', e, q', r'⟩ := h'
      cases e
      have ev : vs = vs' := I.list_inj q.sq q'.sq
      subst ev
      rw [Reps.inj I W ds ds' vs r r']
    | res i => rw [Rep.res_i] at h'; obtain ⟨a', e, q'⟩ := h'; cases e; exact (res_F I W q' q).elim
    | exv C => rw [Rep.exv_i] at h'; obtain ⟨a', e, q'⟩ := h'; cases e; exact (sqF_ext I q q').elim
    | _ => unfold Rep at h'; cases h'
  | .res i, d', v, h, h' => by
    rw [Rep.res_i] at h
    obtain ⟨a, rfl, q⟩ := h
    cases d' with
    | tup ds' => rw [Rep.tup_i] at h'; obtain ⟨a', vs', e, q', _⟩ := h'; cases e; exact (res_T I W q (SqT.of q')).elim
    | lst ds' => rw [Rep.lst_i] at h'; obtain ⟨a', vs', e, n, _, _⟩ := h'; cases e; exact (n (List.mem_of_getElem? q)).elim
    | scr ds' => rw [Rep.scr_i] at h'; obtain ⟨a', vs', e, q', _⟩ := h'; cases e; exact (res_F I W q q').elim
    | res j =>
      rw [Rep.res_i] at h'
      obtain ⟨a', e, q'⟩ := h'
      cases e
      rw [nodup_at W.nd q q']
    | exv C => rw [Rep.exv_i] at h'; obtain ⟨a', e, q'⟩ := h'; cases e; exact (res_ext W q q').elim
    | _ => unfold Rep at h'; cases h'
  | .exv C, d', v, h, h' => by
    rw [Rep.exv_i] at h
    obtain ⟨a, rfl, q⟩ := h
    cases d' with
    | tup ds' => rw [Rep.tup_i] at h'; obtain ⟨a', vs', e, q', _⟩ := h'; cases e; exact (sqT_ext I (SqT.of q') q).elim
    | lst ds' => rw [Rep.lst_i] at h'; obtain ⟨a', vs', e, n, q', _⟩ := h'; cases e; rw [q] at q'; cases q'
    | scr ds' => rw [Rep.scr_i] at h'; obtain ⟨a', vs', e, q', _⟩ := h'; cases e; exact (sqF_ext I q' q).elim
    | res j => rw [Rep.res_i] at h'; obtain ⟨a', e, q'⟩ := h'; cases e; exact (res_ext W q' q).elim
    | exv C' =>
      rw [Rep.exv_i] at h'
      obtain ⟨a', e, q'⟩ := h'
      cases e
      rw [(I.hok _ _ q).1.inj (I.hok _ _ q').1]
    | _ => unfold Rep at h'; cases h'
theorem Reps.inj (I : Inv X pins σ H s) (W : WR X.K O H st) : ∀ (ds ds' : List D) (vs : List V), Reps X.K O H ds vs → Reps X.K O H ds' vs → ds = ds'
  | [], ds', vs, h, h' => by
    rw [Reps.nil_i] at h; subst h
    cases ds' with
    | nil => rfl
    | cons d r => obtain ⟨_, _, e, _⟩ := Reps.cons_i.mp h'; cases e
  | d :: ds, ds', vs, h, h' => by
    obtain ⟨v, r, rfl, q, t⟩ := Reps.cons_i.mp h
    cases ds' with
    | nil => rw [Reps.nil_i] at h'; cases h'
    | cons d' r' =>
      obtain ⟨v', r2, e, q', t'⟩ := Reps.cons_i.mp h'
      cases e
      rw [Rep.inj I W d d' v q q', Reps.inj I W ds r' r t t']
end
theorem eqItems_refl {f : D → D → Option Bool} (hf : ∀ d k, f d d = some k → k = true) : ∀ (xs : List D) (k : Bool), eqItems f xs xs = some k → k = true
  | [], k, h => by simp only [eqItems, Option.some.injEq] at h; exact h.symm
  | x :: xs, k, h => by
    unfold eqItems at h
    cases e1 : f x x with
    | none => rw [e1] at h; cases h
    | some a =>
      cases e2 : eqItems f xs xs with
      | none => rw [e1, e2] at h; cases h
      | some b =>
        rw [e1, e2] at h
        simp only [Option.some.injEq] at h
        rw [← h, hf x a e1, eqItems_refl hf xs b e2]
        rfl
theorem eqN_refl : ∀ (n : Nat) (d : D) (k : Bool), eqN st n d d = some k → k = true
  | 0, d, k, h => by cases h
  | n + 1, d, k, h => by
    unfold eqN at h
    cases e : kd st d <;> rw [e] at h <;> simp only [beq_self_eq_true, Option.some.injEq] at h
    case tup xs => exact eqItems_refl (eqN_refl n) xs k h
    case lst xs => exact eqItems_refl (eqN_refl n) xs k h
    case no => cases h
    all_goals exact h.symm
theorem eqItems_len {f : D → D → Option Bool} : ∀ (xs ys : List D) (k : Bool), eqItems f xs ys = some k →
    (∀ (j : Nat) (x y : D), xs[j]? = some x → ys[j]? = some y → ∃ kj, f x y = some kj) ∧
    k = ((List.range (min xs.length ys.length)).all (fun j => ((xs[j]?.bind fun x => ys[j]?.bind fun y => f x y).getD false)) && xs.length == ys.length)
  | [], [], k, h => by
    simp only [eqItems, Option.some.injEq] at h
    subst h
    exact ⟨fun j x y e => by simp at e, rfl⟩
  | [], y :: ys, k, h => by
    simp only [eqItems, Option.some.injEq] at h
    subst h
    exact ⟨fun j x y e => by simp at e, by simp⟩
  | x :: xs, [], k, h => by
    simp only [eqItems, Option.some.injEq] at h
    subst h
    exact ⟨fun j x y _ e => by simp at e, by simp⟩
  | x :: xs, y :: ys, k, h => by
    unfold eqItems at h
    cases e1 : f x y with
    | none => rw [e1] at h; cases h
    | some a =>
      cases e2 : eqItems f xs ys with
      | none => rw [e1, e2] at h; cases h
      | some b =>
        rw [e1, e2] at h
        simp only [Option.some.injEq] at h
        obtain ⟨h1, h2⟩ := eqItems_len xs ys b e2
        refine ⟨fun j u w eu ew => ?_, ?_⟩
        · cases j with
          | zero => simp at eu ew; subst eu ew; exact ⟨a, e1⟩
          | succ j => exact h1 j u w (by simpa using eu) (by simpa using ew)
        · rw [← h, h2]
          have em : min (x :: xs).length (y :: ys).length = min xs.length ys.length + 1 := by simp only [List.length_cons]; omega
          rw [em, List.range_succ_eq_map]
          simp only [List.all_cons, List.all_map, List.getElem?_cons_zero, Option.bind_some, e1, Option.getD_some, List.length_cons, Function.comp_def, List.getElem?_cons_succ, Nat.succ_eq_add_one, Bool.and_assoc]
          congr 2
          by_cases hl : xs.length = ys.length
          · simp [hl]
          · have : ¬ (xs.length + 1 = ys.length + 1) := by omega
            simp [hl]
noncomputable def KdV (K : PySem.W.Frag) (O : List Addr) (H : Hp) (s : Shared) : Kd → Value → Prop
  | .non, u => u = .none
  | .bl b, u => u = .bool b
  | .int i, u => ∃ t, u = .int i t
  | .str x, u => ∃ t, u = .str x t
  | .tup xs, u => ∃ a vs its, u = .ref a ∧ Reps K O H xs vs ∧ Vals vs its ∧ s.heap.IsTuple a its.toArray
  | .lst xs, u => ∃ a vs its, u = .ref a ∧ Reps K O H xs vs ∧ Vals vs its ∧ s.heap.IsList a its.toArray
  | .no, _ => True
theorem kdV_lst (I : Inv X pins σ H s) (W : WR X.K O H st) {d : D} {v : V} {u : Value} {xs : List D} (r : Rep X.K O H d v) (q : RelV v u) (e : seqL st d = some xs) : KdV X.K O H s (.lst xs) u := by
  obtain ⟨a, vs, rfl, z, t⟩ := rdL W r e
  obtain ⟨its, hv, hp, _⟩ := I.list z
  have q' : u = Value.ref a := q
  subst q'
  exact ⟨a, vs, its, rfl, t, hv, hp.isList⟩
theorem kdV (I : Inv X pins σ H s) (W : WR X.K O H st) : ∀ {d : D} {v : V} {u : Value}, Rep X.K O H d v → RelV v u → KdV X.K O H s (kd st d) u
  | .non, v, u, r, q => by rw [Rep.non_i] at r; subst r; exact q
  | .bl b, v, u, r, q => by rw [Rep.bl_i] at r; subst r; exact q
  | .int b, v, u, r, q => by rw [Rep.int_i] at r; subst r; exact q
  | .str b, v, u, r, q => by rw [Rep.str_i] at r; subst r; exact q
  | .tup ds, v, u, r, q => by
    rw [Rep.tup_i] at r
    obtain ⟨a, vs, rfl, z, t⟩ := r
    obtain ⟨its, hv, hp, _⟩ := I.tuple (SqT.of z)
    have q' : u = Value.ref a := q
    subst q'
    exact ⟨a, vs, its, rfl, t, hv, hp⟩
  | .lst ds, v, u, r, q => kdV_lst I W r q rfl
  | .scr ds, v, u, r, q => kdV_lst I W r q rfl
  | .res i, v, u, r, q => by
    have e : seqL st (.res i) = match st[i]? with
      | some (.lst xs) => some xs
      | _ => none := rfl
    have e' : kd st (.res i) = match st[i]? with
      | some (.lst xs) => .lst xs
      | _ => .no := rfl
    rw [e']
    cases hs : st[i]? with
    | none => exact trivial
    | some so =>
      cases so with
      | ins C fs => exact trivial
      | dct kvs => exact trivial
      | dtt kvs => exact trivial
      | lst xs =>
        rw [hs] at e
        exact kdV_lst I W r q e
  | .exv C, v, u, r, q => trivial
theorem in1_units (A : Around) : A.in1.units = A.units + 1 := rfl
theorem eq_sound (I : Inv X pins σ H s) (W : WR X.K O H st) : ∀ (n : Nat) (a b : D) (k : Bool), eqN st n a b = some k → ∀ (A : Around) (x y : V) (u w : Value),
    Rep X.K O H a x → Rep X.K O H b y → RelV x u → RelV y w → A.units + n < cLine → Ans A s u w k
  | 0, a, b, k, h => by cases h
  | n + 1, a, b, k, h => by
    intro A x y u w ra rb qa qb hn
    have hu : A.units < cLine := by omega
    have same : u = w → k = true := by
      intro e
      subst e
      have e2 : x = y := qa.inj qb
      subst e2
      have e3 := Rep.inj I W a b x ra rb
      subst e3
      exact eqN_refl (n + 1) a k h
    have ka := kdV I W ra qa
    have kb := kdV I W rb qb
    have items : ∀ {xs ys : List D} {vs ws : List V} {its its2 : List Value}, eqItems (eqN st n) xs ys = some k → Reps X.K O H xs vs → Reps X.K O H ys ws → Vals vs its → Vals ws its2 →
        (∀ j (h1 : j < its.toArray.size) (h2 : j < its2.toArray.size), SeqAt.EqAt A.in1 s its.toArray[j] its2.toArray[j] ((xs[j]?.bind fun x => ys[j]?.bind fun y => eqN st n x y).getD false)) ∧
        k = ((List.range (min its.toArray.size its2.toArray.size)).all (fun j => ((xs[j]?.bind fun x => ys[j]?.bind fun y => eqN st n x y).getD false)) && its.toArray.size == its2.toArray.size) := by
      intro xs ys vs ws its its2 he r1 r2 v1 v2
      obtain ⟨h1, h2⟩ := eqItems_len xs ys k he
      have l1 : its.toArray.size = xs.length := by rw [List.size_toArray, ← v1.length, r1.length]
      have l2 : its2.toArray.size = ys.length := by rw [List.size_toArray, ← v2.length, r2.length]
      refine ⟨fun j j1 j2 => ?_, by rw [l1, l2]; exact h2⟩
      have j1' : j < xs.length := by rw [← l1]; exact j1
      have j2' : j < ys.length := by rw [← l2]; exact j2
      have ex : xs[j]? = some xs[j] := List.getElem?_eq_getElem j1'
      have ey : ys[j]? = some ys[j] := List.getElem?_eq_getElem j2'
      obtain ⟨kj, ek⟩ := h1 j xs[j] ys[j] ex ey
      obtain ⟨vx, e3, rx⟩ := r1.get ex
      obtain ⟨vy, e4, ry⟩ := r2.get ey
      obtain ⟨ux, e5, qx⟩ := v1.get e3
      obtain ⟨uy, e6, qy⟩ := v2.get e4
      have e7 : its.toArray[j] = ux := by
        have := (List.getElem?_eq_some_iff.mp e5).2
        simpa using this
      have e8 : its2.toArray[j] = uy := by
        have := (List.getElem?_eq_some_iff.mp e6).2
        simpa using this
      rw [ex, ey, e7, e8]
      simp only [Option.bind_some, ek, Option.getD_some]
      exact (eq_sound I W n xs[j] ys[j] kj ek A.in1 vx vy ux uy rx ry qx qy (by rw [in1_units]; omega)).1
    unfold eqN at h
    generalize kd st a = da at h ka
    generalize kd st b = db at h kb
    cases da with
    | no => cases db <;> cases h
    | non =>
      cases db with
      | no => cases h
      | non =>
        have e1 : u = _ := ka
        subst e1
        have e2 : w = _ := kb
        subst e2
        cases h
        exact eqc_non_non 
      | bl b2 =>
        have e1 : u = _ := ka
        subst e1
        have e2 : w = _ := kb
        subst e2
        cases h
        exact eqc_non_bl 
      | int i2 =>
        have e1 : u = _ := ka
        subst e1
        obtain ⟨t2, rfl⟩ := kb
        cases h
        exact eqc_non_int 
      | str x2 =>
        have e1 : u = _ := ka
        subst e1
        obtain ⟨t2, rfl⟩ := kb
        cases h
        exact eqc_non_str 
      | tup ys =>
        have e1 : u = _ := ka
        subst e1
        obtain ⟨a2, vs2, its2, rfl, r2, q2, z2⟩ := kb
        cases h
        exact eqc_non_tup z2 hu
      | lst ys =>
        have e1 : u = _ := ka
        subst e1
        obtain ⟨a2, vs2, its2, rfl, r2, q2, z2⟩ := kb
        cases h
        exact eqc_non_lst z2 hu
    | bl b1 =>
      cases db with
      | no => cases h
      | non =>
        have e1 : u = _ := ka
        subst e1
        have e2 : w = _ := kb
        subst e2
        cases h
        exact eqc_bl_non 
      | bl b2 =>
        have e1 : u = _ := ka
        subst e1
        have e2 : w = _ := kb
        subst e2
        cases h
        exact eqc_bl_bl 
      | int i2 =>
        have e1 : u = _ := ka
        subst e1
        obtain ⟨t2, rfl⟩ := kb
        cases h
        exact eqc_bl_int 
      | str x2 =>
        have e1 : u = _ := ka
        subst e1
        obtain ⟨t2, rfl⟩ := kb
        cases h
        exact eqc_bl_str 
      | tup ys =>
        have e1 : u = _ := ka
        subst e1
        obtain ⟨a2, vs2, its2, rfl, r2, q2, z2⟩ := kb
        cases h
        exact eqc_bl_tup z2 hu
      | lst ys =>
        have e1 : u = _ := ka
        subst e1
        obtain ⟨a2, vs2, its2, rfl, r2, q2, z2⟩ := kb
        cases h
        exact eqc_bl_lst z2 hu
    | int i1 =>
      cases db with
      | no => cases h
      | non =>
        obtain ⟨t1, rfl⟩ := ka
        have e2 : w = _ := kb
        subst e2
        cases h
        exact eqc_int_non 
      | bl b2 =>
        obtain ⟨t1, rfl⟩ := ka
        have e2 : w = _ := kb
        subst e2
        cases h
        exact eqc_int_bl 
      | int i2 =>
        obtain ⟨t1, rfl⟩ := ka
        obtain ⟨t2, rfl⟩ := kb
        cases h
        exact eqc_int_int 
      | str x2 =>
        obtain ⟨t1, rfl⟩ := ka
        obtain ⟨t2, rfl⟩ := kb
        cases h
        exact eqc_int_str 
      | tup ys =>
        obtain ⟨t1, rfl⟩ := ka
        obtain ⟨a2, vs2, its2, rfl, r2, q2, z2⟩ := kb
        cases h
        exact eqc_int_tup z2 hu
      | lst ys =>
        obtain ⟨t1, rfl⟩ := ka
        obtain ⟨a2, vs2, its2, rfl, r2, q2, z2⟩ := kb
        cases h
        exact eqc_int_lst z2 hu
    | str x1 =>
      cases db with
      | no => cases h
      | non =>
        obtain ⟨t1, rfl⟩ := ka
        have e2 : w = _ := kb
        subst e2
        cases h
        exact eqc_str_non 
      | bl b2 =>
        obtain ⟨t1, rfl⟩ := ka
        have e2 : w = _ := kb
        subst e2
        cases h
        exact eqc_str_bl 
      | int i2 =>
        obtain ⟨t1, rfl⟩ := ka
        obtain ⟨t2, rfl⟩ := kb
        cases h
        exact eqc_str_int 
      | str x2 =>
        obtain ⟨t1, rfl⟩ := ka
        obtain ⟨t2, rfl⟩ := kb
        cases h
        exact eqc_str_str 
      | tup ys =>
        obtain ⟨t1, rfl⟩ := ka
        obtain ⟨a2, vs2, its2, rfl, r2, q2, z2⟩ := kb
        cases h
        exact eqc_str_tup z2 hu
      | lst ys =>
        obtain ⟨t1, rfl⟩ := ka
        obtain ⟨a2, vs2, its2, rfl, r2, q2, z2⟩ := kb
        cases h
        exact eqc_str_lst z2 hu
    | tup xs =>
      cases db with
      | no => cases h
      | non =>
        obtain ⟨a1, vs1, its1, rfl, r1, q1, z1⟩ := ka
        have e2 : w = _ := kb
        subst e2
        cases h
        exact eqc_tup_non z1 hu
      | bl b2 =>
        obtain ⟨a1, vs1, its1, rfl, r1, q1, z1⟩ := ka
        have e2 : w = _ := kb
        subst e2
        cases h
        exact eqc_tup_bl z1 hu
      | int i2 =>
        obtain ⟨a1, vs1, its1, rfl, r1, q1, z1⟩ := ka
        obtain ⟨t2, rfl⟩ := kb
        cases h
        exact eqc_tup_int z1 hu
      | str x2 =>
        obtain ⟨a1, vs1, its1, rfl, r1, q1, z1⟩ := ka
        obtain ⟨t2, rfl⟩ := kb
        cases h
        exact eqc_tup_str z1 hu
      | tup ys =>
        obtain ⟨a1, vs1, its1, rfl, r1, q1, z1⟩ := ka
        obtain ⟨a2, vs2, its2, rfl, r2, q2, z2⟩ := kb
        obtain ⟨he, hk⟩ := items h r1 r2 q1 q2
        have R := SeqAt.RcAt.tuples z1 z2 hu he
        have N := SeqAt.RcNeAt.tuples z1 z2 hu he
        rw [← hk] at R N
        refine ⟨?_, R, N⟩
        by_cases ea : a1 = a2
        · subst ea
          rw [same rfl]
          exact SeqAt.EqAt.same _
        · exact SeqAt.EqAt.of_refs ea R
      | lst ys =>
        obtain ⟨a1, vs1, its1, rfl, r1, q1, z1⟩ := ka
        obtain ⟨a2, vs2, its2, rfl, r2, q2, z2⟩ := kb
        cases h
        exact eqc_tup_lst z1 z2 hu
    | lst xs =>
      cases db with
      | no => cases h
      | non =>
        obtain ⟨a1, vs1, its1, rfl, r1, q1, z1⟩ := ka
        have e2 : w = _ := kb
        subst e2
        cases h
        exact eqc_lst_non z1 hu
      | bl b2 =>
        obtain ⟨a1, vs1, its1, rfl, r1, q1, z1⟩ := ka
        have e2 : w = _ := kb
        subst e2
        cases h
        exact eqc_lst_bl z1 hu
      | int i2 =>
        obtain ⟨a1, vs1, its1, rfl, r1, q1, z1⟩ := ka
        obtain ⟨t2, rfl⟩ := kb
        cases h
        exact eqc_lst_int z1 hu
      | str x2 =>
        obtain ⟨a1, vs1, its1, rfl, r1, q1, z1⟩ := ka
        obtain ⟨t2, rfl⟩ := kb
        cases h
        exact eqc_lst_str z1 hu
      | tup ys =>
        obtain ⟨a1, vs1, its1, rfl, r1, q1, z1⟩ := ka
        obtain ⟨a2, vs2, its2, rfl, r2, q2, z2⟩ := kb
        cases h
        exact eqc_lst_tup z1 z2 hu
      | lst ys =>
        obtain ⟨a1, vs1, its1, rfl, r1, q1, z1⟩ := ka
        obtain ⟨a2, vs2, its2, rfl, r2, q2, z2⟩ := kb
        obtain ⟨he, hk⟩ := items h r1 r2 q1 q2
        have RN : SeqAt.RcAt A s (.ref a1) (.ref a2) k ∧ SeqAt.RcNeAt A s (.ref a1) (.ref a2) (!k) := by
          by_cases hz : its1.toArray.size = its2.toArray.size
          · have R := SeqAt.RcAt.lists z1 z2 hz hu he
            have N := SeqAt.RcNeAt.lists z1 z2 hz hu he
            have hk2 : k = (List.range its1.toArray.size).all (fun j => ((xs[j]?.bind fun x => ys[j]?.bind fun y => eqN st n x y).getD false)) := by
              rw [hk, ← hz, Nat.min_self]
              simp
            rw [← hk2] at R N
            exact ⟨R, N⟩
          · have hk2 : k = false := by
              rw [hk]
              simp only [beq_eq_false_iff_ne.mpr hz, Bool.and_false]
            have hb : (its1.toArray.size != its2.toArray.size) = true := by simpa using hz
            subst hk2
            exact ⟨SeqAt.RcAt.lists_lengths z1 z2 hb hu, SeqAt.RcNeAt.lists_lengths z1 z2 hb hu⟩
        refine ⟨?_, RN.1, RN.2⟩
        by_cases ea : a1 = a2
        · subst ea
          rw [same rfl]
          exact SeqAt.EqAt.same _
        · exact SeqAt.EqAt.of_refs ea RN.1
end
end DL

end
section
set_option Elab.async false
set_option linter.all false
set_option maxRecDepth 100000
namespace DL
open PySem PySem.Spec PyProof.Rows L2

noncomputable abbrev EXT := Addr → Sto → List Addr → Hp → Prop
noncomputable def Run (K : PySem.W.Frag) (EX : EXT) {α : Type} (O : List Addr) (H : Hp) (r : Out α) (k : α → Sto → List Addr → Hp → Prop) : Prop := match r with
  | .ok a st => ∀ O' H', Keep K O H O' H' → WR K O' H' st → k a st O' H'
  | .exc c st => ∀ O' H', Keep K O H O' H' → WR K O' H' st → EX c st O' H'
  | .bad => False
section
variable {K : PySem.W.Frag} {EX : EXT} {α β : Type} {O O' : List Addr} {H H' : Hp} {st : Sto}
theorem Run.now {a : α} {k : α → Sto → List Addr → Hp → Prop} (h : Run K EX O H (.ok a st) k) (W : WR K O H st) : k a st O H := h O H Keep.refl W
theorem Run.later {r : Out α} {k : α → Sto → List Addr → Hp → Prop} (h : Run K EX O H r k) (kp : Keep K O H O' H') : Run K EX O' H' r k := by
  cases r with
  | ok a st => exact fun O2 H2 k2 W2 => h O2 H2 (kp.trans k2) W2
  | exc c st => exact fun O2 H2 k2 W2 => h O2 H2 (kp.trans k2) W2
  | bad => exact h
theorem Run.mono {r : Out α} {k k' : α → Sto → List Addr → Hp → Prop} (h : Run K EX O H r k) (f : ∀ a st O' H', Keep K O H O' H' → WR K O' H' st → k a st O' H' → k' a st O' H') : Run K EX O H r k' := by
  cases r with
  | ok a st => exact fun O' H' kp W => f a st O' H' kp W (h O' H' kp W)
  | exc c st => exact h
  | bad => exact h
theorem Run.bind {r : Out α} {g : α → Sto → Out β} {k : β → Sto → List Addr → Hp → Prop} (h : Run K EX O H (r.bind g) k) : Run K EX O H r (fun a st O' H' => Run K EX O' H' (g a st) k) := by
  cases r with
  | ok a st => exact fun O' H' kp W => Run.later (r := g a st) h kp
  | exc c st => exact h
  | bad => exact h
end

structure REnv (K : PySem.W.Frag) (O : List Addr) (H : Hp) (ρ : Ev) (σ : L2.St) : Prop where
  len : ρ.length = σ.length
  at_ : ∀ (i : Nat) (d : D), ρ[i]? = some (some d) → ∃ v, σ[i]? = some (some v) ∧ Rep K O H d v
section
variable {K : PySem.W.Frag} {O O' : List Addr} {H H' : Hp} {ρ : Ev} {σ : L2.St}
theorem REnv.mono (E : REnv K O H ρ σ) (k : Keep K O H O' H') : REnv K O' H' ρ σ :=
  ⟨E.len, fun i d e => let ⟨v, h, r⟩ := E.at_ i d e; ⟨v, h, Rep.mono k d v r⟩⟩
theorem REnv.set (E : REnv K O H ρ σ) {i : Nat} {d : D} {v : V} (r : Rep K O H d v) : REnv K O H (ρ.set i (some d)) (σ.set i (some v)) := by
  refine ⟨by rw [List.length_set, List.length_set, E.len], fun j e h => ?_⟩
  by_cases hij : i = j
  · subst hij
    have hl : i < ρ.length := by
      have := (List.getElem?_eq_some_iff.mp h).1
      rwa [List.length_set] at this
    rw [List.getElem?_set_self hl] at h
    cases h
    exact ⟨v, List.getElem?_set_self (by rw [← E.len]; exact hl), r⟩
  · rw [List.getElem?_set_ne hij] at h
    obtain ⟨u, h1, h2⟩ := E.at_ j e h
    exact ⟨u, by rw [List.getElem?_set_ne hij]; exact h1, h2⟩
end

noncomputable abbrev DE := Ev → Sto → Out D
noncomputable abbrev DT := Ev → Sto → Out Bool
noncomputable abbrev DA := Ev → Sto → Out (List D)
noncomputable def EX0 : EXT := fun _ _ _ _ => False
section
variable (K : PySem.W.Frag) (EX : EXT)
noncomputable def Val (Q : VK) (d : D) (_ : Sto) (O : List Addr) (H : Hp) : Prop := ∀ v, Rep K O H d v → Q v H
noncomputable def Vls (Q : List V → Hp → Prop) (ds : List D) (_ : Sto) (O : List Addr) (H : Hp) : Prop := ∀ vs, Reps K O H ds vs → Q vs H
noncomputable def New (Q : VK) (ds : List D) (_ : Sto) (O : List Addr) (H : Hp) : Prop := ∀ p vs, Reps K O H ds vs → H p = none → Q (.ref p) (upd H p (.lst vs))
noncomputable def tD (f : DE) : TE := fun σ H Q => ∃ O ρ st, WR K O H st ∧ REnv K O H ρ σ ∧ Run K EX O H (f ρ st) (Val K Q)
noncomputable def tDT (f : DT) : TT := fun σ H Q => ∃ O ρ st, WR K O H st ∧ REnv K O H ρ σ ∧ Run K EX O H (f ρ st) (fun b _ _ H' => Q b H')
noncomputable def tDA (f : DA) : TA := fun σ H Q => ∃ O ρ st, WR K O H st ∧ REnv K O H ρ σ ∧ Run K EX O H (f ρ st) (Vls K Q)
noncomputable def tDF (f : DA) : TE := fun σ H Q => ∃ O ρ st, WR K O H st ∧ REnv K O H ρ σ ∧ Run K EX O H (f ρ st) (New K Q)
noncomputable def rD2 (g : D → D → Sto → Out D) : R2 := fun x y H Q => ∃ O a b st, WR K O H st ∧ Rep K O H a x ∧ Rep K O H b y ∧ Run K EX O H (g a b st) (Val K Q)
noncomputable def rDF2 (g : D → D → Sto → Out (List D)) : R2 := fun x y H Q => ∃ O a b st, WR K O H st ∧ Rep K O H a x ∧ Rep K O H b y ∧ Run K EX O H (g a b st) (New K Q)
noncomputable def rDC (g : List D → Sto → Out D) : List V → Hp → VK → Prop := fun xs H Q => ∃ O ds st, WR K O H st ∧ Reps K O H ds xs ∧ Run K EX O H (g ds st) (Val K Q)
noncomputable def rDCF (g : List D → Sto → Out (List D)) : List V → Hp → VK → Prop := fun xs H Q => ∃ O ds st, WR K O H st ∧ Reps K O H ds xs ∧ Run K EX O H (g ds st) (New K Q)
end
section
variable (X : Cx) (EX : EXT)
noncomputable def PD (e : Expr) (f : DE) : Prop := PE X e (tD X.K EX f)
noncomputable def PDT (e : Expr) (f : DT) : Prop := PT X e (tDT X.K EX f)
noncomputable def PDW (e : Expr) (f : DT) : Prop := PW X e (tDT X.K EX f)
noncomputable def PDA (es : List Expr) (f : DA) : Prop := PA X es (tDA X.K EX f)
noncomputable def PDF (e : Expr) (f : DA) : Prop := PE X e (tDF X.K EX f)
noncomputable def OpD (f : Value → Value → Sem Value) (g : D → D → Sto → Out D) : Prop := OpR X f (rD2 X.K EX g)
noncomputable def OpF (f : Value → Value → Sem Value) (g : D → D → Sto → Out (List D)) : Prop := OpR X f (rDF2 X.K EX g)
noncomputable def CallD (f : Value) (g : List D → Sto → Out D) : Prop := CallR X f (rDC X.K EX g)
noncomputable def CallF (f : Value) (g : List D → Sto → Out (List D)) : Prop := CallR X f (rDCF X.K EX g)
end
theorem PE.mono {X : Cx} {e : Expr} {t t' : TE} (h : PE X e t) (f : ∀ σ H Q, t' σ H Q → t σ H Q) : PE X e t' := fun pins s σ H Q I q => h pins s σ H Q I (f σ H Q q)
theorem PT.mono {X : Cx} {e : Expr} {t t' : TT} (h : PT X e t) (f : ∀ σ H Q, t' σ H Q → t σ H Q) : PT X e t' := fun pins s σ H Q I q => h pins s σ H Q I (f σ H Q q)
theorem PW.mono {X : Cx} {e : Expr} {t t' : TT} (h : PW X e t) (f : ∀ σ H Q, t' σ H Q → t σ H Q) : PW X e t' := fun wh pins s σ H Q I q => h wh pins s σ H Q I (f σ H Q q)
theorem PA.mono {X : Cx} {es : List Expr} {t t' : TA} (h : PA X es t) (f : ∀ σ H Q, t' σ H Q → t σ H Q) : PA X es t' := fun pos pins s σ H Q I q => h pos pins s σ H Q I (f σ H Q q)
theorem PS.mono {X : Cx} {e : Stmt} {t t' : TS} (h : PS X e t) (f : ∀ D σ H, t' D σ H → t D σ H) : PS X e t' := fun pins s σ H D I q => h pins s σ H D I (f D σ H q)
theorem PSs.mono {X : Cx} {e : List Stmt} {t t' : TS} (h : PSs X e t) (f : ∀ D σ H, t' D σ H → t D σ H) : PSs X e t' := fun pins s σ H D I q => h pins s σ H D I (f D σ H q)
theorem OpR.mono {X : Cx} {f : Value → Value → Sem Value} {r r' : R2} (h : OpR X f r) (g : ∀ x y H Q, r' x y H Q → r x y H Q) : OpR X f r' := fun pins s σ H x y v u Q I rx ry q => h pins s σ H x y v u Q I rx ry (g x y H Q q)

section
variable {X : Cx} {EX : EXT} {a b c e : Expr} {fa fb fc : DE} {pos : Pos} {ta tb : DT}
noncomputable def dVar (i : Nat) : DE := fun ρ st => match ρ[i]? with
  | some (some d) => .ok d st
  | _ => .bad
theorem pd_var (i : Nat) {x : Str} {pos : Pos} (hN : X.N[i]? = some x := by rfl) (hv : Vis X.env.scope x := by first | exact Or.inl rfl | exact Or.inr (Or.inl rfl) | exact Or.inr (Or.inr rfl)) (hd : (x == ("__debug__" : Str)) = false := by decide)
    (hcd : (x == ("__classdict__" : Str)) = false := by decide) : PD X EX (.Name x pos) (dVar i) := by
  refine PE.mono (pe_var hN hv hd hcd) ?_
  rintro σ H Q ⟨O, ρ, st, W, E, R⟩
  unfold dVar at R
  cases h : ρ[i]? with
  | none => rw [h] at R; exact R.elim
  | some z =>
    cases z with
    | none => rw [h] at R; exact R.elim
    | some d =>
      rw [h] at R
      obtain ⟨v, h1, r⟩ := E.at_ i d h
      exact ⟨v, h1, R.now W v r⟩
noncomputable def dC (d : D) : DE := fun _ st => .ok d st
theorem pd_C {v : V} {d : D} (h : PE X e (tC v)) (hr : ∀ O H, Rep X.K O H d v) : PD X EX e (dC d) := by
  refine PE.mono h ?_
  rintro σ H Q ⟨O, ρ, st, W, E, R⟩
  exact R.now W v (hr O H)
theorem pd_int {i j pos} : PD X EX (.Constant (.int i) j pos) (dC (.int i)) := pd_C pe_int fun _ _ => Rep.int_i.mpr rfl
theorem pd_bl {b j pos} : PD X EX (.Constant (.bool b) j pos) (dC (.bl b)) := pd_C pe_bl fun _ _ => Rep.bl_i.mpr rfl
theorem pd_non {j pos} : PD X EX (.Constant .none j pos) (dC .non) := pd_C pe_non fun _ _ => Rep.non_i.mpr rfl
theorem pd_str {x j pos} : PD X EX (.Constant (.str x) j pos) (dC (.str x)) := pd_C pe_str fun _ _ => Rep.str_i.mpr rfl
noncomputable def dBin (g : D → D → Sto → Out D) (fa fb : DE) : DE := fun ρ st => (fa ρ st).bind fun x st1 => (fb ρ st1).bind fun y st2 => g x y st2
noncomputable def dBinF (g : D → D → Sto → Out (List D)) (fa fb : DE) : DA := fun ρ st => (fa ρ st).bind fun x st1 => (fb ρ st1).bind fun y st2 => g x y st2
theorem bin_imp {g : D → D → Sto → Out D} : ∀ σ H Q, tD X.K EX (dBin g fa fb) σ H Q → tOp (rD2 X.K EX g) (tD X.K EX fa) (tD X.K EX fb) σ H Q := by
  rintro σ H Q ⟨O, ρ, st, W, E, R⟩
  refine ⟨O, ρ, st, W, E, R.bind.mono fun x st1 O1 H1 k1 W1 R1 v r => ?_⟩
  refine ⟨O1, ρ, st1, W1, E.mono k1, R1.bind.mono fun y st2 O2 H2 k2 W2 R2 u r2 => ?_⟩
  exact ⟨O2, x, y, st2, W2, Rep.mono k2 x v r, r2, R2⟩
theorem binF_imp {g : D → D → Sto → Out (List D)} : ∀ σ H Q, tDF X.K EX (dBinF g fa fb) σ H Q → tOp (rDF2 X.K EX g) (tD X.K EX fa) (tD X.K EX fb) σ H Q := by
  rintro σ H Q ⟨O, ρ, st, W, E, R⟩
  refine ⟨O, ρ, st, W, E, R.bind.mono fun x st1 O1 H1 k1 W1 R1 v r => ?_⟩
  refine ⟨O1, ρ, st1, W1, E.mono k1, R1.bind.mono fun y st2 O2 H2 k2 W2 R2 u r2 => ?_⟩
  exact ⟨O2, x, y, st2, W2, Rep.mono k2 x v r, r2, R2⟩
theorem pd_op {op : Operator} {g : D → D → Sto → Out D} (ho : OpD X EX (binaryOp op) g) (ha : PD X EX a fa) (hb : PD X EX b fb) : PD X EX (.BinOp a op b pos) (dBin g fa fb) :=
  PE.mono (pe_op ho ha hb) bin_imp
theorem pdf_op {op : Operator} {g : D → D → Sto → Out (List D)} (ho : OpF X EX (binaryOp op) g) (ha : PD X EX a fa) (hb : PD X EX b fb) : PDF X EX (.BinOp a op b pos) (dBinF g fa fb) :=
  PE.mono (pe_op ho ha hb) binF_imp
theorem pd_cmp {op : CmpOp} {g : D → D → Sto → Out D} (ho : OpD X EX (compareOp op) g) (ha : PD X EX a fa) (hb : PD X EX b fb) (hm : behindInMarks op b = false := by first | exact nomark _ (by decide) (by decide) | with_unfolding_all rfl) : PD X EX (.Compare a [op] [b] pos) (dBin g fa fb) :=
  PE.mono (pe_cmpR ho ha hb hm) bin_imp
noncomputable def asB : D → Sto → Out Bool
  | .bl b, st => .ok b st
  | _, _ => .bad
noncomputable def dB (f : DE) : DT := fun ρ st => (f ρ st).bind asB
theorem asB_run {O : List Addr} {H : Hp} {st : Sto} {d : D} {v : V} {Q : Bool → Hp → Prop} (W : WR X.K O H st) (r : Rep X.K O H d v) (R : Run X.K EX O H (asB d st) (fun b _ _ H' => Q b H')) : ∃ k, v = .bl k ∧ Q k H := by
  cases d with
  | bl b => exact ⟨b, Rep.bl_i.mp r, Run.now (k := fun b _ _ H' => Q b H') R W⟩
  | _ => exact R.elim
theorem pdt_cmp {op : CmpOp} {g : D → D → Sto → Out D} (ho : OpD X EX (compareOp op) g) (ha : PD X EX a fa) (hb : PD X EX b fb) (hm : behindInMarks op b = false := by first | exact nomark _ (by decide) (by decide) | with_unfolding_all rfl) : PDT X EX (.Compare a [op] [b] pos) (dB (dBin g fa fb)) := by
  refine PT.mono (pt_cmpR ho ha hb hm) ?_
  rintro σ H Q ⟨O, ρ, st, W, E, R⟩
  exact bin_imp (X := X) (EX := EX) σ H _ ⟨O, ρ, st, W, E, R.bind.mono fun d st1 O1 H1 k1 W1 R1 v r => asB_run W1 r R1⟩
theorem pdt_val {f : DE} (h : PD X EX e f) (he : ∀ whole, isTrue e X.env whole = (do let v ← whole; standAt e.pos; holding [v] (truthy v)) := by intro _; rfl) : PDT X EX e (dB f) := by
  refine PT.mono (pt_val h he) ?_
  rintro σ H Q ⟨O, ρ, st, W, E, R⟩
  exact ⟨O, ρ, st, W, E, R.bind.mono fun d st1 O1 H1 k1 W1 R1 v r => asB_run W1 r R1⟩
noncomputable def dAnd (ta tb : DT) : DT := fun ρ st => (ta ρ st).bind fun x st1 => if x = true then tb ρ st1 else .ok false st1
noncomputable def dOr (ta tb : DT) : DT := fun ρ st => (ta ρ st).bind fun x st1 => if x = true then .ok true st1 else tb ρ st1
noncomputable def dNot (ta : DT) : DT := fun ρ st => (ta ρ st).bind fun x st1 => .ok (!x) st1
theorem pdw_and1 (ha : PDT X EX a ta) : PDW X EX (.BoolOp .And [a] pos) ta := pw_and1 ha
theorem pdw_or1 (ha : PDT X EX a ta) : PDW X EX (.BoolOp .Or [a] pos) ta := pw_or1 ha
theorem pdw_and {rest : List Expr} (ha : PDT X EX a ta) (hb : PDW X EX (.BoolOp .And (b :: rest) pos) tb) : PDW X EX (.BoolOp .And (a :: b :: rest) pos) (dAnd ta tb) := by
  refine PW.mono (pw_and ha hb) ?_
  rintro σ H Q ⟨O, ρ, st, W, E, R⟩
  refine ⟨O, ρ, st, W, E, R.bind.mono fun x st1 O1 H1 k1 W1 R1 => ?_⟩
  cases x with
  | true => exact ⟨O1, ρ, st1, W1, E.mono k1, R1⟩
  | false => exact Run.now (k := fun b _ _ H' => Q b H') R1 W1
theorem pdw_or {rest : List Expr} (ha : PDT X EX a ta) (hb : PDW X EX (.BoolOp .Or (b :: rest) pos) tb) : PDW X EX (.BoolOp .Or (a :: b :: rest) pos) (dOr ta tb) := by
  refine PW.mono (pw_or ha hb) ?_
  rintro σ H Q ⟨O, ρ, st, W, E, R⟩
  refine ⟨O, ρ, st, W, E, R.bind.mono fun x st1 O1 H1 k1 W1 R1 => ?_⟩
  cases x with
  | true => exact Run.now (k := fun b _ _ H' => Q b H') R1 W1
  | false => exact ⟨O1, ρ, st1, W1, E.mono k1, R1⟩
theorem PDW.pt (h : PDW X EX e ta) : PDT X EX e ta := PW.pt h
theorem pdt_not (ha : PDT X EX a ta) : PDT X EX (.UnaryOp .Not a pos) (dNot ta) := by
  refine PT.mono (pt_not ha) ?_
  rintro σ H Q ⟨O, ρ, st, W, E, R⟩
  exact ⟨O, ρ, st, W, E, R.bind.mono fun x st1 O1 H1 k1 W1 R1 => Run.now (k := fun b _ _ H' => Q b H') R1 W1⟩
noncomputable def dAndV (fa fb : DE) : DE := fun ρ st => (fa ρ st).bind fun d st1 => (asB d st1).bind fun x st2 => if x = true then fb ρ st2 else .ok (.bl false) st2
noncomputable def dOrV (fa fb : DE) : DE := fun ρ st => (fa ρ st).bind fun d st1 => (asB d st1).bind fun x st2 => if x = true then .ok (.bl true) st2 else fb ρ st2
noncomputable def dNotV (fa : DE) : DE := fun ρ st => (fa ρ st).bind fun d st1 => (asB d st1).bind fun x st2 => .ok (.bl (!x)) st2
theorem asB_runB {O : List Addr} {H : Hp} {st : Sto} {d : D} {v : V} {β : Type} {g : Bool → Sto → Out β} {k : β → Sto → List Addr → Hp → Prop} (r : Rep X.K O H d v) (R : Run X.K EX O H ((asB d st).bind g) k) : ∃ x, v = .bl x ∧ Run X.K EX O H (g x st) k := by
  cases d with
  | bl b => exact ⟨b, Rep.bl_i.mp r, R⟩
  | _ => exact R.elim
theorem pd_one {op} (h : PD X EX a fa) : PD X EX (.BoolOp op [a] pos) fa := pe_one h
theorem pd_and {rest : List Expr} (ha : PD X EX a fa) (hb : PD X EX (.BoolOp .And (b :: rest) pos) fb) : PD X EX (.BoolOp .And (a :: b :: rest) pos) (dAndV fa fb) := by
  refine PE.mono (pe_and ha hb) ?_
  rintro σ H Q ⟨O, ρ, st, W, E, R⟩
  refine ⟨O, ρ, st, W, E, R.bind.mono fun d st1 O1 H1 k1 W1 R1 v r => ?_⟩
  obtain ⟨x, rfl, R2⟩ := asB_runB r R1
  refine ⟨x, rfl, ?_⟩
  cases x with
  | true => exact ⟨O1, ρ, st1, W1, E.mono k1, R2⟩
  | false => exact Run.now (k := Val X.K Q) R2 W1 _ (Rep.bl_i.mpr rfl)
noncomputable def dIf (t : DT) (fa fb : DE) : DE := fun ρ st => (t ρ st).bind fun x st1 => if x = true then fa ρ st1 else fb ρ st1
theorem pd_ifExp (hc : PDT X EX c ta) (ha : PD X EX a fa) (hb : PD X EX b fb) : PD X EX (.IfExp c a b pos) (dIf ta fa fb) := by
  refine PE.mono (pe_ifExp hc ha hb) ?_
  rintro σ H Q ⟨O, ρ, st, W, E, R⟩
  refine ⟨O, ρ, st, W, E, R.bind.mono fun x st1 O1 H1 k1 W1 R1 => ?_⟩
  cases x with
  | true => exact ⟨O1, ρ, st1, W1, E.mono k1, R1⟩
  | false => exact ⟨O1, ρ, st1, W1, E.mono k1, R1⟩
noncomputable def dChain (g g' : D → D → Sto → Out D) (fa fb fc : DE) : DE := fun ρ st => (fa ρ st).bind fun x st1 => (fb ρ st1).bind fun y st2 => (g x y st2).bind fun z st3 => (asB z st3).bind fun k st4 =>
  if k = true then (fc ρ st4).bind fun w st5 => g' y w st5 else .ok (.bl false) st4
noncomputable def dNil : DA := fun _ st => .ok [] st
noncomputable def dCons (f : DE) (g : DA) : DA := fun ρ st => (f ρ st).bind fun x st1 => (g ρ st1).bind fun xs st2 => .ok (x :: xs) st2
theorem pda_nil : PDA X EX [] dNil := by
  refine PA.mono pa_nil ?_
  rintro σ H Q ⟨O, ρ, st, W, E, R⟩
  exact Run.now (k := Vls X.K Q) R W _ (Reps.nil_i.mpr rfl)
theorem pda_cons {es : List Expr} {g : DA} (ha : PD X EX a fa) (hr : PDA X EX es g) (hs : starEach (a :: es) X.env = (false, eval a X.env) :: starEach es X.env := by rfl) : PDA X EX (a :: es) (dCons fa g) := by
  refine PA.mono (pa_cons ha hr hs) ?_
  rintro σ H Q ⟨O, ρ, st, W, E, R⟩
  refine ⟨O, ρ, st, W, E, R.bind.mono fun x st1 O1 H1 k1 W1 R1 v r => ?_⟩
  refine ⟨O1, ρ, st1, W1, E.mono k1, R1.bind.mono fun xs st2 O2 H2 k2 W2 R2 vs rs => ?_⟩
  exact Run.now (k := Vls X.K Q) R2 W2 _ (Reps.cons_i.mpr ⟨v, vs, rfl, Rep.mono k2 x v r, rs⟩)
noncomputable def small : Nat := 10000
theorem small_le : small ≤ sizeLine := by rw [sizeLine_eq]; decide
noncomputable def dTup (g : DA) : DE := fun ρ st => (g ρ st).bind fun xs st1 => if xs.length ≤ small then .ok (.tup xs) st1 else .bad
noncomputable def dLst (g : DA) : DA := fun ρ st => (g ρ st).bind fun xs st1 => if xs.length ≤ small then .ok xs st1 else .bad
theorem new_tup {O : List Addr} {H : Hp} {st : Sto} {xs : List D} {vs : List V} {p : Addr} {Q : VK} (W : WR X.K O H st) (r : Reps X.K O H xs vs) (hp : H p = none) (R : Run X.K EX O H (.ok (.tup xs) st) (Val X.K Q)) : Q (.ref p) (upd H p (.tup vs)) :=
  R O (upd H p (.tup vs)) (Keep.laid hp) (W.laid hp) _ (Rep.tup_i.mpr ⟨p, vs, rfl, upd_same, Reps.mono (Keep.laid hp) _ _ r⟩)
theorem new_lst {O : List Addr} {H : Hp} {st : Sto} {xs : List D} {vs : List V} {p : Addr} {Q : VK} (W : WR X.K O H st) (r : Reps X.K O H xs vs) (hp : H p = none) (R : Run X.K EX O H (.ok (.lst xs) st) (Val X.K Q)) : Q (.ref p) (upd H p (.lst vs)) := by
  refine R O (upd H p (.lst vs)) (Keep.laid hp) (W.laid hp) _ (Rep.lst_i.mpr ⟨p, vs, rfl, fun hm => ?_, upd_same, Reps.mono (Keep.laid hp) _ _ r⟩)
  obtain ⟨i, hi⟩ := List.mem_iff_getElem?.mp hm
  exact W.ne hi hp rfl
theorem pd_tup {es : List Expr} {x1} {g : DA} (h : PDA X EX es g) : PD X EX (.Tuple es x1 pos) (dTup g) := by
  refine PE.mono (pe_tup h) ?_
  rintro σ H Q ⟨O, ρ, st, W, E, R⟩
  refine ⟨O, ρ, st, W, E, R.bind.mono fun xs st1 O1 H1 k1 W1 R1 vs r => ?_⟩
  by_cases hz : xs.length ≤ small
  · rw [if_pos hz] at R1
    exact ⟨by rw [← r.length]; exact Nat.le_trans hz small_le, fun p hp => new_tup W1 r hp R1⟩
  · rw [if_neg hz] at R1
    exact R1.elim
theorem pdf_lst {es : List Expr} {g : DA} (h : PDA X EX es g) : PDF X EX (.List es pos) (dLst g) := by
  refine PE.mono (pe_lst h) ?_
  rintro σ H Q ⟨O, ρ, st, W, E, R⟩
  refine ⟨O, ρ, st, W, E, R.bind.mono fun xs st1 O1 H1 k1 W1 R1 vs r => ?_⟩
  by_cases hz : xs.length ≤ small
  · rw [if_pos hz] at R1
    exact ⟨by rw [← r.length]; exact Nat.le_trans hz small_le, fun p hp => Run.now (k := New X.K Q) R1 W1 p vs r hp⟩
  · rw [if_neg hz] at R1
    exact R1.elim
noncomputable def dF (f : DA) : DE := fun ρ st => (f ρ st).bind fun xs st1 => .ok (.lst xs) st1
theorem pd_F {f : DA} (h : PDF X EX e f) : PD X EX e (dF f) := by
  refine PE.mono h ?_
  rintro σ H Q ⟨O, ρ, st, W, E, R⟩
  exact ⟨O, ρ, st, W, E, R.bind.mono fun xs st1 O1 H1 k1 W1 R1 p vs r hp => new_lst W1 r hp R1⟩
end
end DL

end
section
set_option Elab.async false
set_option linter.all false
set_option maxRecDepth 100000
namespace HT
open PySem PyProof.Rows
section
open PySem.SeqAt
open PySem.AutoSeq1 (wpAny_loadPart')
open PySem.MeetsSeq PySem.MeetsSeq2 PySem.MeetsSeq3
variable {prog : Program} {w : World} {A : Around} {E : Value → Shared → Prop} {s : Shared}
theorem cat_tup0 {t b : Addr} {ws : List Value} {Q : Value → Shared → Prop} (ht : IsTup s.heap t #[]) (hb : IsTup s.heap b ws.toArray) (h : Q (.ref b) s) : wpAny (model prog w) A (binaryOp .Add (.ref t) (.ref b)) Q E s := by
  obtain ⟨⟨cls, dd, data, sl⟩, ho, hc, n, hd⟩ := id ht
  obtain ⟨⟨cls2, dd2, data2, sl2⟩, ho2, hc2, n2, hd2⟩ := id hb
  simp only at hc hd hc2 hd2
  subst hc hd hc2 hd2
  exact concat_meets ⟨_, ho, rfl⟩ ⟨_, ho2, rfl⟩ noFill_tuple_add seq_tuple_add PySem.F.slot_tuple_add PySem.F.entry_tuple_add (PySem.F.args_tuple_add_2 _ _)
      (tuple_addW0 t b #[] ws.toArray n n2 dd dd2 sl sl2 rfl) ⟨ho, ho2, h⟩
end
end HT
namespace DL
open PySem PySem.Spec PyProof.Rows L2
section
variable {X : Cx} {EX : EXT}
noncomputable def addD : D → D → Sto → Out D
  | .int a, .int b, st => .ok (.int (a + b)) st
  | .str a, .str b, st => if a.length + b.length ≤ small then .ok (.str (a ++ b)) st else .bad
  | .tup xs, .tup ys, st => if xs.length + ys.length ≤ small then .ok (.tup (xs ++ ys)) st else .bad
  | _, _, _ => .bad
theorem op_addD : OpD X EX (binaryOp .Add) addD := by
  intro pins s σ H x y v u Q I rx ry h
  obtain ⟨O, a, b, st, W, ra, rb, R⟩ := h
  cases a <;> cases b <;> first | exact R.elim | skip
  case int.int i j =>
    rw [Rep.int_i] at ra rb
    subst ra rb
    exact op_add pins s σ H _ _ v u Q I rx ry ⟨i, j, rfl, rfl, Run.now (k := Val X.K Q) R W _ (Rep.int_i.mpr rfl)⟩
  case str.str i j =>
    rw [Rep.str_i] at ra rb
    subst ra rb
    dsimp only [addD] at R
    by_cases hz : i.length + j.length ≤ small
    · rw [if_pos hz] at R
      exact op_add_str pins s σ H _ _ v u Q I rx ry ⟨i, j, rfl, rfl, Nat.le_trans hz small_le, Run.now (k := Val X.K Q) R W _ (Rep.str_i.mpr rfl)⟩
    · rw [if_neg hz] at R; exact R.elim
  case tup.tup xs ys =>
    dsimp only [addD] at R
    by_cases hz : xs.length + ys.length ≤ small
    · rw [if_pos hz] at R
      rw [Rep.tup_i] at ra rb
      obtain ⟨a, vs, rfl, q1, r1⟩ := ra
      obtain ⟨b, ws, rfl, q2, r2⟩ := rb
      by_cases h0 : xs = []
      · subst h0
        rw [Reps.nil_i] at r1
        subst r1
        cases rx
        cases ry
        obtain ⟨its, v1, p1, _⟩ := I.tuple (SqT.of q1)
        obtain ⟨its2, v2, p2, _⟩ := I.tuple (SqT.of q2)
        cases v1
        exact HT.cat_tup0 p1 p2 ⟨.ref b, H, I, rfl, Run.now (k := Val X.K Q) R W _ (Rep.tup_i.mpr ⟨b, ws, rfl, q2, r2⟩)⟩
      · refine op_catT pins s σ H _ _ v u Q I rx ry ⟨a, b, vs, ws, rfl, rfl, SqT.of q1, SqT.of q2, fun z => h0 ?_, ?_, fun z => ?_, fun z p hp => ?_⟩
        · have := r1.length; rw [z] at this; exact List.length_eq_zero_iff.mp this
        · rw [← r1.length, ← r2.length]; exact Nat.le_trans hz small_le
        · have e : ys = [] := by have := r2.length; rw [z] at this; exact List.length_eq_zero_iff.mp this
          subst e
          rw [List.append_nil] at R
          exact Run.now (k := Val X.K Q) R W _ (Rep.tup_i.mpr ⟨a, vs, rfl, q1, r1⟩)
        · exact new_tup W (r1.append r2) hp R
    · rw [if_neg hz] at R; exact R.elim
noncomputable def catL (a b : D) (st : Sto) : Out (List D) := match ownL st a, ownL st b with
  | some xs, some ys => if xs.length + ys.length ≤ small then .ok (xs ++ ys) st else .bad
  | _, _ => .bad
theorem op_catL : OpF X EX (binaryOp .Add) catL := by
  intro pins s σ H x y v u Q I rx ry h
  obtain ⟨O, a, b, st, W, ra, rb, R⟩ := h
  unfold catL at R
  cases ea : ownL st a with
  | none => rw [ea] at R; exact R.elim
  | some xs =>
    cases eb : ownL st b with
    | none => rw [ea, eb] at R; exact R.elim
    | some ys =>
      rw [ea, eb] at R
      dsimp only at R
      by_cases hz : xs.length + ys.length ≤ small
      · rw [if_pos hz] at R
        obtain ⟨p1, vs, rfl, q1, r1⟩ := rdO W ra ea
        obtain ⟨p2, ws, rfl, q2, r2⟩ := rdO W rb eb
        exact op_cat pins s σ H _ _ v u Q I rx ry ⟨p1, p2, vs, ws, rfl, rfl, q1, q2, by rw [← r1.length, ← r2.length]; exact Nat.le_trans hz small_le, fun p hp => Run.now (k := New X.K Q) R W p _ (r1.append r2) hp⟩
      · rw [if_neg hz] at R; exact R.elim
noncomputable def intOp (C : Int → Int → Bool) (g : Int → Int → Int) : D → D → Sto → Out D
  | .int a, .int b, st => if C a b = true then .ok (.int (g a b)) st else .bad
  | _, _, _ => .bad
theorem op_intOp {f : Value → Value → Sem Value} {C : Int → Int → Bool} {P : Int → Int → Prop} {g : Int → Int → Int} (h : OpR X f (rI P fun i j => .int (g i j))) (hC : ∀ i j, C i j = true → P i j) : OpD X EX f (intOp C g) := by
  intro pins s σ H x y v u Q I rx ry h'
  obtain ⟨O, a, b, st, W, ra, rb, R⟩ := h'
  cases a <;> cases b <;> first | exact R.elim | skip
  rename_i i j
  rw [Rep.int_i] at ra rb
  subst ra rb
  dsimp only [intOp] at R
  by_cases hz : C i j = true
  · rw [if_pos hz] at R
    exact h pins s σ H _ _ v u Q I rx ry ⟨i, j, rfl, rfl, hC i j hz, Run.now (k := Val X.K Q) R W _ (Rep.int_i.mpr rfl)⟩
  · rw [if_neg hz] at R; exact R.elim
noncomputable def subD : D → D → Sto → Out D
  | .int a, .int b, st => .ok (.int (a - b)) st
  | _, _, _ => .bad
theorem op_subD : OpD X EX (binaryOp .Sub) subD := by
  intro pins s σ H x y v u Q I rx ry h
  obtain ⟨O, a, b, st, W, ra, rb, R⟩ := h
  cases a <;> cases b <;> first | exact R.elim | skip
  rename_i i j
  rw [Rep.int_i] at ra rb
  subst ra rb
  exact op_sub pins s σ H _ _ v u Q I rx ry ⟨i, j, rfl, rfl, Run.now (k := Val X.K Q) R W _ (Rep.int_i.mpr rfl)⟩
noncomputable def mulOk (i j : Int) : Bool := (decide (-(2 ^ 64) < i) && decide (i < 2 ^ 64)) || (decide (-(2 ^ 64) < j) && decide (j < 2 ^ 64))
noncomputable def mulD : D → D → Sto → Out D := intOp mulOk fun i j => i * j
theorem op_mulD : OpD X EX (binaryOp .Mult) mulD := op_intOp op_mul fun i j h => by
  unfold mulOk at h
  rw [Bool.or_eq_true, Bool.and_eq_true, Bool.and_eq_true] at h
  rcases h with ⟨h1, h2⟩ | ⟨h1, h2⟩
  · exact .inl ⟨of_decide_eq_true h1, of_decide_eq_true h2⟩
  · exact .inr ⟨of_decide_eq_true h1, of_decide_eq_true h2⟩
noncomputable def divOk (_ j : Int) : Bool := @decide (0 < j ∧ j < 1073741824) (Classical.propDecidable _)
noncomputable def fdivD : D → D → Sto → Out D := intOp divOk fun i j => i / j
theorem op_fdivD : OpD X EX (binaryOp .FloorDiv) fdivD := op_intOp op_fdiv fun i j h => @of_decide_eq_true (0 < j ∧ j < 1073741824) (Classical.propDecidable _) h
noncomputable def modD : D → D → Sto → Out D := intOp (fun _ j => decide (0 < j)) fun i j => i % j
theorem op_modD : OpD X EX (binaryOp .Mod) modD := op_intOp op_mod fun i j h => of_decide_eq_true h

noncomputable def depth : Nat := 50
noncomputable def eqD (a b : D) (st : Sto) : Out D := match eqN st depth a b with
  | some k => .ok (.bl k) st
  | none => .bad
noncomputable def neD (a b : D) (st : Sto) : Out D := match eqN st depth a b with
  | some k => .ok (.bl (!k)) st
  | none => .bad
theorem op_eqD (hu : X.A.units + 64 < cLine) : OpD X EX (compareOp .Eq) eqD := by
  intro pins s σ H x y v u Q I rx ry h
  obtain ⟨O, a, b, st, W, ra, rb, R⟩ := h
  unfold eqD at R
  cases e : eqN st depth a b with
  | none => rw [e] at R; exact R.elim
  | some k =>
    rw [e] at R
    have h := (eq_sound I W depth a b k e X.A x y v u ra rb rx ry (by show X.A.units + 50 < cLine; omega)).2.1
    exact h X.prog X.w X.xe _ ⟨.bl k, H, I, rfl, Run.now (k := Val X.K Q) R W _ (Rep.bl_i.mpr rfl)⟩
theorem op_neD (hu : X.A.units + 64 < cLine) : OpD X EX (compareOp .NotEq) neD := by
  intro pins s σ H x y v u Q I rx ry h
  obtain ⟨O, a, b, st, W, ra, rb, R⟩ := h
  unfold neD at R
  cases e : eqN st depth a b with
  | none => rw [e] at R; exact R.elim
  | some k =>
    rw [e] at R
    have h := (eq_sound I W depth a b k e X.A x y v u ra rb rx ry (by show X.A.units + 50 < cLine; omega)).2.2
    exact h X.prog X.w X.xe _ ⟨.bl (!k), H, I, rfl, Run.now (k := Val X.K Q) R W _ (Rep.bl_i.mpr rfl)⟩
noncomputable def cmpD (g : Int → Int → Bool) : D → D → Sto → Out D
  | .int a, .int b, st => .ok (.bl (g a b)) st
  | _, _, _ => .bad
theorem op_cmpD {f : Value → Value → Sem Value} {g : Int → Int → Bool} (h : OpR X f (rI0 fun i j => .bl (g i j))) : OpD X EX f (cmpD g) := by
  intro pins s σ H x y v u Q I rx ry h'
  obtain ⟨O, a, b, st, W, ra, rb, R⟩ := h'
  cases a <;> cases b <;> first | exact R.elim | skip
  rename_i i j
  rw [Rep.int_i] at ra rb
  subst ra rb
  exact h pins s σ H _ _ v u Q I rx ry ⟨i, j, rfl, rfl, Run.now (k := Val X.K Q) R W _ (Rep.bl_i.mpr rfl)⟩
noncomputable def gtD := cmpD fun i j => decide (j < i)
theorem op_gtD : OpD X EX (compareOp .Gt) gtD := op_cmpD op_gt
noncomputable def inN (st : Sto) (n : Nat) (x : D) : List D → Option Bool
  | [] => some false
  | y :: ys => match eqN st n y x, inN st n x ys with
    | some a, some b => some (a || b)
    | _, _ => none
noncomputable def itemsOf (st : Sto) : D → Option (List D)
  | .tup xs => some xs
  | d => seqL st d
noncomputable def inD (x c : D) (st : Sto) : Out D := match itemsOf st c with
  | some ys => match inN st depth x ys with
    | some k => .ok (.bl k) st
    | none => .bad
  | none => .bad
noncomputable def notInD (x c : D) (st : Sto) : Out D := match itemsOf st c with
  | some ys => match inN st depth x ys with
    | some k => .ok (.bl (!k)) st
    | none => .bad
  | none => .bad
open Classical in
theorem in_items {pins : List (Addr × Obj)} {σ : L2.St} {s : Shared} {O : List Addr} {H : Hp} {st : Sto} (I : Inv X pins σ H s) (W : WR X.K O H st) {x : D} {vx : V} {ux : Value} (rx : Rep X.K O H x vx) (qx : RelV vx ux) {A : Around} (hA : A.units + depth < cLine) :
    ∀ {ys : List D} {vs : List V} {its : List Value} {k : Bool}, inN st depth x ys = some k → Reps X.K O H ys vs → Vals vs its →
      ∃ e : Value → Bool, (∀ z, e z = decide (∃ d v, Rep X.K O H d v ∧ RelV v z ∧ eqN st depth d x = some true)) ∧ (∀ z ∈ its, SeqAt.EqAt A s z ux (e z)) ∧ its.any e = k
  | [], vs, its, k, h, r, q => by
    rw [Reps.nil_i] at r
    subst r
    cases q
    simp only [inN, Option.some.injEq] at h
    subst h
    exact ⟨fun z => decide (∃ d v, Rep X.K O H d v ∧ RelV v z ∧ eqN st depth d x = some true), fun _ => rfl, (fun z hz => (by cases hz)), rfl⟩
  | y :: ys, vs, its, k, h, r, q => by
    obtain ⟨v, vs', rfl, ry, rs⟩ := Reps.cons_i.mp r
    cases q with
    | cons q1 q2 =>
      rename_i u us
      unfold inN at h
      cases e1 : eqN st depth y x with
      | none => rw [e1] at h; cases h
      | some a =>
        cases e2 : inN st depth x ys with
        | none => rw [e1, e2] at h; cases h
        | some b =>
          rw [e1, e2] at h
          simp only [Option.some.injEq] at h
          obtain ⟨e, he, h1, h2⟩ := in_items I W rx qx hA e2 rs q2
          have hu : e u = a := by
            rw [he u]
            cases a with
            | true => exact decide_eq_true ⟨y, v, ry, q1, e1⟩
            | false =>
              refine decide_eq_false ?_
              rintro ⟨d, v', r', q', e'⟩
              have ev : v' = v := q'.inj q1
              subst ev
              have ed := Rep.inj I W d y v' r' ry
              subst ed
              rw [e1] at e'
              cases e'
          refine ⟨e, he, fun z hz => ?_, ?_⟩
          · rcases List.mem_cons.mp hz with rfl | hz
            · rw [hu]
              exact (eq_sound I W depth y x a e1 A v vx z ux ry rx q1 qx hA).1
            · exact h1 z hz
          · rw [List.any_cons, hu, h2]
            exact h
theorem in_units {A : Around} (hu : A.units + 64 < cLine) : A.in1.units + depth < cLine := by
  show A.units + 1 + 50 < cLine
  omega
theorem op_inD (hu : X.A.units + 64 < cLine) : OpD X EX (compareOp .In) inD := by
  intro pins s σ H x y v u Q I rx ry h
  obtain ⟨O, a, b, st, W, ra, rb, R⟩ := h
  unfold inD at R
  cases e1 : itemsOf st b with
  | none => rw [e1] at R; exact R.elim
  | some ys =>
    rw [e1] at R
    dsimp only at R
    cases e2 : inN st depth a ys with
    | none => rw [e2] at R; exact R.elim
    | some k =>
      rw [e2] at R
      have fin : EP X pins σ Q (.bool k) s := ⟨.bl k, H, I, rfl, Run.now (k := Val X.K Q) R W _ (Rep.bl_i.mpr rfl)⟩
      by_cases hb : ∃ zs, b = .tup zs
      · obtain ⟨zs, rfl⟩ := hb
        simp only [itemsOf, Option.some.injEq] at e1
        subst e1
        rw [Rep.tup_i] at rb
        obtain ⟨p, vs, rfl, q, r⟩ := rb
        cases ry
        obtain ⟨its, hv, hp, _⟩ := I.tuple (SqT.of q)
        obtain ⟨e, _, h1, h2⟩ := in_items I W ra rx (in_units hu) e2 r hv
        exact SeqAt.in_tupleAt e hp (fun z hz => h1 z (by simpa using hz)) (by simpa [h2] using fin)
      · have e3 : seqL st b = some ys := by
          cases b <;> first | exact e1 | exact absurd ⟨_, rfl⟩ hb
        obtain ⟨p, vs, rfl, q, r⟩ := rdL W rb e3
        cases ry
        obtain ⟨its, hv, hp, _⟩ := I.list q
        obtain ⟨e, _, h1, h2⟩ := in_items I W ra rx (in_units hu) e2 r hv
        exact SeqAt.in_listAt e hp.isList (fun z hz => h1 z (by simpa using hz)) (by simpa [h2] using fin)
theorem op_notInD (hu : X.A.units + 64 < cLine) : OpD X EX (compareOp .NotIn) notInD := by
  intro pins s σ H x y v u Q I rx ry h
  obtain ⟨O, a, b, st, W, ra, rb, R⟩ := h
  unfold notInD at R
  cases e1 : itemsOf st b with
  | none => rw [e1] at R; exact R.elim
  | some ys =>
    rw [e1] at R
    dsimp only at R
    cases e2 : inN st depth a ys with
    | none => rw [e2] at R; exact R.elim
    | some k =>
      rw [e2] at R
      have fin : EP X pins σ Q (.bool (!k)) s := ⟨.bl (!k), H, I, rfl, Run.now (k := Val X.K Q) R W _ (Rep.bl_i.mpr rfl)⟩
      by_cases hb : ∃ zs, b = .tup zs
      · obtain ⟨zs, rfl⟩ := hb
        simp only [itemsOf, Option.some.injEq] at e1
        subst e1
        rw [Rep.tup_i] at rb
        obtain ⟨p, vs, rfl, q, r⟩ := rb
        cases ry
        obtain ⟨its, hv, hp, _⟩ := I.tuple (SqT.of q)
        obtain ⟨e, _, h1, h2⟩ := in_items I W ra rx (in_units hu) e2 r hv
        exact SeqAt.notIn_tupleAt e hp (fun z hz => h1 z (by simpa using hz)) (by simpa [h2] using fin)
      · have e3 : seqL st b = some ys := by
          cases b <;> first | exact e1 | exact absurd ⟨_, rfl⟩ hb
        obtain ⟨p, vs, rfl, q, r⟩ := rdL W rb e3
        cases ry
        obtain ⟨its, hv, hp, _⟩ := I.list q
        obtain ⟨e, _, h1, h2⟩ := in_items I W ra rx (in_units hu) e2 r hv
        exact SeqAt.notIn_listAt e hp.isList (fun z hz => h1 z (by simpa using hz)) (by simpa [h2] using fin)
end
end DL

end
section
set_option Elab.async false
set_option linter.all false
set_option maxRecDepth 100000
namespace DL
open PySem PySem.Spec PyProof.Rows L2
section
variable {X : Cx} {EX : EXT} {a b c e : Expr} {fa fb fc : DE} {pos p2 : Pos} {ta tb : DT}
noncomputable abbrev DO := Ev → Sto → Out (Option Int)
noncomputable def tDO (K : PySem.W.Frag) (EX : EXT) (f : DO) : TO := fun σ H Q => ∃ O ρ st, WR K O H st ∧ REnv K O H ρ σ ∧ Run K EX O H (f ρ st) (fun o _ _ H' => Q o H')
noncomputable def PDO (X : Cx) (EX : EXT) (e : Option Expr) (f : DO) : Prop := PO X e (tDO X.K EX f)
noncomputable def dNoPart : DO := fun _ st => .ok none st
noncomputable def asInt : D → Sto → Out (Option Int)
  | .int i, st => .ok (some i) st
  | _, _ => .bad
noncomputable def dPart (f : DE) : DO := fun ρ st => (f ρ st).bind asInt
theorem PO.mono {e : Option Expr} {t t' : TO} (h : PO X e t) (f : ∀ σ H Q, t' σ H Q → t σ H Q) : PO X e t' := fun pins s σ H Q I q => h pins s σ H Q I (f σ H Q q)
theorem pdo_none : PDO X EX none dNoPart := by
  refine PO.mono po_none ?_
  rintro σ H Q ⟨O, ρ, st, W, E, R⟩
  exact Run.now (k := fun o _ _ H' => Q o H') R W
theorem pdo_some {f : DE} (h : PD X EX e f) : PDO X EX (some e) (dPart f) := by
  refine PO.mono (po_some h) ?_
  rintro σ H Q ⟨O, ρ, st, W, E, R⟩
  refine ⟨O, ρ, st, W, E, R.bind.mono fun d st1 O1 H1 k1 W1 R1 v r => ?_⟩
  cases d with
  | int i => exact ⟨i, Rep.int_i.mp r, Run.now (k := fun o _ _ H' => Q o H') R1 W1⟩
  | _ => exact R1.elim
noncomputable def cutL {α : Type} (xs : List α) (lo hi : Option Int) : List α := (xs.drop (HT.sIx xs.length 0 lo)).take (HT.sIx xs.length xs.length hi - HT.sIx xs.length 0 lo)
theorem Reps.cut {K : PySem.W.Frag} {O : List Addr} {H : Hp} {ds : List D} {vs : List V} (r : Reps K O H ds vs) (lo hi : Option Int) : Reps K O H (cutL ds lo hi) (cutV vs lo hi) := by
  unfold cutL cutV
  rw [r.length]
  exact (r.drop _).take _
noncomputable def rDSF (K : PySem.W.Frag) (EX : EXT) (g : D → Option Int → Option Int → Sto → Out (List D)) : V → Option Int → Option Int → Hp → VK → Prop := fun x lo hi H Q => ∃ O d st, WR K O H st ∧ Rep K O H d x ∧ Run K EX O H (g d lo hi st) (New K Q)
noncomputable def dSl {α : Type} (g : D → Option Int → Option Int → Sto → Out α) (f : DE) (l h : DO) : Ev → Sto → Out α := fun ρ st => (f ρ st).bind fun x st1 => (l ρ st1).bind fun lo st2 => (h ρ st2).bind fun hi st3 => g x lo hi st3
theorem pdf_slice {g : D → Option Int → Option Int → Sto → Out (List D)} {lo hi : Option Expr} {fl fh : DO} (hr : SlR X (rDSF X.K EX g)) (he : PD X EX e fa) (hl : PDO X EX lo fl) (hh : PDO X EX hi fh) : PDF X EX (.Subscript e (.Slice lo hi none p2) pos) (dSl g fa fl fh) := by
  refine PE.mono (pe_slice hr he hl hh) ?_
  rintro σ H Q ⟨O, ρ, st, W, E, R⟩
  refine ⟨O, ρ, st, W, E, R.bind.mono fun x st1 O1 H1 k1 W1 R1 v r => ?_⟩
  refine ⟨O1, ρ, st1, W1, E.mono k1, R1.bind.mono fun lo st2 O2 H2 k2 W2 R2 => ?_⟩
  refine ⟨O2, ρ, st2, W2, E.mono (k1.trans k2), R2.bind.mono fun hi st3 O3 H3 k3 W3 R3 => ?_⟩
  exact ⟨O3, x, st3, W3, Rep.mono (k2.trans k3) x v r, R3⟩
noncomputable def cutF (d : D) (lo hi : Option Int) (st : Sto) : Out (List D) := match seqL st d with
  | some xs => .ok (cutL xs lo hi) st
  | none => .bad
theorem sl_F : SlR X (rDSF X.K EX cutF) := by
  intro pins s σ H x v vl vu lo hi sl Q I rx hs pl pu h
  obtain ⟨O, d, st, W, r, R⟩ := h
  unfold cutF at R
  cases e : seqL st d with
  | none => rw [e] at R; exact R.elim
  | some xs =>
    rw [e] at R
    obtain ⟨a, vs, rfl, q, rs⟩ := rdL W r e
    exact sl_list pins s σ H _ v vl vu lo hi sl Q I rx hs pl pu ⟨a, vs, rfl, q, fun p hp => Run.now (k := New X.K Q) R W p _ (rs.cut lo hi) hp⟩

noncomputable def ixD (d : D) (i : D) (st : Sto) : Out D := match i with
  | .int k => match d with
    | .str z => if z.length ≤ small then (match atI z.cps.toList k with
      | some c => .ok (.str ⟨#[c]⟩) st
      | none => .bad) else .bad
    | _ => match itemsOf st d with
      | some xs => match atI xs k with
        | some x => .ok x st
        | none => .bad
      | none => .bad
  | _ => .bad
theorem Reps.atI {K : PySem.W.Frag} {O : List Addr} {H : Hp} {ds : List D} {vs : List V} {k : Int} {d : D} (r : Reps K O H ds vs) (h : L2.atI ds k = some d) : ∃ v, L2.atI vs k = some v ∧ Rep K O H d v := by
  unfold L2.atI at h ⊢
  rw [← r.length]
  cases e : ixN ds.length k with
  | none => rw [e] at h; cases h
  | some j =>
    rw [e] at h
    obtain ⟨v, h1, h2⟩ := r.get (i := j) (d := d) h
    exact ⟨v, h1, h2⟩
theorem ix_D : IxR X (rD2 X.K EX ixD) := by
  intro value slice pins s σ H x y v u Q I rx ry h hsub
  obtain ⟨O, d, i, st, W, rd, ri, R⟩ := h
  cases i with
  | int k =>
    rw [Rep.int_i] at ri
    subst ri
    have seq : ∀ xs, itemsOf st d = some xs → Run X.K EX O H (match L2.atI xs k with
        | some x => .ok x st
        | none => .bad) (Val X.K Q) → wpAny (model X.prog X.w) X.A (subscriptTail value slice v u) (EP X pins σ Q) X.xe s := by
      intro xs e1 R'
      clear R
      cases e2 : L2.atI xs k with
      | none => rw [e2] at R'; exact R'.elim
      | some z =>
        rw [e2] at R'
        by_cases hb : ∃ zs, d = .tup zs
        · obtain ⟨zs, rfl⟩ := hb
          simp only [itemsOf, Option.some.injEq] at e1
          subst e1
          rw [Rep.tup_i] at rd
          obtain ⟨p, vs, rfl, q, r⟩ := rd
          obtain ⟨w, h1, h2⟩ := r.atI e2
          exact ix_tup value slice pins s σ H _ _ v u Q I rx ry ⟨p, vs, k, w, rfl, rfl, SqT.of q, h1, Run.now (k := Val X.K Q) R' W _ h2⟩ hsub
        · have e3 : seqL st d = some xs := by
            cases d <;> first | exact e1 | exact absurd ⟨_, rfl⟩ hb
          obtain ⟨p, vs, rfl, q, r⟩ := rdL W rd e3
          obtain ⟨w, h1, h2⟩ := r.atI e2
          exact ix_list value slice pins s σ H _ _ v u Q I rx ry ⟨p, vs, k, w, rfl, rfl, q, h1, Run.now (k := Val X.K Q) R' W _ h2⟩ hsub
    cases d with
    | str z =>
      rw [Rep.str_i] at rd
      subst rd
      dsimp only [ixD] at R
      by_cases hz : z.length ≤ small
      · rw [if_pos hz] at R
        cases e : L2.atI z.cps.toList k with
        | none => rw [e] at R; exact R.elim
        | some c =>
          rw [e] at R
          exact ix_str value slice pins s σ H _ _ v u Q I rx ry ⟨z, k, c, rfl, rfl, Nat.le_trans hz small_le, e, Run.now (k := Val X.K Q) R W _ (Rep.str_i.mpr rfl)⟩ hsub
      · rw [if_neg hz] at R; exact R.elim
    | tup xs => exact seq xs rfl R
    | lst xs => exact seq xs rfl R
    | scr xs => exact seq xs rfl R
    | res j =>
      dsimp only [ixD] at R
      cases e : itemsOf st (.res j) with
      | none => rw [e] at R; exact R.elim
      | some xs => rw [e] at R; exact seq xs e R
    | _ => exact R.elim
  | _ => exact R.elim
theorem pd_ix (ha : PD X EX a fa) (hb : PD X EX b fb) (hs : PlainIx b := by intro _ _; rfl) : PD X EX (.Subscript a b pos) (dBin ixD fa fb) := PE.mono (pe_ix ix_D ha hb hs) bin_imp

noncomputable def dCall {α : Type} (g : List D → Sto → Out α) (f : DA) : Ev → Sto → Out α := fun ρ st => (f ρ st).bind g
theorem call_imp {g : List D → Sto → Out D} {f : DA} : ∀ σ H Q, tD X.K EX (dCall g f) σ H Q → tCB (rDC X.K EX g) (tDA X.K EX f) σ H Q := by
  rintro σ H Q ⟨O, ρ, st, W, E, R⟩
  exact ⟨O, ρ, st, W, E, R.bind.mono fun ds st1 O1 H1 k1 W1 R1 vs r => ⟨O1, ds, st1, W1, r, R1⟩⟩
theorem callF_imp {g : List D → Sto → Out (List D)} {f : DA} : ∀ σ H Q, tDF X.K EX (dCall g f) σ H Q → tCB (rDCF X.K EX g) (tDA X.K EX f) σ H Q := by
  rintro σ H Q ⟨O, ρ, st, W, E, R⟩
  exact ⟨O, ρ, st, W, E, R.bind.mono fun ds st1 O1 H1 k1 W1 R1 vs r => ⟨O1, ds, st1, W1, r, R1⟩⟩
theorem pd_callB {x : Str} {p : Pos} {es : List Expr} {id : String} {g : List D → Sto → Out D} {f : DA} (hc : CallD X EX (.builtin id) g) (hg : Gl X x) (hm : X.mg x = none) (hv : bootBuiltins x = some (.builtin id)) (ha : PDA X EX (e :: es) f) (hn : x ≠ "__name__" := by decide) (hdb : (x == ("__debug__" : Str)) = false := by decide)
    (he : starEach (e :: es) X.env = (false, eval e X.env) :: starEach es X.env := by rfl) (hpl : (backTo pos (starEach es X.env)).any (·.1) = false := by rfl) : PD X EX (.Call (.Name x p) (e :: es) [] pos) (dCall g f) := PE.mono (pe_callB hc hg hm hv ha hn hdb he hpl) call_imp
theorem pd_callTy {x : Str} {p : Pos} {es : List Expr} {T : String} {g : List D → Sto → Out D} {f : DA} (hc : CallD X EX (.type T) g) (hg : Gl X x) (hm : X.mg x = none) (hv : bootBuiltins x = some (.type T)) (ha : PDA X EX (e :: es) f) (hn : x ≠ "__name__" := by decide) (hdb : (x == ("__debug__" : Str)) = false := by decide)
    (he : starEach (e :: es) X.env = (false, eval e X.env) :: starEach es X.env := by rfl) (hpl : (backTo pos (starEach es X.env)).any (·.1) = false := by rfl) : PD X EX (.Call (.Name x p) (e :: es) [] pos) (dCall g f) := PE.mono (pe_callTy hc hg hm hv ha hn hdb he hpl) call_imp
theorem pdf_callTy {x : Str} {p : Pos} {es : List Expr} {T : String} {g : List D → Sto → Out (List D)} {f : DA} (hc : CallF X EX (.type T) g) (hg : Gl X x) (hm : X.mg x = none) (hv : bootBuiltins x = some (.type T)) (ha : PDA X EX (e :: es) f) (hn : x ≠ "__name__" := by decide) (hdb : (x == ("__debug__" : Str)) = false := by decide)
    (he : starEach (e :: es) X.env = (false, eval e X.env) :: starEach es X.env := by rfl) (hpl : (backTo pos (starEach es X.env)).any (·.1) = false := by rfl) : PDF X EX (.Call (.Name x p) (e :: es) [] pos) (dCall g f) := PE.mono (pe_callTy hc hg hm hv ha hn hdb he hpl) callF_imp
noncomputable def lenD : List D → Sto → Out D
  | [.str x], st => if x.length ≤ small then .ok (.int x.length) st else .bad
  | [d], st => match itemsOf st d with
    | some xs => .ok (.int xs.length) st
    | none => .bad
  | _, _ => .bad
theorem itemsOf_rd {O : List Addr} {H : Hp} {st : Sto} (W : WR X.K O H st) {d : D} {v : V} {xs : List D} (r : Rep X.K O H d v) (e : itemsOf st d = some xs) : ∃ p vs, v = .ref p ∧ (SqL X.K H p vs ∨ H p = some (.tup vs)) ∧ Reps X.K O H xs vs := by
  by_cases hb : ∃ zs, d = .tup zs
  · obtain ⟨zs, rfl⟩ := hb
    simp only [itemsOf, Option.some.injEq] at e
    subst e
    rw [Rep.tup_i] at r
    obtain ⟨p, vs, rfl, q, r⟩ := r
    exact ⟨p, vs, rfl, .inr q, r⟩
  · have e3 : seqL st d = some xs := by
      cases d <;> first | exact e | exact absurd ⟨_, rfl⟩ hb
    obtain ⟨p, vs, rfl, q, r⟩ := rdL W r e3
    exact ⟨p, vs, rfl, .inl q, r⟩
theorem Reps.one_of {K : PySem.W.Frag} {O : List Addr} {H : Hp} {d : D} {vs : List V} (h : Reps K O H [d] vs) : ∃ v, vs = [v] ∧ Rep K O H d v := by
  obtain ⟨v, r, rfl, q, t⟩ := Reps.cons_i.mp h
  rw [Reps.nil_i] at t
  subst t
  exact ⟨v, rfl, q⟩
theorem Reps.two_of {K : PySem.W.Frag} {O : List Addr} {H : Hp} {d e : D} {vs : List V} (h : Reps K O H [d, e] vs) : ∃ v w, vs = [v, w] ∧ Rep K O H d v ∧ Rep K O H e w := by
  obtain ⟨v, r, rfl, q, t⟩ := Reps.cons_i.mp h
  obtain ⟨w, rfl, q2⟩ := t.one_of
  exact ⟨v, w, rfl, q, q2⟩
theorem call_lenD : CallD X EX (.builtin "len") lenD := by
  intro pins s σ H xs us Q I rx h
  obtain ⟨O, ds, st, W, r, R⟩ := h
  match ds, r, R with
  | [], _, R => exact R.elim
  | [d], r, R =>
    obtain ⟨v, rfl, rv⟩ := r.one_of
    have seq : ∀ zs, itemsOf st d = some zs → Run X.K EX O H (.ok (.int zs.length) st) (Val X.K Q) → wpAny (model X.prog X.w) X.A (PySem.call (.builtin "len") us) (EP X pins σ Q) X.xe s := by
      intro zs e R
      obtain ⟨p, vs, rfl, q, rs⟩ := itemsOf_rd W rv e
      exact call_len_seq pins s σ H _ us Q I rx ⟨p, vs, rfl, q.imp_right SqT.of, by rw [← rs.length]; exact Run.now (k := Val X.K Q) R W _ (Rep.int_i.mpr rfl)⟩
    cases d with
    | str x =>
      rw [Rep.str_i] at rv
      subst rv
      dsimp only [lenD] at R
      by_cases hz : x.length ≤ small
      · rw [if_pos hz] at R
        exact call_len_str pins s σ H _ us Q I rx ⟨x, rfl, Nat.le_trans hz small_le, Run.now (k := Val X.K Q) R W _ (Rep.int_i.mpr rfl)⟩
      · rw [if_neg hz] at R; exact R.elim
    | tup zs => exact seq zs rfl R
    | lst zs => exact seq zs rfl R
    | scr zs => exact seq zs rfl R
    | res j =>
      dsimp only [lenD] at R
      cases e : itemsOf st (.res j) with
      | none => rw [e] at R; exact R.elim
      | some xs => rw [e] at R; exact seq xs e R
    | _ => exact R.elim
  | d1 :: _ :: _, _, R => cases d1 <;> exact R.elim
noncomputable def listF : List D → Sto → Out (List D)
  | [d], st => match itemsOf st d with
    | some xs => .ok xs st
    | none => .bad
  | _, _ => .bad
noncomputable def tupleD : List D → Sto → Out D
  | [d], st => match itemsOf st d with
    | some xs => .ok (.tup xs) st
    | none => .bad
  | _, _ => .bad
theorem call_listF : CallF X EX (.type "list") listF := by
  intro pins s σ H xs us Q I rx h
  obtain ⟨O, ds, st, W, r, R⟩ := h
  match ds, r, R with
  | [], _, R => exact R.elim
  | [d], r, R =>
    obtain ⟨v, rfl, rv⟩ := r.one_of
    dsimp only [listF] at R
    cases e : itemsOf st d with
    | none => rw [e] at R; exact R.elim
    | some zs =>
      rw [e] at R
      obtain ⟨p, vs, rfl, q, rs⟩ := itemsOf_rd W rv e
      exact call_list_of pins s σ H _ us Q I rx ⟨p, vs, rfl, q.imp_right SqT.of, fun l hl => Run.now (k := New X.K Q) R W l _ rs hl⟩
  | _ :: _ :: _, _, R => exact R.elim
theorem call_tupleD : CallD X EX (.type "tuple") tupleD := by
  intro pins s σ H xs us Q I rx h
  obtain ⟨O, ds, st, W, r, R⟩ := h
  match ds, r, R with
  | [], _, R => exact R.elim
  | [d], r, R =>
    obtain ⟨v, rfl, rv⟩ := r.one_of
    dsimp only [tupleD] at R
    cases e : itemsOf st d with
    | none => rw [e] at R; exact R.elim
    | some zs =>
      rw [e] at R
      obtain ⟨p, vs, rfl, q, rs⟩ := itemsOf_rd W rv e
      rcases q with q | q
      · exact call_tuple_of pins s σ H _ us Q I rx ⟨p, vs, rfl, .inl ⟨q, fun l hl => new_tup W rs hl R⟩⟩
      · exact call_tuple_of pins s σ H _ us Q I rx ⟨p, vs, rfl, .inr ⟨SqT.of q, Run.now (k := Val X.K Q) R W _ (Rep.tup_i.mpr ⟨p, vs, rfl, q, rs⟩)⟩⟩
  | _ :: _ :: _, _, R => exact R.elim
noncomputable def min2D : List D → Sto → Out D
  | [.int i, .int j], st => .ok (.int (if j < i then j else i)) st
  | _, _ => .bad
noncomputable def max2D : List D → Sto → Out D
  | [.int i, .int j], st => .ok (.int (if j > i then j else i)) st
  | _, _ => .bad
theorem call_min2D (hc : X.calm = true) : CallD X EX (.builtin "min") min2D := by
  intro pins s σ H xs us Q I rx h
  obtain ⟨O, ds, st, W, r, R⟩ := h
  unfold min2D at R
  split at R
  · obtain ⟨v, w, rfl, r1, r2⟩ := r.two_of
    rw [Rep.int_i] at r1 r2
    subst r1 r2
    exact call_min2 hc pins s σ H _ us Q I rx ⟨_, _, rfl, Run.now (k := Val X.K Q) R W _ (Rep.int_i.mpr rfl)⟩
  · exact R.elim
theorem call_max2D (hc : X.calm = true) : CallD X EX (.builtin "max") max2D := by
  intro pins s σ H xs us Q I rx h
  obtain ⟨O, ds, st, W, r, R⟩ := h
  unfold max2D at R
  split at R
  · obtain ⟨v, w, rfl, r1, r2⟩ := r.two_of
    rw [Rep.int_i] at r1 r2
    subst r1 r2
    exact call_max2 hc pins s σ H _ us Q I rx ⟨_, _, rfl, Run.now (k := Val X.K Q) R W _ (Rep.int_i.mpr rfl)⟩
  · exact R.elim
end
end DL

end
section
set_option Elab.async false
set_option linter.all false
set_option maxRecDepth 100000
namespace DL
open PySem PySem.Spec PyProof.Rows L2
noncomputable abbrev FD := List D → Sto → Out D
noncomputable def spD (K : PySem.W.Frag) (F : FD) : Sp := fun vs H Q E => ∃ O ds st, WR K O H st ∧ Reps K O H ds vs ∧ Run K (fun c _ _ H' => E (.ref c) Option.none H') O H (F ds st) (Val K Q)
noncomputable def eOf (EX : EXT) : XK := fun Cv _ H' => ∃ c st O', Cv = .ref c ∧ EX c st O' H'
noncomputable abbrev XeOk (CX : CXT) (X : Cx) (EX : EXT) : Prop := Passes CX X (eOf EX)
theorem xe0 {X : Cx} {EX : EXT} : XeOk CX0 X EX := fun _ _ _ _ _ _ _ h => h.elim
theorem Run.ex {K : PySem.W.Frag} {EX EX' : EXT} {α : Type} {O : List Addr} {H : Hp} {r : Out α} {k : α → Sto → List Addr → Hp → Prop} (h : Run K EX O H r k) (f : ∀ c st O' H', EX c st O' H' → EX' c st O' H') : Run K EX' O H r k := by
  cases r with
  | ok a st => exact h
  | exc c st => exact fun O' H' kp W => f _ _ _ _ (h O' H' kp W)
  | bad => exact h
theorem Run.eOf {K : PySem.W.Frag} {EX : EXT} {α : Type} {O : List Addr} {H : Hp} {r : Out α} {k : α → Sto → List Addr → Hp → Prop} (h : Run K EX O H r k) : Run K (fun c _ _ H' => eOf EX (.ref c) Option.none H') O H r k :=
  h.ex fun c st O' H' z => ⟨c, st, O', rfl, z⟩
theorem Flds.look {K : PySem.W.Frag} {O : List Addr} {H : Hp} {f : Str} : ∀ {ds : List (Str × D)} {vs : List (Str × V)}, Flds K O H ds vs →
    (ds.lookup f = none → vs.lookup f = none) ∧ ∀ d, ds.lookup f = some d → ∃ v, vs.lookup f = some v ∧ Rep K O H d v
  | [], vs, h => by
    unfold Flds at h
    subst h
    exact ⟨fun _ => rfl, fun d e => by cases e⟩
  | (x, d) :: ds, vs, h => by
    unfold Flds at h
    obtain ⟨v, r, rfl, q, t⟩ := h
    obtain ⟨h1, h2⟩ := Flds.look (f := f) t
    simp only [List.lookup_cons]
    cases hx : f == x with
    | true => exact ⟨fun e => (by cases e), fun d' e => ⟨v, rfl, by cases e; exact q⟩⟩
    | false => exact ⟨h1, h2⟩
noncomputable def putFD (f : Str) (d : D) : List (Str × D) → List (Str × D)
  | [] => [(f, d)]
  | (g, x) :: r => if g = f then (g, d) :: r else (g, x) :: putFD f d r
theorem Flds.put {K : PySem.W.Frag} {O : List Addr} {H : Hp} {f : Str} {d : D} {v : V} (q : Rep K O H d v) : ∀ {ds : List (Str × D)} {vs : List (Str × V)}, Flds K O H ds vs → Flds K O H (putFD f d ds) (putF f v vs)
  | [], vs, h => by
    unfold Flds at h
    subst h
    show Flds K O H [(f, d)] [(f, v)]
    unfold Flds
    exact ⟨v, [], rfl, q, by unfold Flds; rfl⟩
  | (x, e) :: ds, vs, h => by
    unfold Flds at h
    obtain ⟨u, r, rfl, q', t⟩ := h
    unfold putFD putF
    by_cases hx : x = f
    · rw [if_pos hx, if_pos hx]
      unfold Flds
      exact ⟨v, r, rfl, q, t⟩
    · rw [if_neg hx, if_neg hx]
      unfold Flds
      exact ⟨u, putF f v r, rfl, q', Flds.put q t⟩
theorem Flds.length {K : PySem.W.Frag} {O : List Addr} {H : Hp} : ∀ {ds : List (Str × D)} {vs : List (Str × V)}, Flds K O H ds vs → ds.length = vs.length
  | [], vs, h => by unfold Flds at h; subst h; rfl
  | (x, e) :: ds, vs, h => by
    unfold Flds at h
    obtain ⟨u, r, rfl, q', t⟩ := h
    rw [List.length_cons, List.length_cons, Flds.length t]
noncomputable def insAt (C : Addr) (st : Sto) : D → Option (Nat × List (Str × D))
  | .res i => match st[i]? with
    | some (.ins C' fs) => if C' = C then some (i, fs) else none
    | _ => none
  | _ => none
theorem insAt_rd {K : PySem.W.Frag} {O : List Addr} {H : Hp} {st : Sto} (W : WR K O H st) {C : Addr} {d : D} {v : V} {i : Nat} {fs : List (Str × D)} (r : Rep K O H d v) (e : insAt C st d = some (i, fs)) :
    d = .res i ∧ ∃ a dx vfs, v = .ref a ∧ O[i]? = some a ∧ H a = some (.ins C dx vfs) ∧ Flds K O H fs vfs := by
  cases d with
  | res j =>
    dsimp only [insAt] at e
    cases hs : st[j]? with
    | none => rw [hs] at e; cases e
    | some s =>
      rw [hs] at e
      cases s with
      | lst xs => cases e
      | dct kvs => cases e
      | dtt kvs => cases e
      | ins C' fs' =>
        dsimp only at e
        by_cases hC : C' = C
        · rw [if_pos hC] at e
          cases e
          subst hC
          rw [Rep.res_i] at r
          obtain ⟨a, rfl, q⟩ := r
          obtain ⟨dx, vfs, h1, h2⟩ := W.at_ _ _ _ q hs
          exact ⟨rfl, a, dx, vfs, rfl, q, h1, h2⟩
        · rw [if_neg hC] at e; cases e
  | _ => cases e
section
variable {X : Cx} {EX : EXT} {a b c e o : Expr} {fa fb fc fo : DE} {pos p apos : Pos} {ta tb : DT} {CX : CXT} {k : Nat} {f C : Addr} {fd : FuncData} {ps : List Str} {n : Nat} {F : FD} {x m : Str} {es : List Expr} {g : DA}
theorem pd_call (G : FnOk X.prog X.w X.K X.mg X.base CX k f fd ps (spD X.K F)) (hr : Room k X.A) (hg : Gl X x) (hm : X.mg x = some (.ref f)) (hk : PySem.W.keepIn X.K (.ref f) = true) (hb : Binds X.K fd ps []) (hx : XeOk CX X EX) (ha : PDA X EX (e :: es) g)
    (hdb : (x == ("__debug__" : Str)) = false := by decide) (he : starEach (e :: es) X.env = (false, eval e X.env) :: starEach es X.env := by rfl) (hpl : (backTo pos (starEach es X.env)).any (·.1) = false := by rfl) :
    PD X EX (.Call (.Name x p) (e :: es) [] pos) (dCall F g) := by
  refine PE.mono (pe_call G hr hg hm hk hb .nil hx ha hdb he hpl) ?_
  rintro σ H Q ⟨O, ρ, st, W, E, R⟩
  refine ⟨O, ρ, st, W, E, R.bind.mono fun ds st1 O1 H1 k1 W1 R2 vs r => ?_⟩
  dsimp only
  rw [List.append_nil]
  exact ⟨O1, ds, st1, W1, r, R2.eOf⟩
noncomputable def dMeth (C : Addr) (m : Str) (F : FD) (fo : DE) (g : DA) : DE := fun ρ st => (fo ρ st).bind fun d st1 => match insAt C st1 d with
  | some (_, fs) => if fs.lookup m = none then (g ρ st1).bind fun ds st2 => F (d :: ds) st2 else .bad
  | none => .bad
theorem meth_imp {g : DA} : ∀ σ H Q, tD X.K EX (dMeth C m F fo g) σ H Q → tMeth C m (spD X.K F) [] (eOf EX) (tD X.K EX fo) (tDA X.K EX g) σ H Q := by
  rintro σ H Q ⟨O, ρ, st, W, E, R⟩
  refine ⟨O, ρ, st, W, E, R.bind.mono fun d st1 O1 H1 k1 W1 R1 v r => ?_⟩
  cases e : insAt C st1 d with
  | none => rw [e] at R1; exact R1.elim
  | some q =>
    obtain ⟨i, fs⟩ := q
    rw [e] at R1
    dsimp only at R1
    obtain ⟨rfl, a, dx, vfs, rfl, ho, hH, hf⟩ := insAt_rd W1 r e
    by_cases hm : fs.lookup m = none
    · rw [if_pos hm] at R1
      refine ⟨a, dx, vfs, rfl, hH, hf.look.1 hm, O1, ρ, st1, W1, E.mono k1, R1.bind.mono fun ds st2 O2 H2 k2 W2 R2 vs rs => ?_⟩
      dsimp only
      rw [List.append_nil]
      exact ⟨O2, _, st2, W2, Reps.cons_i.mpr ⟨_, vs, rfl, Rep.mono k2 _ _ r, rs⟩, R2.eOf⟩
    · rw [if_neg hm] at R1; exact R1.elim
theorem pd_meth {pl : Sem Bool} (he : PD X EX o fo) (c : Cls X.K C) (hm : Meth X.K C m f) (G : FnOk X.prog X.w X.K X.mg X.base CX k f fd ps (spD X.K F)) (hr : Room k X.A) (hb : Binds X.K fd ps []) (hx : XeOk CX X EX) (ha : PDA X EX (e :: es) g)
    (hst : starEach (e :: es) X.env = (false, eval e X.env) :: starEach es X.env := by rfl) (hpl : (backTo pos (starEach es X.env)).any (·.1) = false := by rfl)
    (ht : eval (.Call (.Attribute o m apos) (e :: es) [] pos) X.env = (do
      let ov ← eval o X.env
      standAt apos.atName
      let (f, first) ← holding [ov] (getMethod ov m pl)
      callWith pos f first (backTo pos (starEach (e :: es) X.env)) (backToKw pos (keywordEach [] X.env))) := by rfl) :
    PD X EX (.Call (.Attribute o m apos) (e :: es) [] pos) (dMeth C m F fo g) := PE.mono (pe_meth he c hm G hr hb .nil hx ha hst hpl ht) meth_imp
theorem pd_meth0 {pl : Sem Bool} (he : PD X EX o fo) (c : Cls X.K C) (hm : Meth X.K C m f) (G : FnOk X.prog X.w X.K X.mg X.base CX k f fd ps (spD X.K F)) (hr : Room k X.A) (hb : Binds X.K fd ps []) (hx : XeOk CX X EX)
    (ht : eval (.Call (.Attribute o m apos) [] [] pos) X.env = (do
      let ov ← eval o X.env
      standAt apos.atName
      let (f, first) ← holding [ov] (getMethod ov m pl)
      callWith pos f first (backTo pos (starEach [] X.env)) (backToKw pos (keywordEach [] X.env))) := by rfl) :
    PD X EX (.Call (.Attribute o m apos) [] [] pos) (dMeth C m F fo dNil) := by
  refine PE.mono (pe_meth0 he c hm G hr hb .nil hx ht) fun σ H Q h => ?_
  obtain ⟨O, ρ, st, W, E, R⟩ := meth_imp (X := X) (EX := EX) σ H Q h
  refine ⟨O, ρ, st, W, E, R.mono fun d st1 O1 H1 k1 W1 R1 v r => ?_⟩
  obtain ⟨a, dx, fs, h1, h2, h3, O2, ρ2, st2, W2, E2, R2⟩ := R1 v r
  exact ⟨a, dx, fs, h1, h2, h3, Run.now (k := Vls X.K _) R2 W2 _ (Reps.nil_i.mpr rfl)⟩
noncomputable def dFld (C : Addr) (x : Str) (fo : DE) : DE := fun ρ st => (fo ρ st).bind fun d st1 => match insAt C st1 d with
  | some (_, fs) => match fs.lookup x with
    | some v => .ok v st1
    | none => .bad
  | none => .bad
theorem pd_fld (he : PD X EX e fo) (c : Cls X.K C) (na : NoAttr X.K C x) (hb : attributeBase e x X.env (eval e X.env) = eval e X.env := by rfl) : PD X EX (.Attribute e x pos) (dFld C x fo) := by
  refine PE.mono (pe_fld he hb) ?_
  rintro σ H Q ⟨O, ρ, st, W, E, R⟩
  refine ⟨O, ρ, st, W, E, R.bind.mono fun d st1 O1 H1 k1 W1 R1 v r => ?_⟩
  cases e : insAt C st1 d with
  | none => rw [e] at R1; exact R1.elim
  | some q =>
    obtain ⟨i, fs⟩ := q
    rw [e] at R1
    dsimp only at R1
    obtain ⟨rfl, a, dx, vfs, rfl, ho, hH, hf⟩ := insAt_rd W1 r e
    cases hl : fs.lookup x with
    | none => rw [hl] at R1; exact R1.elim
    | some w =>
      rw [hl] at R1
      obtain ⟨u, h1, h2⟩ := hf.look.2 w hl
      exact ⟨a, C, dx, vfs, u, rfl, hH, c, na, h1, Run.now (k := Val X.K Q) R1 W1 _ h2⟩
noncomputable def asNon : D → Sto → Out Unit
  | .non, st => .ok () st
  | _, _ => .bad
noncomputable def dMake (C : Addr) (F : FD) (g : DA) : DE := fun ρ st => (g ρ st).bind fun ds st1 => (F (.res st1.length :: ds) (st1 ++ [.ins C []])).bind fun d st2 => (asNon d st2).bind fun _ st3 => .ok (.res st1.length) st3
theorem make_imp {g : DA} : ∀ σ H Q, tD X.K EX (dMake C F g) σ H Q → tMake C (spD X.K F) [] (eOf EX) (tDA X.K EX g) σ H Q := by
  rintro σ H Q ⟨O, ρ, st, W, E, R⟩
  refine ⟨O, ρ, st, W, E, R.bind.mono fun ds st1 O1 H1 k1 W1 R1 vs rs => ?_⟩
  intro y dy hy hdy hne
  rw [List.append_nil]
  have hy' : (upd H1 dy (.own y)) y = none := by rw [upd_ne (Ne.symm hne)]; exact hy
  have kk : Keep X.K O1 H1 (O1 ++ [y]) (upd (upd H1 dy (.own y)) y (.ins C dy [])) := (Keep.laid hdy).trans (Keep.push hy')
  have WW : WR X.K (O1 ++ [y]) (upd (upd H1 dy (.own y)) y (.ins C dy [])) (st1 ++ [.ins C []]) := (W1.laid hdy).push' hy' ⟨dy, [], upd_same, by unfold Flds; rfl⟩
  refine ⟨O1 ++ [y], .res st1.length :: ds, st1 ++ [.ins C []], WW, Reps.cons_i.mpr ⟨.ref y, vs, rfl, rep_last W1.len, Reps.mono kk _ _ rs⟩, ?_⟩
  refine Run.eOf ?_
  refine (Run.later R1 kk).bind.mono fun d st2 O2 H2 k2 W2 R2 v r => ?_
  cases d with
  | non => exact ⟨Rep.non_i.mp r, Run.now (k := Val X.K Q) R2 W2 _ (Rep.mono k2 _ _ (rep_last W1.len))⟩
  | _ => exact R2.elim
theorem pd_make0 {fI : Addr} (M : Mk X.K C fI) (G : FnOk X.prog X.w X.K X.mg X.base CX k fI fd ps (spD X.K F)) (hr : Room (k + 1) X.A) (hg : Gl X x) (hm : X.mg x = some (.ref C)) (hb : Binds X.K fd ps []) (hx : XeOk CX X EX)
    (hdb : (x == ("__debug__" : Str)) = false := by decide) : PD X EX (.Call (.Name x p) [] [] pos) (dMake C F dNil) := by
  refine PE.mono (pe_make0 M G hr hg hm hb .nil hx hdb) fun σ H Q h => ?_
  obtain ⟨O, ρ, st, W, E, R⟩ := make_imp (X := X) (EX := EX) σ H Q h
  exact Run.now (k := Vls X.K _) R W _ (Reps.nil_i.mpr rfl)
end

inductive OutS where
  | nx (ρ : Ev) (st : Sto) | rt (d : D) (st : Sto) | bk (ρ : Ev) (st : Sto) | ct (ρ : Ev) (st : Sto) | exc (c : Addr) (st : Sto) | bad
noncomputable abbrev DS := Ev → Sto → OutS
noncomputable def RunS (K : PySem.W.Frag) (EX : EXT) (Dn : Ends) (O : List Addr) (H : Hp) : OutS → Prop
  | .nx ρ st => ∀ O' H' σ, Keep K O H O' H' → WR K O' H' st → REnv K O' H' ρ σ → Dn.nx σ H'
  | .bk ρ st => ∀ O' H' σ, Keep K O H O' H' → WR K O' H' st → REnv K O' H' ρ σ → Dn.bk σ H'
  | .ct ρ st => ∀ O' H' σ, Keep K O H O' H' → WR K O' H' st → REnv K O' H' ρ σ → Dn.ct σ H'
  | .rt d st => ∀ O' H' v, Keep K O H O' H' → WR K O' H' st → Rep K O' H' d v → Dn.rt v H'
  | .exc c st => ∀ O' H', Keep K O H O' H' → WR K O' H' st → EX c st O' H'
  | .bad => False
noncomputable def tDS (K : PySem.W.Frag) (EX : EXT) (g : DS) : TS := fun Dn σ H => ∃ O ρ st, WR K O H st ∧ REnv K O H ρ σ ∧ RunS K EX Dn O H (g ρ st)
noncomputable def PDs (X : Cx) (EX : EXT) (s : Stmt) (g : DS) : Prop := PS X s (tDS X.K EX g)
noncomputable def PDS (X : Cx) (EX : EXT) (ss : List Stmt) (g : DS) : Prop := PSs X ss (tDS X.K EX g)
theorem RunS.later {K : PySem.W.Frag} {EX : EXT} {Dn : Ends} {O O' : List Addr} {H H' : Hp} {r : OutS} (h : RunS K EX Dn O H r) (kp : Keep K O H O' H') : RunS K EX Dn O' H' r := by
  cases r with
  | bad => exact h
  | exc c st => exact fun O2 H2 k2 W2 => h O2 H2 (kp.trans k2) W2
  | rt d st => exact fun O2 H2 v k2 W2 r2 => h O2 H2 v (kp.trans k2) W2 r2
  | nx ρ st => exact fun O2 H2 v k2 W2 r2 => h O2 H2 v (kp.trans k2) W2 r2
  | bk ρ st => exact fun O2 H2 v k2 W2 r2 => h O2 H2 v (kp.trans k2) W2 r2
  | ct ρ st => exact fun O2 H2 v k2 W2 r2 => h O2 H2 v (kp.trans k2) W2 r2
noncomputable def Out.to {α : Type} (r : Out α) (k : α → Sto → OutS) : OutS := match r with
  | .ok a st => k a st
  | .exc c st => .exc c st
  | .bad => .bad
theorem RunS.to {K : PySem.W.Frag} {EX : EXT} {Dn : Ends} {α : Type} {O : List Addr} {H : Hp} {r : Out α} {g : α → Sto → OutS} (h : RunS K EX Dn O H (r.to g)) : Run K EX O H r (fun a st O' H' => RunS K EX Dn O' H' (g a st)) := by
  cases r with
  | ok a st => exact fun O' H' kp W => RunS.later (r := g a st) h kp
  | exc c st => exact h
  | bad => exact h
section
variable {X : Cx} {EX : EXT} {a b c e o tg : Expr} {fa fb fc fo : DE} {pos p apos : Pos} {ta tb : DT} {s : Stmt} {ss : List Stmt} {g g' : DS} {x : Str} {C : Addr}
noncomputable def sNext : DS := fun ρ st => .nx ρ st
noncomputable def sSeq (g g' : DS) : DS := fun ρ st => match g ρ st with
  | .nx ρ' st' => g' ρ' st'
  | r => r
theorem pds_nil : PDS X EX [] sNext := by
  refine PSs.mono pss_nil ?_
  rintro Dn σ H ⟨O, ρ, st, W, E, R⟩
  exact R O H σ Keep.refl W E
theorem pds_cons (h1 : PDs X EX s g) (h2 : PDS X EX ss g') : PDS X EX (s :: ss) (sSeq g g') := by
  refine PSs.mono (pss_cons h1 h2) ?_
  rintro Dn σ H ⟨O, ρ, st, W, E, R⟩
  refine ⟨O, ρ, st, W, E, ?_⟩
  unfold sSeq at R
  cases hg : g ρ st with
  | nx ρ' st' =>
    rw [hg] at R
    exact fun O' H' σ' kp W' E' => ⟨O', ρ', st', W', E', RunS.later R kp⟩
  | _ => rw [hg] at R; exact R
theorem pds_one (h1 : PDs X EX s g) : PDS X EX [s] g := pss_one h1
noncomputable def sBreak : DS := fun ρ st => .bk ρ st
noncomputable def sCont : DS := fun ρ st => .ct ρ st
noncomputable def sExpr (f : DE) : DS := fun ρ st => (f ρ st).to fun _ st1 => .nx ρ st1
theorem pd_expr (he : PD X EX e fa) (hs : swapsWith e none pos.line X.env = pure false := by rfl) : PDs X EX (.Expr e pos) (sExpr fa) := by
  refine PS.mono (ps_expr he hs) ?_
  rintro Dn σ H ⟨O, ρ, st, W, E, R⟩
  exact ⟨O, ρ, st, W, E, R.to.mono fun d st1 O1 H1 k1 W1 R1 v r => R1 O1 H1 σ Keep.refl W1 (E.mono k1)⟩
noncomputable def sRet (f : DE) : DS := fun ρ st => (f ρ st).to fun d st1 => .rt d st1
theorem pd_ret (he : PD X EX e fa) : PDs X EX (.Return (some e) pos) (sRet fa) := by
  refine PS.mono (ps_ret he) ?_
  rintro Dn σ H ⟨O, ρ, st, W, E, R⟩
  exact ⟨O, ρ, st, W, E, R.to.mono fun d st1 O1 H1 k1 W1 R1 v r => R1 O1 H1 v Keep.refl W1 r⟩
noncomputable def sRetF (f : DA) : DS := fun ρ st => (f ρ st).to fun ds st1 => .rt (.res st1.length) (st1 ++ [.lst ds])
theorem pd_retF {f : DA} (he : PDF X EX e f) : PDs X EX (.Return (some e) pos) (sRetF f) := by
  refine PS.mono (ps_ret he) ?_
  rintro Dn σ H ⟨O, ρ, st, W, E, R⟩
  exact ⟨O, ρ, st, W, E, R.to.mono fun ds st1 O1 H1 k1 W1 R1 p vs r hp => R1 (O1 ++ [p]) _ _ (Keep.push hp) (W1.push hp r) (rep_last W1.len)⟩
noncomputable def sRetN : DS := fun _ st => .rt .non st
noncomputable def sIf (t : DT) (g g' : DS) : DS := fun ρ st => (t ρ st).to fun x st1 => if x = true then g ρ st1 else g' ρ st1
theorem pd_if {sa sb : List Stmt} (hc : PDT X EX c ta) (ha : PDS X EX sa g) (hb : PDS X EX sb g') : PDs X EX (.If c sa sb pos) (sIf ta g g') := by
  refine PS.mono (ps_if hc ha hb) ?_
  rintro Dn σ H ⟨O, ρ, st, W, E, R⟩
  refine ⟨O, ρ, st, W, E, R.to.mono fun x st1 O1 H1 k1 W1 R1 => ?_⟩
  cases x with
  | true => exact ⟨O1, ρ, st1, W1, E.mono k1, R1⟩
  | false => exact ⟨O1, ρ, st1, W1, E.mono k1, R1⟩
noncomputable def sSet (i : Nat) (f : DE) : DS := fun ρ st => (f ρ st).to fun d st1 => .nx (ρ.set i (some d)) st1
theorem pd_set (i : Nat) {pos' : Pos} (hN : X.N.Nodup) (hi : X.N[i]? = some x) (hx : Loc X.env.scope x) (he : PD X EX e fa) (hs : swapsWith e (some (.Name x pos')) pos.line X.env = pure false := by rfl)
    (hf : X.fn x = true ∨ X.env.scope.names.lookup x = some .local := by first | exact .inl rfl | exact .inr rfl | assumption) : PDs X EX (.Assign [.Name x pos'] e pos) (sSet i fa) := by
  refine PS.mono (ps_set hN hi hx he hs hf) ?_
  rintro Dn σ H ⟨O, ρ, st, W, E, R⟩
  exact ⟨O, ρ, st, W, E, R.to.mono fun d st1 O1 H1 k1 W1 R1 v r => R1 O1 H1 _ Keep.refl W1 ((E.mono k1).set r)⟩
noncomputable def sSetF (i : Nat) (f : DA) : DS := fun ρ st => (f ρ st).to fun ds st1 => .nx (ρ.set i (some (.res st1.length))) (st1 ++ [.lst ds])
noncomputable def sFldS (C : Addr) (x : Str) (fo fv : DE) : DS := fun ρ st => (fv ρ st).to fun v st1 => (fo ρ st1).to fun d st2 => match insAt C st2 d with
  | some (i, fs) => if fs.length < 900 then .nx ρ (st2.set i (.ins C (putFD x v fs))) else .bad
  | none => .bad
theorem pd_fldS {pos' : Pos} (ha : PD X EX o fo) (hv : PD X EX e fa) (c : Cls X.K C) (na : NoAttr X.K C x) (hs : swapsWith e (some (.Attribute o x pos')) pos.line X.env = pure false := by rfl) : PDs X EX (.Assign [.Attribute o x pos'] e pos) (sFldS C x fo fa) := by
  refine PS.mono (ps_fld ha hv hs) ?_
  rintro Dn σ H ⟨O, ρ, st, W, E, R⟩
  refine ⟨O, ρ, st, W, E, R.to.mono fun w st1 O1 H1 k1 W1 R1 v r => ?_⟩
  refine ⟨O1, ρ, st1, W1, E.mono k1, R1.to.mono fun d st2 O2 H2 k2 W2 R2 u r2 => ?_⟩
  cases e : insAt C st2 d with
  | none => rw [e] at R2; exact R2.elim
  | some q =>
    obtain ⟨i, fs⟩ := q
    rw [e] at R2
    dsimp only at R2
    obtain ⟨rfl, a, dx, vfs, rfl, ho, hH, hf⟩ := insAt_rd W2 r2 e
    by_cases hl : fs.length < 900
    · rw [if_pos hl] at R2
      refine ⟨a, C, dx, vfs, rfl, hH, c, na, by rw [← hf.length]; omega, ?_⟩
      have kw : Keep X.K O2 H2 O2 (upd H2 a (.ins C dx (putF x v vfs))) := Keep.write W2 ho
      exact R2 O2 _ σ kw (W2.write ho ⟨dx, _, upd_same, Flds.mono kw _ _ (hf.put (Rep.mono k2 _ _ r))⟩) (E.mono (k1.trans (k2.trans kw)))
    · rw [if_neg hl] at R2; exact R2.elim
noncomputable def sFldF (C : Addr) (x : Str) (fo : DE) (fv : DA) : DS := fun ρ st => (fv ρ st).to fun vs st1 => (fo ρ (st1 ++ [.lst vs])).to fun d st2 => match insAt C st2 d with
  | some (i, fs) => if fs.length < 900 then .nx ρ (st2.set i (.ins C (putFD x (.res st1.length) fs))) else .bad
  | none => .bad
theorem pd_fldF {f : DA} {pos' : Pos} (ha : PD X EX o fo) (hv : PDF X EX e f) (c : Cls X.K C) (na : NoAttr X.K C x) (hs : swapsWith e (some (.Attribute o x pos')) pos.line X.env = pure false := by rfl) : PDs X EX (.Assign [.Attribute o x pos'] e pos) (sFldF C x fo f) := by
  refine PS.mono (ps_fld ha hv hs) ?_
  rintro Dn σ H ⟨O, ρ, st, W, E, R⟩
  refine ⟨O, ρ, st, W, E, R.to.mono fun w st1 O1 H1 k1 W1 R1 p vs r hp => ?_⟩
  refine ⟨O1 ++ [p], ρ, st1 ++ [.lst w], W1.push hp r, E.mono (k1.trans (Keep.push hp)), (RunS.later R1 (Keep.push hp)).to.mono fun d st2 O2 H2 k2 W2 R2 u r2 => ?_⟩
  cases e : insAt C st2 d with
  | none => rw [e] at R2; exact R2.elim
  | some q =>
    obtain ⟨i, fs⟩ := q
    rw [e] at R2
    dsimp only at R2
    obtain ⟨rfl, a, dx, vfs, rfl, ho, hH, hf⟩ := insAt_rd W2 r2 e
    by_cases hl : fs.length < 900
    · rw [if_pos hl] at R2
      refine ⟨a, C, dx, vfs, rfl, hH, c, na, by rw [← hf.length]; omega, ?_⟩
      have kw : Keep X.K O2 H2 O2 (upd H2 a (.ins C dx (putF x (.ref p) vfs))) := Keep.write W2 ho
      exact R2 O2 _ σ kw (W2.write ho ⟨dx, _, upd_same, Flds.mono kw _ _ (hf.put (Rep.mono k2 _ _ (rep_last W1.len)))⟩) (E.mono (k1.trans ((Keep.push hp).trans (k2.trans kw))))
    · rw [if_neg hl] at R2; exact R2.elim
noncomputable def sFldAdd (C : Addr) (x : Str) (fo fv : DE) : DS := fun ρ st => (fo ρ st).to fun d st1 => match insAt C st1 d with
  | some (i, fs) => match fs.lookup x with
    | some (.int z) => (fv ρ st1).to fun v st2 => match v with
      | .int y => match insAt C st2 d with
        | some (j, fs') => if fs'.length < 900 then .nx ρ (st2.set j (.ins C (putFD x (.int (z + y)) fs'))) else .bad
        | none => .bad
      | _ => .bad
    | _ => .bad
  | none => .bad
theorem pd_fldAdd {tpos : Pos} (ha : PD X EX o fo) (hv : PD X EX e fa) (c : Cls X.K C) (na : NoAttr X.K C x) : PDs X EX (.AugAssign (.Attribute o x tpos) .Add e pos) (sFldAdd C x fo fa) := by
  refine PS.mono (ps_fldaug ha hv in_add) ?_
  rintro Dn σ H ⟨O, ρ, st, W, E, R⟩
  refine ⟨O, ρ, st, W, E, R.to.mono fun d st1 O1 H1 k1 W1 R1 u r => ?_⟩
  cases e : insAt C st1 d with
  | none => rw [e] at R1; exact R1.elim
  | some q =>
    obtain ⟨i, fs⟩ := q
    rw [e] at R1
    dsimp only at R1
    obtain ⟨rfl, a, dx, vfs, rfl, ho, hH, hf⟩ := insAt_rd W1 r e
    cases hl : fs.lookup x with
    | none => rw [hl] at R1; exact R1.elim
    | some w =>
      rw [hl] at R1
      cases w with
      | int z =>
        dsimp only at R1
        obtain ⟨v, h1, h2⟩ := hf.look.2 _ hl
        rw [Rep.int_i] at h2
        subst h2
        refine ⟨a, C, dx, vfs, _, rfl, hH, c, na, h1, O1, ρ, st1, W1, E.mono k1, R1.to.mono fun y st2 O2 H2 k2 W2 R2 vy ry => ?_⟩
        cases y with
        | int y =>
          rw [Rep.int_i] at ry
          subst ry
          refine ⟨z, y, rfl, rfl, ?_⟩
          dsimp only at R2
          cases e2 : insAt C st2 (.res i) with
          | none => rw [e2] at R2; exact R2.elim
          | some q =>
            obtain ⟨j, fs'⟩ := q
            rw [e2] at R2
            dsimp only at R2
            obtain ⟨ej, a', dx', vfs', ea, ho', hH', hf'⟩ := insAt_rd W2 (Rep.mono k2 _ _ r) e2
            cases ej
            cases ea
            by_cases hl2 : fs'.length < 900
            · rw [if_pos hl2] at R2
              refine ⟨dx', vfs', hH', by rw [← hf'.length]; omega, ?_⟩
              have kw : Keep X.K O2 H2 O2 (upd H2 a (.ins C dx' (putF x (.int (z + y)) vfs'))) := Keep.write W2 ho'
              exact R2 O2 _ σ kw (W2.write ho' ⟨dx', _, upd_same, Flds.mono kw _ _ (hf'.put (Rep.int_i.mpr rfl))⟩) (E.mono (k1.trans (k2.trans kw)))
            · rw [if_neg hl2] at R2; exact R2.elim
        | _ => exact R2.elim
      | _ => exact R1.elim
noncomputable def sAdd (i : Nat) (f : DE) : DS := fun ρ st => match ρ[i]? with
  | some (some (.int z)) => (f ρ st).to fun v st1 => match v with
    | .int y => .nx (ρ.set i (some (.int (z + y)))) st1
    | _ => .bad
  | _ => .bad
theorem pd_add (i : Nat) {pos' : Pos} (hN : X.N.Nodup) (hi : X.N[i]? = some x) (hx : Loc X.env.scope x) (he : PD X EX e fa)
    (hf : X.fn x = true ∨ X.env.scope.names.lookup x = some .local := by first | exact .inl rfl | exact .inr rfl | assumption) : PDs X EX (.AugAssign (.Name x pos') .Add e pos) (sAdd i fa) := by
  refine PS.mono (ps_aug hN hi hx he ip_add hf) ?_
  rintro Dn σ H ⟨O, ρ, st, W, E, R⟩
  unfold sAdd at R
  split at R
  · rename_i z hz
    obtain ⟨v, h1, r⟩ := E.at_ i _ hz
    rw [Rep.int_i] at r
    subst r
    refine ⟨_, h1, O, ρ, st, W, E, R.to.mono fun y st1 O1 H1 k1 W1 R1 vy ry => ?_⟩
    cases y with
    | int y =>
      rw [Rep.int_i] at ry
      subst ry
      exact ⟨z, y, rfl, rfl, R1 O1 H1 _ Keep.refl W1 ((E.mono k1).set (Rep.int_i.mpr rfl))⟩
    | _ => exact R1.elim
  · exact R.elim
noncomputable def runF (N n : Nat) (g : DS) : FD := fun ds st => if ds.length = n then (match g (ds.map some ++ List.replicate (N - n) none) st with
  | .nx _ st' => .ok .non st'
  | .rt d st' => .ok d st'
  | _ => .bad) else .bad
end
section
variable {P : Program} {w : World} {K : PySem.W.Frag} {mg : Str → Option Value} {base : Heap}
theorem renv_start {O : List Addr} {H : Hp} {N : List Str} : ∀ {ds : List D} {vs : List V} (m : Nat), Reps K O H ds vs → REnv K O H (ds.map some ++ List.replicate m none) (vs.map some ++ List.replicate m none) := by
  intro ds vs m r
  refine ⟨by simp [r.length], fun i d h => ?_⟩
  by_cases hi : i < ds.length
  · rw [List.getElem?_append_left (by simpa using hi)] at h
    rw [List.getElem?_map] at h
    cases e : ds[i]? with
    | none => rw [e] at h; cases h
    | some d' =>
      rw [e] at h
      simp only [Option.map_some, Option.some.injEq] at h
      subst h
      obtain ⟨v, h1, h2⟩ := r.get e
      exact ⟨v, by rw [List.getElem?_append_left (by rw [List.length_map, ← r.length]; exact hi), List.getElem?_map, h1]; rfl, h2⟩
  · rw [List.getElem?_append_right (by rw [List.length_map]; omega), List.getElem?_replicate] at h
    split at h <;> cases h
theorem fnD {x qual : Str} {st : Stmt} {f : Addr} {fd : FuncData} {N ps : List Str} {k : Nat} {g : DS} (F : Fun K x qual st f fd) (S : FnScope N ps (defScope st))
    (hbody : ∀ (cdv : Value) (A : Around) (outer : List Env) (s : Shared) (H : Hp) (E : XK), Room k (A.deeper (envOfC qual (defScope st) s.heap.objs.size f cdv)) →
      PDS (cxOf CX0 P w K mg base N qual (defScope st) f cdv A outer s H E).nox EX0 (defBody st) g) : FnOk P w K mg base CX0 (k + 1) f fd ps (spD K (runF N.length ps.length g)) := by
  have hlen : ∀ vs H Q E, spD K (runF N.length ps.length g) vs H Q E → vs.length = ps.length := by
    rintro vs H Q E ⟨O, ds, st, W, r, R⟩
    unfold runF at R
    by_cases hl : ds.length = ps.length
    · rw [← r.length]; exact hl
    · rw [if_neg hl] at R; exact R.elim
  refine F.ok S hlen fun cdv A outer s H vs Q E hr h => ?_
  refine ⟨_, hbody cdv A outer s H E hr, ?_⟩
  have hl := hlen vs H Q E h
  obtain ⟨O, ds, st, W, r, R⟩ := h
  have hd : ds.length = ps.length := by rw [r.length]; exact hl
  unfold runF at R
  rw [if_pos hd] at R
  refine ⟨O, ds.map some ++ List.replicate (N.length - ps.length) none, st, W, ?_, ?_⟩
  · unfold L2.start
    rw [hl]
    exact renv_start (N := N) _ r
  · cases hg : g (ds.map some ++ List.replicate (N.length - ps.length) none) st with
    | nx ρ st' => rw [hg] at R; exact fun O' H' σ kp W' _ => R O' H' kp W' _ (Rep.non_i.mpr rfl)
    | rt d st' => rw [hg] at R; exact fun O' H' v kp W' rv => R O' H' kp W' v rv
    | exc c st' => rw [hg] at R; exact R.elim
    | bad => rw [hg] at R; exact R
    | bk ρ st' => rw [hg] at R; exact R.elim
    | ct ρ st' => rw [hg] at R; exact R.elim
end
end DL

end
section
set_option Elab.async false
set_option linter.all false
set_option maxRecDepth 100000
namespace DL
open PySem PySem.Spec PyProof.Rows L2
noncomputable abbrev TgD := D → Ev → Option Ev
noncomputable def tgD (K : PySem.W.Frag) (t : TgD) : TG := fun v σ H Q => ∃ O d ρ ρ', Rep K O H d v ∧ REnv K O H ρ σ ∧ t d ρ = some ρ' ∧ ∀ σ', REnv K O H ρ' σ' → Q σ' H
noncomputable def PGD (X : Cx) (tg : Expr) (t : TgD) : Prop := PG X tg (tgD X.K t)
theorem PG.mono {X : Cx} {tg : Expr} {t t' : TG} (h : PG X tg t) (f : ∀ v σ H Q, t' v σ H Q → t v σ H Q) : PG X tg t' := fun pins s σ H v u Q I r q => h pins s σ H v u Q I r (f v σ H Q q)
theorem PGs.mono {X : Cx} {tg : List Expr} {t t' : TGs} (h : PGs X tg t) (f : ∀ v σ H Q, t' v σ H Q → t v σ H Q) : PGs X tg t' := fun pins s σ H v u Q I r q => h pins s σ H v u Q I r (f v σ H Q q)
noncomputable def tgName (i : Nat) : TgD := fun d ρ => some (ρ.set i (some d))
section
variable {X : Cx} {EX : EXT} {pos : Pos} {x : Str}
theorem pgd_name (i : Nat) (hN : X.N.Nodup) (hi : X.N[i]? = some x) (hx : Loc X.env.scope x) (hf : X.fn x = true ∨ X.env.scope.names.lookup x = some .local := by first | exact .inl rfl | exact .inr rfl | assumption) : PGD X (.Name x pos) (tgName i) := by
  refine PG.mono (pg_name hN hi hx hf) ?_
  rintro v σ H Q ⟨O, d, ρ, ρ', r, E, ht, q⟩
  cases ht
  exact q _ (E.set r)
noncomputable def sAsg (t : TgD) (f : DE) : DS := fun ρ st => (f ρ st).to fun d st1 => match t d ρ with
  | some ρ' => .nx ρ' st1
  | none => .bad
end
noncomputable abbrev Wk := List D × (Sto → Prop)
noncomputable def ItD (K : PySem.W.Frag) (J : It) (O0 : List Addr) (H0 : Hp) (q : Wk) : Prop :=
  ∀ (i : Nat) (O : List Addr) (H : Hp) (st : Sto), Keep K O0 H0 O H → WR K O H st → q.2 st →
    (∀ d, q.1[i]? = some d → J.go i H ∧ ∀ x H', J.yld i H x H' → Keep K O H O H' ∧ WR K O H' st ∧ Rep K O H' d x) ∧ (q.1.length ≤ i → J.stop i H)
noncomputable abbrev DI := Ev → Sto → Out Wk
noncomputable def wiD (K : PySem.W.Frag) (EX : EXT) (f : DI) : TI := fun σ H R => ∃ O ρ st, WR K O H st ∧ REnv K O H ρ σ ∧ Run K EX O H (f ρ st) (fun q _ O' H' => ∀ J, ItD K J O' H' q → R J H')
noncomputable def PID (X : Cx) (EX : EXT) (tg iter : Expr) (f : DI) : Prop := PI X tg iter (wiD X.K EX f)
theorem PI.mono {X : Cx} {tg it : Expr} {t t' : TI} (h : PI X tg it t) (f : ∀ σ H Q, t' σ H Q → t σ H Q) : PI X tg it t' := fun pins s σ H Q I q => h pins s σ H Q I (f σ H Q q)
theorem PI.or {X : Cx} {tg it : Expr} {t t' : TI} (h : PI X tg it t) (h' : PI X tg it t') : PI X tg it (fun σ H R => t σ H R ∨ t' σ H R) := fun pins s σ H Q I q => by
  rcases q with q | q
  · exact h pins s σ H Q I q
  · exact h' pins s σ H Q I q
section
variable {K : PySem.W.Frag} {O : List Addr} {H : Hp} {st : Sto}
theorem it_tup {a : Addr} {vs : List V} {xs : List D} {P : Sto → Prop} (q : H a = some (.tup vs)) (r : Reps K O H xs vs) : ItD K (Itt K a) O H (xs, P) := by
  intro i O' H' st' kp W' _
  refine ⟨fun d hd => ?_, fun hl => ⟨vs, SqT.of (kp.tup _ _ q), by rw [← r.length]; exact hl⟩⟩
  obtain ⟨v, h1, h2⟩ := r.get hd
  refine ⟨⟨vs, v, SqT.of (kp.tup _ _ q), h1⟩, ?_⟩
  rintro x H2 ⟨rfl, h3⟩
  have h4 := h3 vs (SqT.of (kp.tup _ _ q))
  rw [h1] at h4
  cases h4
  exact ⟨Keep.refl, W', Rep.mono kp _ _ h2⟩
theorem it_list {a : Addr} {xs : List D} {P : Sto → Prop} (h : ∀ (O' : List Addr) (H' : Hp) (st' : Sto), Keep K O H O' H' → WR K O' H' st' → P st' → ∃ vs, SqL K H' a vs ∧ Reps K O' H' xs vs) : ItD K (Itl K a) O H (xs, P) := by
  intro i O' H' st' kp W' hp
  obtain ⟨vs, q, r⟩ := h O' H' st' kp W' hp
  refine ⟨fun d hd => ?_, fun hl => ⟨vs, q, by rw [← r.length]; exact hl⟩⟩
  obtain ⟨v, h1, h2⟩ := r.get hd
  refine ⟨⟨vs, v, q, h1⟩, ?_⟩
  rintro x H2 ⟨rfl, h3⟩
  have h4 := h3 vs q
  rw [h1] at h4
  cases h4
  exact ⟨Keep.refl, W', h2⟩
theorem it_range {lo : Int} {n : Nat} {P : Sto → Prop} : ItD K (Itr lo n) O H ((List.range n).map (fun (i : Nat) => D.int (lo + i)), P) := by
  intro i O' H' st' kp W' hp
  refine ⟨fun d hd => ?_, fun hl => (show n ≤ i by simpa using hl)⟩
  have hi : i < n := by
    have := (List.getElem?_eq_some_iff.mp hd).1
    simpa using this
  have e : d = D.int (lo + i) := by
    rw [List.getElem?_map, List.getElem?_range hi] at hd
    simpa using hd.symm
  subst e
  refine ⟨hi, ?_⟩
  rintro x H2 ⟨rfl, rfl⟩
  exact ⟨Keep.refl, W', Rep.int_i.mpr rfl⟩
end
section
variable {X : Cx} {EX : EXT} {tg e a b : Expr} {f : DE} {g : DA} {pos p : Pos}
noncomputable def dSeq (f : DE) : DI := fun ρ st => (f ρ st).bind fun d st1 => match itemsOf st1 d with
  | some xs => .ok (xs, fun st => itemsOf st d = some xs) st1
  | none => .bad
theorem pid_seq (h : PD X EX e f) : PID X EX tg e (dSeq f) := by
  refine PI.mono (PI.or (pi_tup h) (pi_list h)) ?_
  rintro σ H R ⟨O, ρ, st, W, E, R0⟩
  have R1 := R0.bind
  cases hf : f ρ st with
  | bad => rw [hf] at R1; exact R1.elim
  | exc c st' =>
    rw [hf] at R1
    exact .inl ⟨O, ρ, st, W, E, by rw [hf]; exact R1⟩
  | ok d st' =>
    rw [hf] at R1
    by_cases hb : ∃ zs, d = .tup zs
    · obtain ⟨zs, rfl⟩ := hb
      refine .inl ⟨O, ρ, st, W, E, ?_⟩
      rw [hf]
      intro O1 H1 k1 W1 v r
      have R2 := R1 O1 H1 k1 W1
      rw [Rep.tup_i] at r
      obtain ⟨q, vs, rfl, hq, rs⟩ := r
      exact ⟨q, rfl, ⟨vs, SqT.of hq⟩, Run.now (k := fun q _ O' H' => ∀ J, ItD X.K J O' H' q → R J H') R2 W1 _ (it_tup hq rs)⟩
    · refine .inr ⟨O, ρ, st, W, E, ?_⟩
      rw [hf]
      intro O1 H1 k1 W1 v r
      have R2 := R1 O1 H1 k1 W1
      have ei : ∀ s', itemsOf s' d = seqL s' d := by
        intro s'
        cases d <;> first | rfl | exact absurd ⟨_, rfl⟩ hb
      dsimp only at R2
      rw [ei] at R2
      cases e1 : seqL st' d with
      | none => rw [e1] at R2; exact R2.elim
      | some xs =>
        rw [e1] at R2
        obtain ⟨q, vs, rfl, hq, rs⟩ := rdL W1 r e1
        refine ⟨q, rfl, ⟨vs, hq⟩, Run.now (k := fun q _ O' H' => ∀ J, ItD X.K J O' H' q → R J H') R2 W1 _ (it_list fun O' H' st2 kp W' hp => ?_)⟩
        rw [ei] at hp
        obtain ⟨q', vs', e2, hq', rs'⟩ := rdL W' (Rep.mono kp _ _ r) hp
        cases e2
        exact ⟨vs', hq', rs'⟩
noncomputable def rngOk (j : Int) : Bool := @decide (-(2 ^ 62) ≤ j ∧ j < 2 ^ 62) (Classical.propDecidable _)
theorem rngOk_iff {j : Int} : rngOk j = true ↔ (-(2 ^ 62) ≤ j ∧ j < 2 ^ 62) := by
  unfold rngOk
  exact @decide_eq_true_iff _ (Classical.propDecidable _)
theorem rngOk_of {j : Int} (h1 : -1000000 ≤ j) (h2 : j ≤ 1000000) : rngOk j = true := rngOk_iff.mpr ⟨by omega, by omega⟩
noncomputable def dRng1 (g : DA) : DI := fun ρ st => (g ρ st).bind fun ds st1 => match ds with
  | [.int j] => if rngOk j = true then .ok ((List.range j.toNat).map (fun (i : Nat) => D.int (0 + i)), fun _ => True) st1 else .bad
  | _ => .bad
theorem pid_range1 (hg : Gl X "range") (hm : X.mg "range" = none) (ha : PDA X EX [a] g) (hs : starEach [a] X.env = [(false, eval a X.env)] := by rfl) : PID X EX tg (.Call (.Name "range" p) [a] [] pos) (dRng1 g) := by
  refine PI.mono (pi_range1 hg hm ha hs) ?_
  rintro σ H R ⟨O, ρ, st, W, E, R0⟩
  refine ⟨O, ρ, st, W, E, R0.bind.mono fun ds st1 O1 H1 k1 W1 R1 vs r => ?_⟩
  split at R1
  · rename_i j
    obtain ⟨v, rfl, rv⟩ := r.one_of
    rw [Rep.int_i] at rv
    subst rv
    by_cases hj : rngOk j = true
    · rw [if_pos hj] at R1
      exact ⟨j, rfl, (rngOk_iff.mp hj).1, (rngOk_iff.mp hj).2, Run.now (k := fun q _ O' H' => ∀ J, ItD X.K J O' H' q → R J H') R1 W1 _ it_range⟩
    · rw [if_neg hj] at R1; exact R1.elim
  · exact R1.elim
end
open Classical in
noncomputable def loopD (chk : Sto → Prop) (t : TgD) (g : DS) : List D → DS
  | [], ρ, st => if chk st then .nx ρ st else .bad
  | x :: xs, ρ, st => if chk st then (match t x ρ with
    | none => .bad
    | some ρ1 => match g ρ1 st with
      | .nx ρ' st' => loopD chk t g xs ρ' st'
      | .ct ρ' st' => loopD chk t g xs ρ' st'
      | .bk ρ' st' => .nx ρ' st'
      | r => r) else .bad
noncomputable def sFor (f : DI) (t : TgD) (g : DS) : DS := fun ρ st => (f ρ st).to fun q st1 => loopD q.2 t g q.1 ρ st1
section
variable {X : Cx} {EX : EXT} {tg it : Expr} {f : DI} {t : TgD} {g : DS} {pos : Pos} {body : List Stmt}
theorem pd_for (hp : PassesOwn (model X.prog X.w) X.A X.env X.xe) (hc : X.calm = true) (hi : PID X EX tg it f) (hg : PGD X tg t) (hb : PDS X EX body g) (hs : ∀ x, foldedSetIterable it X.env x = pure x := by intro _; rfl) : PDs X EX (.For tg it body [] pos) (sFor f t g) := by
  refine PS.mono (ps_for hp hc hi hg hb hs) ?_
  rintro Dn σ H ⟨O, ρ, st, W, E, R⟩
  refine ⟨O, ρ, st, W, E, R.to.mono fun q st1 O1 H1 k1 W1 R1 J hJ => ?_⟩
  refine ⟨fun i m σ' H' => m + i = q.1.length ∧ ∃ O' ρ' st', Keep X.K O1 H1 O' H' ∧ WR X.K O' H' st' ∧ REnv X.K O' H' ρ' σ' ∧ RunS X.K EX Dn O' H' (loopD q.2 t g (q.1.drop i) ρ' st'), ⟨q.1.length, rfl, O1, ρ, st1, Keep.refl, W1, E.mono k1, R1⟩, ?_⟩
  rintro i m σ' H' ⟨hm, O', ρ', st', kp, W', E', R'⟩
  cases hd : q.1.drop i with
  | nil =>
    rw [hd] at R'
    unfold loopD at R'
    have hl : q.1.length ≤ i := List.drop_eq_nil_iff.mp hd
    by_cases hch : q.2 st'
    · rw [if_pos hch] at R'
      exact .inl ⟨(hJ i O' H' st' kp W' hch).2 hl, R' O' H' σ' Keep.refl W' E'⟩
    · rw [if_neg hch] at R'; exact R'.elim
  | cons x xs =>
    rw [hd] at R'
    unfold loopD at R'
    have hx : q.1[i]? = some x := by
      have := List.getElem?_drop (xs := q.1) (i := i) (j := 0)
      rw [hd] at this
      simpa using this.symm
    have hxs : q.1.drop (i + 1) = xs := by
      have := List.drop_drop (i := 1) (j := i) (l := q.1)
      rw [hd] at this
      simpa using this.symm
    have hi : i < q.1.length := (List.getElem?_eq_some_iff.mp hx).1
    by_cases hch : q.2 st'
    · rw [if_pos hch] at R'
      obtain ⟨hgo, hy⟩ := (hJ i O' H' st' kp W' hch).1 x hx
      refine .inr ⟨hgo, fun σ2 H2 => (m - 1) + (i + 1) = q.1.length ∧ ∃ O' ρ' st', True ∧ WR X.K O' H2 st' ∧ Keep X.K O1 H1 O' H2 ∧ REnv X.K O' H2 ρ' σ2 ∧ RunS X.K EX Dn O' H2 (loopD q.2 t g (q.1.drop (i + 1)) ρ' st'), ?_, ?_⟩
      · rintro σ2 H2 ⟨h1, O2, ρ2, st2, _, W2, kp2, E2, R2⟩
        exact ⟨m - 1, by omega, h1, O2, ρ2, st2, kp2, W2, E2, R2⟩
      · intro v H2 hv
        obtain ⟨ky, Wy, ry⟩ := hy v H2 hv
        cases ht : t x ρ' with
        | none => rw [ht] at R'; exact R'.elim
        | some ρ1 =>
          rw [ht] at R'
          dsimp only at R'
          refine ⟨O', x, ρ', ρ1, ry, E'.mono ky, ht, fun σ2 E2 => ⟨O', ρ1, st', Wy, E2, ?_⟩⟩
          cases hgr : g ρ1 st' with
          | nx ρ2 st2 =>
            rw [hgr] at R'
            intro O3 H3 σ3 k3 W3 E3
            exact ⟨by omega, O3, ρ2, st2, trivial, W3, kp.trans (ky.trans k3), E3, by rw [hxs]; exact RunS.later R' (ky.trans k3)⟩
          | ct ρ2 st2 =>
            rw [hgr] at R'
            intro O3 H3 σ3 k3 W3 E3
            exact ⟨by omega, O3, ρ2, st2, trivial, W3, kp.trans (ky.trans k3), E3, by rw [hxs]; exact RunS.later R' (ky.trans k3)⟩
          | bk ρ2 st2 =>
            rw [hgr] at R'
            exact fun O3 H3 σ3 k3 W3 E3 => R' O3 H3 σ3 (ky.trans k3) W3 E3
          | rt d st2 =>
            rw [hgr] at R'
            exact fun O3 H3 σ3 k3 W3 E3 => R' O3 H3 σ3 (ky.trans k3) W3 E3
          | exc c st2 =>
            rw [hgr] at R'
            exact fun O3 H3 k3 W3 => R' O3 H3 (ky.trans k3) W3
          | bad => rw [hgr] at R'; exact R'
    · rw [if_neg hch] at R'; exact R'.elim
end
noncomputable def whileD (n : Nat) (t : DT) (g : DS) : DS := match n with
  | 0 => fun _ _ => .bad
  | n + 1 => fun ρ st => (t ρ st).to fun b st1 => if b = true then (match g ρ st1 with
    | .nx ρ' st' => whileD n t g ρ' st'
    | .ct ρ' st' => whileD n t g ρ' st'
    | .bk ρ' st' => .nx ρ' st'
    | r => r) else .nx ρ st1
section
variable {X : Cx} {EX : EXT} {c : Expr} {t : DT} {g : DS} {pos : Pos} {body : List Stmt}
theorem pd_while (n : Nat) (hp : PassesOwn (model X.prog X.w) X.A X.env X.xe) (hc : PDT X EX c t) (hb : PDS X EX body g) : PDs X EX (.While c body [] pos) (whileD n t g) := by
  refine PS.mono (ps_while hp hc hb) ?_
  rintro Dn σ H ⟨O, ρ, st, W, E, R⟩
  refine ⟨fun m σ' H' => ∃ O' ρ' st', WR X.K O' H' st' ∧ REnv X.K O' H' ρ' σ' ∧ RunS X.K EX Dn O' H' (whileD m t g ρ' st'), ⟨n, O, ρ, st, W, E, R⟩, ?_⟩
  rintro m σ' H' ⟨O', ρ', st', W', E', R'⟩
  cases m with
  | zero => exact R'.elim
  | succ m =>
    unfold whileD at R'
    refine ⟨O', ρ', st', W', E', R'.to.mono fun b st1 O1 H1 k1 W1 R1 => ?_⟩
    cases b with
    | false => exact R1 O1 H1 σ' Keep.refl W1 (E'.mono k1)
    | true =>
      refine ⟨fun σ2 H2 => ∃ O' ρ' st', WR X.K O' H2 st' ∧ REnv X.K O' H2 ρ' σ2 ∧ RunS X.K EX Dn O' H2 (whileD m t g ρ' st'), fun σ2 H2 h => ⟨m, Nat.lt_succ_self m, h⟩, O1, ρ', st1, W1, E'.mono k1, ?_⟩
      rw [if_pos rfl] at R1
      cases hgr : g ρ' st1 with
      | nx ρ2 st2 =>
        rw [hgr] at R1
        exact fun O3 H3 σ3 k3 W3 E3 => ⟨O3, ρ2, st2, W3, E3, RunS.later R1 k3⟩
      | ct ρ2 st2 =>
        rw [hgr] at R1
        exact fun O3 H3 σ3 k3 W3 E3 => ⟨O3, ρ2, st2, W3, E3, RunS.later R1 k3⟩
      | bk ρ2 st2 => rw [hgr] at R1; exact R1
      | rt d st2 => rw [hgr] at R1; exact R1
      | exc c st2 => rw [hgr] at R1; exact R1
      | bad => rw [hgr] at R1; exact R1
end
end DL

end
section
set_option Elab.async false
set_option linter.all false
set_option maxRecDepth 100000
namespace DL
open PySem PySem.Spec PyProof.Rows L2
section
variable {prog : Program} {w : World} {A : Around} {E : Value → Shared → Prop} {R : Result → Shared → Prop} {s : Shared}
theorem compLoop_gen {elt target iter : Expr} {ifs : List Expr} {scope : Scope} {pos : Pos} {it acc : Value} {env : Env} (I : Nat → Shared → Prop)
    (turn : ∀ n s, I n s → wpAny (model prog w) A (pyNext it) (fun r s₁ => match r with
      | none => R (.ok .next) s₁
      | some v => wpAny (model prog w) A (letOwnedTupleGo target it v) (fun _ s₁' => wpAny (model prog w) A (assign target env v) (fun _ s₂ =>
          wpAny (model prog w) A (forIn ifs true fun c r => if r = true then do let ok ← isTrue c env (eval c env); pure (ForInStep.yield ok) else pure (ForInStep.yield r)) (fun ok s₃ =>
            if ok = true then wpAny (model prog w) A (eval elt env) (fun x s₄ =>
              wpAny (model prog w) A (call (.builtin "list.append") [acc, x]) (fun _ s₅ => ∃ m, m < n ∧ I m s₅) (fun _ _ => False) s₄) (fun _ _ => False) s₃
            else ∃ m, m < n ∧ I m s₃) (fun _ _ => False) s₂) (fun _ _ => False) s₁') (fun _ _ => False) s₁) (fun _ _ => False) s)
    (n : Nat) (h : I n s) :
    codeAny (model prog w) A (.compLoop (.ListComp elt [⟨target, iter, ifs, 0⟩] scope pos) 0 it acc env) R s := by
  refine codeAny_loop rfl I (fun n s hI => ?_) n h
  show wpAny _ A ((compTurn (.ListComp elt [⟨target, iter, ifs, 0⟩] scope pos) 0 it acc env).onRaise (fun x => do noteFrame x env; theTreesLotGoes x)) _ _ s
  refine wpAny_noted ?_
  rw [compTurn_list]
  refine wpAny_bind (wpAny_standAt (wpAny_bind (wpAny_mono (turn n s hI) (fun r s₁ h₁ => ?_) fun _ _ h' => h'.elim)))
  cases r with
  | none => exact wpAny_pure h₁
  | some v =>
    refine wpAny_bind (wpAny_mono h₁ (fun _ s₁' h₁' => ?_) fun _ _ h' => h'.elim)
    refine wpAny_bind (wpAny_mono h₁' (fun _ s₂ h₂ => wpAny_bind (wpAny_mono h₂ (fun ok s₃ h₃ => ?_) fun _ _ h' => h'.elim)) fun _ _ h' => h'.elim)
    cases ok with
    | false => exact wpAny_pure ⟨rfl, h₃⟩
    | true =>
      exact wpAny_bind (wpAny_bind (wpAny_mono h₃ (fun x s₄ h₄ => wpAny_bind (wpAny_mono h₄ (fun _ s₅ h₅ => wpAny_pure (wpAny_pure ⟨rfl, h₅⟩)) fun _ _ h' => h'.elim)) fun _ _ h' => h'.elim))
theorem append_obj {l : Addr} {items : List Value} {n : Nat} {x : Value} {Q : Value → Shared → Prop} (ho : s.heap.get? l = some { cls := .type "list", data := .seq items.toArray n })
    (hQ : ∀ h', h'.get? l = some { cls := .type "list", data := .seq (items ++ [x]).toArray (n + 1) } → Heap.SameBut l s.heap h' → Q .none { s with heap := h' }) (hsz : items.length ≤ sizeLine) :
    wpAny (model prog w) A (call (.builtin "list.append") [.ref l, x]) Q E s := by
  have hl : s.heap.IsList l items.toArray := ⟨_, ho, rfl, n, rfl⟩
  refine wpAny_call_entry slot_list_append hl.typeIs entry_list_append ?_ (args_list_append _ _)
  show wpAny _ _ (updateSeq l (·.push x) >>= fun _ => ret .none) _ _ s
  refine wpAny_bind ?_
  refine wpAny_updateSeq (hz := by rw [List.size_toArray]; exact hsz) ho rfl (wpAny_pure ⟨.none, rfl, hQ _ ?_ (Heap.SameBut.update ..)⟩)
  rw [Heap.get?_update_self _ ho (by rfl)]
  simp [Obj.mapSeq]
end
noncomputable def clOf (env : Env) : List (Str × NameKind) → List (Str × Addr) → List (Str × Addr)
  | [], acc => acc
  | (n, k) :: r, acc => if k == .free then (match env.cells.lookup n with
    | some a => clOf env r ((n, a) :: acc)
    | none => clOf env r acc) else clOf env r acc
theorem clos_run (env : Env) : ∀ (names : List (Str × NameKind)) (acc : List (Str × Addr)), (∀ y ∈ names, y.2 = .free → ∃ a, env.cells.lookup y.1 = some a) →
    (forIn names acc fun (x : Str × NameKind) (cs : List (Str × Addr)) => (if (x.2 == NameKind.free) = true then do let a ← cellOf env x.1; pure (ForInStep.yield ((x.1, a) :: cs)) else pure (ForInStep.yield cs) : Sem (ForInStep (List (Str × Addr))))) = pure (clOf env names acc)
  | [], acc, _ => rfl
  | (n, k) :: r, acc, h => by
    have ih := fun acc => clos_run env r acc fun y hy => h y (List.mem_cons_of_mem _ hy)
    rw [List.forIn_cons]
    unfold clOf
    by_cases hk : (k == NameKind.free) = true
    · obtain ⟨a, ha⟩ := h (n, k) List.mem_cons_self (by simpa using hk)
      have e : cellOf env n = pure a := by unfold cellOf; rw [ha]
      simp only [hk, if_true, e, ha, pure_bind]
      exact ih _
    · have hk' : (k == NameKind.free) = false := by simpa using hk
      simp only [hk', Bool.false_eq_true, if_false, pure_bind]
      exact ih _
theorem closureFor_of {scope : Scope} {env : Env} (h : ∀ y ∈ scope.names, y.2 = .free → ∃ a, env.cells.lookup y.1 = some a) : closureFor scope env = pure (clOf env scope.names []) := by
  have e := clos_run env scope.names [] h
  unfold closureFor
  simp only [bind_pure]
  refine Eq.trans ?_ e
  rfl
theorem clOf_look {env : Env} {x : Str} {c : Addr} : ∀ (names : List (Str × NameKind)) (acc : List (Str × Addr)), (∀ y a, acc.lookup y = some a → env.cells.lookup y = some a) → (clOf env names acc).lookup x = some c → env.cells.lookup x = some c
  | [], acc, h, e => h x c e
  | (n, k) :: r, acc, h, e => by
    unfold clOf at e
    split at e
    · split at e
      · rename_i a ha
        refine clOf_look r _ (fun y b hb => ?_) e
        rw [List.lookup_cons] at hb
        cases hy : y == n with
        | true =>
          rw [hy] at hb
          have ey : y = n := eq_of_beq hy
          subst ey
          cases hb
          exact ha
        | false => rw [hy] at hb; exact h y b hb
      · exact clOf_look r _ h e
    · exact clOf_look r _ h e
theorem clOf_acc {env : Env} {x : Str} {c : Addr} (hx : env.cells.lookup x = some c) : ∀ (names : List (Str × NameKind)) (acc : List (Str × Addr)), acc.lookup x = some c ∨ (x, NameKind.free) ∈ names → (clOf env names acc).lookup x = some c
  | [], acc, h => by
    rcases h with h | h
    · exact h
    · cases h
  | (n, k) :: r, acc, h => by
    unfold clOf
    have keep : ∀ a, env.cells.lookup n = some a → acc.lookup x = some c → ((n, a) :: acc).lookup x = some c := by
      intro a ha hl
      rw [List.lookup_cons]
      cases hy : x == n with
      | true =>
        have ey : x = n := eq_of_beq hy
        subst ey
        rw [hx] at ha
        cases ha
        rfl
      | false => exact hl
    split
    · rename_i hk
      split
      · rename_i a ha
        refine clOf_acc hx r _ ?_
        rcases h with h | h
        · exact .inl (keep a ha h)
        · rcases List.mem_cons.mp h with e | h
          · cases e
            refine .inl ?_
            rw [hx] at ha
            cases ha
            simp
          · exact .inr h
      · rename_i hn
        refine clOf_acc hx r _ ?_
        rcases h with h | h
        · exact .inl h
        · rcases List.mem_cons.mp h with e | h
          · cases e
            rw [hx] at hn
            cases hn
          · exact .inr h
    · rename_i hk
      refine clOf_acc hx r _ ?_
      rcases h with h | h
      · exact .inl h
      · rcases List.mem_cons.mp h with e | h
        · cases e
          exact absurd rfl hk
        · exact .inr h

noncomputable def relS (scope sc : Scope) : Scope :=
  { scope with names := scope.names.map fun (n, k) => if (k == .free && sc.kind == .function && sc.names.lookup n == some .cell) then (n, .cell) else (n, k) }
structure Blk (sc scope : Scope) (N0 N : List Str) (caps : List Nat) (nT : Nat) : Prop where
  kind : scope.kind = .function
  nocell : ∀ y ∈ scope.names, y.2 ≠ .cell
  names : ∀ y ∈ scope.names, y.2 = .local → scope.names.lookup y.1 = some .local
  free : ∀ y ∈ scope.names, y.2 = .free → sc.names.lookup y.1 = some .cell ∨ sc.names.lookup y.1 = some .free
  len : N.length = nT + caps.length
  cap : ∀ q ∈ (List.range caps.length), ∃ i x, caps[q]? = some i ∧ N[nT + q]? = some x ∧ N0[i]? = some x ∧ (x, NameKind.free) ∈ scope.names ∧ ((relS scope sc).names.lookup x = some .cell ∨ (relS scope sc).names.lookup x = some .free)
noncomputable def blkB (sc scope : Scope) (N0 N : List Str) (caps : List Nat) (nT : Nat) : Bool :=
  (scope.kind == .function) && scope.names.all (fun y => !(y.2 == .cell)) && scope.names.all (fun y => !(y.2 == .local) || scope.names.lookup y.1 == some .local) &&
    scope.names.all (fun y => !(y.2 == .free) || (sc.names.lookup y.1 == some .cell || sc.names.lookup y.1 == some .free)) && (N.length == nT + caps.length) &&
    (List.range caps.length).all fun q => match caps[q]?, N[nT + q]? with
      | some i, some x => (N0[i]? == some x) && scope.names.any (fun y => y.1 == x && y.2 == .free) && ((relS scope sc).names.lookup x == some .cell || (relS scope sc).names.lookup x == some .free)
      | _, _ => false
theorem Blk.of {sc scope : Scope} {N0 N : List Str} {caps : List Nat} {nT : Nat} (h : blkB sc scope N0 N caps nT = true) : Blk sc scope N0 N caps nT := by
  unfold blkB at h
  simp only [Bool.and_eq_true] at h
  obtain ⟨⟨⟨⟨⟨h1, h2⟩, h3⟩, h4⟩, h5⟩, h6⟩ := h
  refine ⟨eq_of_beq h1, fun y hy => ?_, fun y hy hl => ?_, fun y hy hl => ?_, eq_of_beq h5, fun q hq => ?_⟩
  · have := List.all_eq_true.mp h2 y hy
    simpa using this
  · have := List.all_eq_true.mp h3 y hy
    rw [hl] at this
    simpa using this
  · have := List.all_eq_true.mp h4 y hy
    rw [hl] at this
    simpa using this
  · have := List.all_eq_true.mp h6 q hq
    split at this
    · rename_i i x e1 e2
      simp only [Bool.and_eq_true, Bool.or_eq_true, List.any_eq_true, beq_iff_eq] at this
      obtain ⟨⟨g1, ⟨y, g2, g3, g4⟩⟩, g5⟩ := this
      refine ⟨i, x, e1, e2, g1, ?_, g5⟩
      obtain ⟨y1, y2⟩ := y
      simp only at g3 g4
      subst g3 g4
      exact g2
    · cases this
noncomputable def cxC (X : Cx) (N : List Str) (scope : Scope) (acc : Addr) (fp : List Addr) (s3 : Shared) (H : Hp) : Cx :=
  { X with N := N, s₀ := s3, H₀ := H, env := compEnvC scope (clOf X.env scope.names []) s3.heap.objs.size X.env, outer := X.stack, ex := acc :: fp, fn := fun _ => false, pn := [], xe := fun _ _ => False }
noncomputable def capEv (ρ : Ev) (caps : List Nat) (nT : Nat) : Ev := List.replicate nT none ++ caps.map fun i => (ρ[i]?).join
noncomputable def capSt (σ : L2.St) (caps : List Nat) (nT : Nat) : L2.St := List.replicate nT none ++ caps.map fun i => (σ[i]?).join
theorem capEnv {K : PySem.W.Frag} {O : List Addr} {H : Hp} {ρ : Ev} {σ : L2.St} (E : REnv K O H ρ σ) (caps : List Nat) (nT : Nat) : REnv K O H (capEv ρ caps nT) (capSt σ caps nT) := by
  refine ⟨by simp [capEv, capSt], fun i d h => ?_⟩
  unfold capEv at h
  unfold capSt
  by_cases hi : i < nT
  · rw [List.getElem?_append_left (by simpa using hi), List.getElem?_replicate] at h
    split at h <;> cases h
  · rw [List.getElem?_append_right (by simpa using hi)] at h ⊢
    rw [List.length_replicate, List.getElem?_map] at h ⊢
    cases hc : caps[i - nT]? with
    | none => rw [hc] at h; cases h
    | some j =>
      rw [hc] at h
      simp only [Option.map_some, Option.some.injEq] at h ⊢
      cases hj : ρ[j]? with
      | none => rw [hj] at h; cases h
      | some z =>
        rw [hj] at h
        simp only [Option.join_some] at h
        subst h
        obtain ⟨v, h1, h2⟩ := E.at_ j d hj
        exact ⟨v, by rw [h1]; rfl, h2⟩
section
variable {X : Cx} {pins : List (Addr × Obj)} {σ : L2.St} {H : Hp} {s : Shared} {scope : Scope} {N : List Str} {caps : List Nat} {nT : Nat} {fp : List Addr}
theorem blk_start (B : Blk X.env.scope scope X.N N caps nT) (I : Inv X pins σ H s) (hf : ∀ b ∈ fp, FpOk X pins H b) (ho : ∀ b ∈ fp, ∃ o, s.heap.get? b = some o) {h4 : Heap} {tk : Nat}
    (hns : h4.Ns (s.heap.push { cls := .type "list", data := .seq ([] : List Value).toArray }).objs.size (fun x => ([] : List (Str × Value)).reverse.lookup x))
    (hsb : Heap.SameBut (s.heap.push { cls := .type "list", data := .seq ([] : List Value).toArray }).objs.size ((s.heap.push { cls := .type "list", data := .seq ([] : List Value).toArray }).push { cls := .type "dict", data := .dict #[] }) h4) :
    Inv (cxC X N scope s.heap.objs.size fp { s with heap := s.heap.push { cls := .type "list", data := .seq ([] : List Value).toArray } } H) [] (capSt σ caps nT) H { s with heap := h4, toks := tk } := by
  generalize hH2 : s.heap.push { cls := .type "list", data := .seq ([] : List Value).toArray } = h3 at hns hsb ⊢
  have hC : h3.objs.size = s.heap.objs.size + 1 := by rw [← hH2, Heap.size_push]
  have k3 : ∀ b o, s.heap.get? b = some o → h3.get? b = some o := fun b o e => hH2 ▸ Heap.get?_push_of_some _ e
  have I3 : Inv X pins σ H { s with heap := h3 } := I.kept (t' := s.toks) k3
  have k4 : ∀ b o, h3.get? b = some o → h4.get? b = some o := fun b o e => hsb.extBut b o (Nat.ne_of_lt (Heap.lt_size e)) (Heap.get?_push_of_some _ e)
  have lt3 : ∀ b o, s.heap.get? b = some o → b < h3.objs.size := fun b o e => Heap.lt_size (k3 b o e)
  have cells : ∀ x c, (clOf X.env scope.names []).lookup x = some c → X.env.cells.lookup x = some c := fun x c e => clOf_look scope.names [] (fun y a z => by cases z) e
  have ok : (cxC X N scope s.heap.objs.size fp { s with heap := h3 } H).Ok := by
    refine ⟨I.ok.mod, B.kind, I.ok.glob, I.ok.blt, Nat.le_refl _, fun x y c h1 h2 => I.ok.inj x y c (cells _ _ h1) (cells _ _ h2), ?_, fun x c hx => (by cases hx), I.ok.hd, I.ok.frames, .inl rfl, ?_, I3.bs, Nat.le_trans I.ok.bsz (Nat.le_trans I.sz (by show s.heap.objs.size ≤ h3.objs.size; omega)), ?_, ?_, I3.stack, I3.stkFree⟩
    · intro x hx
      have hx' : (relS scope X.env.scope).names.lookup x = some .cell ∨ (relS scope X.env.scope).names.lookup x = some .free := hx
      have hm : (x, NameKind.free) ∈ scope.names := by
        have mem : ∀ (l : List (Str × NameKind)), ((l.map fun (n, k) => if (k == NameKind.free && X.env.scope.kind == .function && X.env.scope.names.lookup n == some .cell) then (n, NameKind.cell) else (n, k)).lookup x = some .cell ∨ (l.map fun (n, k) => if (k == NameKind.free && X.env.scope.kind == .function && X.env.scope.names.lookup n == some .cell) then (n, NameKind.cell) else (n, k)).lookup x = some .free) → (∀ y ∈ l, y.2 ≠ .cell) → (x, NameKind.free) ∈ l := by
          intro l
          induction l with
          | nil => intro h _; rcases h with h | h <;> cases h
          | cons y l ih =>
            obtain ⟨n, k⟩ := y
            intro h hnc
            rw [List.map_cons] at h
            by_cases hc : (k == NameKind.free && X.env.scope.kind == .function && X.env.scope.names.lookup n == some .cell) = true
            · simp only [hc, if_true, List.lookup_cons] at h
              have hk : k = .free := by simp only [Bool.and_eq_true] at hc; simpa using hc.1.1
              cases hy : x == n with
              | true => rw [eq_of_beq hy, hk]; exact List.mem_cons_self
              | false =>
                rw [hy] at h
                exact List.mem_cons_of_mem _ (ih h fun z hz => hnc z (List.mem_cons_of_mem _ hz))
            · simp only [hc, if_false, List.lookup_cons, Bool.false_eq_true] at h
              cases hy : x == n with
              | true =>
                rw [hy] at h
                have hk : k = .free := by
                  rcases h with h | h
                  · exact absurd (Option.some.inj h) (hnc (n, k) List.mem_cons_self)
                  · exact Option.some.inj h
                rw [eq_of_beq hy, hk]; exact List.mem_cons_self
              | false =>
                rw [hy] at h
                exact List.mem_cons_of_mem _ (ih h fun z hz => hnc z (List.mem_cons_of_mem _ hz))
        exact mem scope.names hx' B.nocell
      obtain ⟨c, hc⟩ := I.ok.has x (B.free _ hm rfl)
      exact ⟨c, clOf_acc hc scope.names [] (.inr hm)⟩
    · intro b hb
      rcases List.mem_cons.mp hb with rfl | hb
      · refine ⟨?_, fun x c h1 h2 => ?_⟩
        · show s.heap.objs.size ≠ h3.objs.size
          omega
        · obtain ⟨v, o, ho', _⟩ := I.cell x c (cells _ _ h1)
          exact absurd (h2 ▸ Heap.lt_size ho') (Nat.lt_irrefl _)
      · obtain ⟨o, ho'⟩ := ho b hb
        refine ⟨?_, fun x c h1 => (hf b hb).2.2.2.2.1 x c (cells _ _ h1)⟩
        exact Nat.ne_of_lt (lt3 b o ho')
    · intro b o hb
      intro hm
      rcases List.mem_cons.mp hm with rfl | hm
      · exact absurd (Heap.lt_size (I.bk _ _ hb)) (Nat.lt_irrefl _)
      · rcases (hf b hm).2.2.2.1 with h1 | h1
        · exact I.ok.noex b o hb h1
        · exact absurd (Nat.lt_of_lt_of_le (Heap.lt_size (I.ok.bs b o hb).1) h1) (Nat.lt_irrefl _)
    · intro b hb hm
      rcases List.mem_cons.mp hb with rfl | hb
      · rcases List.mem_cons.mp (I.stkSub _ hm) with h1 | h1
        · have := I.lt
          rw [← h1] at this
          exact absurd this (Nat.lt_irrefl _)
        · exact I.nofs (Nat.le_refl _) h1
      · rcases List.mem_cons.mp (I.stkSub _ hm) with h1 | h1
        · exact (hf b hb).2.1 h1
        · exact (hf b hb).2.2.1 h1
  refine ⟨ok, rfl, I.bare, Un.kept k4, ?_, ?_, ?_, ?_, (fun p hp => (by cases hp)), I3.hok.kept k4, ?_⟩
  · refine ⟨_, hns, fun i x v h1 h2 hv => ?_⟩
    by_cases hi : i < nT
    · unfold capSt at h2
      rw [List.getElem?_append_left (by simpa using hi), List.getElem?_replicate] at h2
      split at h2 <;> cases h2
    · unfold capSt at h2
      rw [List.getElem?_append_right (by simpa using hi), List.length_replicate, List.getElem?_map] at h2
      cases hc : caps[i - nT]? with
      | none => rw [hc] at h2; cases h2
      | some j =>
        rw [hc] at h2
        simp only [Option.map_some, Option.some.injEq] at h2
        cases hj : σ[j]? with
        | none => rw [hj] at h2; cases h2
        | some z =>
          rw [hj] at h2
          simp only [Option.join_some] at h2
          subst h2
          have hq : i - nT < caps.length := (List.getElem?_eq_some_iff.mp hc).1
          obtain ⟨j', x', e1, e2, e3, e4, e5⟩ := B.cap (i - nT) (List.mem_range.mpr hq)
          rw [hc] at e1
          cases e1
          have en : nT + (i - nT) = i := by omega
          rw [en] at e2
          have ex : x' = x := Option.some.inj (e2.symm.trans h1)
          subst ex
          have hk := B.free _ e4 rfl
          obtain ⟨m, hm, hloc⟩ := I.loc
          obtain ⟨u, ru, lk⟩ := hloc j x' v e3 hj (hk.elim (fun z => .inr (.inl z)) fun z => .inr (.inr z))
          rcases lk with ⟨hl, _⟩ | ⟨_, c, hc1, hc2⟩
          · rcases hk with hk | hk
            · have : X.env.scope.names.lookup x' = some .local := hl
              rw [hk] at this; cases this
            · have : X.env.scope.names.lookup x' = some .local := hl
              rw [hk] at this; cases this
          · refine ⟨u, ru, .inr ⟨e5, c, clOf_acc hc1 scope.names [] (.inr e4), ?_⟩⟩
            obtain ⟨o, ho', hd⟩ := hc2
            exact ⟨o, k4 _ _ (k3 _ _ ho'), hd⟩
  · intro x c h1
    obtain ⟨v, o, ho', hd⟩ := I.cell x c (cells _ _ h1)
    exact ⟨v, o, k4 _ _ (k3 _ _ ho'), hd⟩
  · exact I3.hok.fresh (Nat.le_refl _)
  · intro x c h1
    exact I.freeC x c (cells _ _ h1)
  · show (capSt σ caps nT).length = N.length
    rw [B.len]
    simp [capSt]
end
end DL

end
section
set_option Elab.async false
set_option linter.all false
set_option maxRecDepth 100000
namespace DL
open PySem PySem.Spec PyProof.Rows L2
section
variable {X : Cx} {pins : List (Addr × Obj)} {σ : L2.St} {H : Hp} {s : Shared} {scope : Scope} {N : List Str} {fp : List Addr}
theorem blk_end (I : Inv X pins σ H s) (hf : ∀ b ∈ fp, FpOk X pins H b) {σc : L2.St} {H' : Hp} {s' : Shared} {vs : List V} {its : List Value} {n : Nat}
    (J : Inv (cxC X N scope s.heap.objs.size fp { s with heap := s.heap.push { cls := .type "list", data := .seq ([] : List Value).toArray } } H) [] σc H' s')
    (ha : s'.heap.get? s.heap.objs.size = some { cls := .type "list", data := .seq its.toArray n }) (hn : H' s.heap.objs.size = none) (hv : Vals vs its) (hz : vs.length ≤ sizeLine) : Inv X pins σ (upd H' s.heap.objs.size (.lst vs)) s' := by
  have u := J.base
  have push : ∀ b o, s.heap.get? b = some o → (s.heap.push { cls := .type "list", data := .seq ([] : List Value).toArray }).get? b = some o := fun b o e => Heap.get?_push_of_some _ e
  have ne : ∀ b o, s.heap.get? b = some o → b ≠ s.heap.objs.size := fun b o e => Nat.ne_of_lt (Heap.lt_size e)
  have nex : ∀ b o, s.heap.get? b = some o → b ∉ fp → b ∉ s.heap.objs.size :: fp := fun b o e hb hm => by
    rcases List.mem_cons.mp hm with h | h
    · exact ne b o e h
    · exact hb h
  refine I.call' (ch := fp) J.os ?_ ?_ J.bare fun b hb => ⟨(hf b hb).2.2.2.1, (hf b hb).2.1, (hf b hb).2.2.2.2.1, (hf b hb).2.2.2.2.2⟩
  · refine ⟨fun b o e h0 h1 h2 => u.keep b o (push b o e) h0 h1 (nex b o e h2), fun b o e h0 h1 h2 => u.slot b o (push b o e) h0 h1 (nex b o e h2), fun b o e h0 h2 => ?_, fun b o e h2 => u.there b o (push b o e) (nex b o e h2), fun b xs e => ?_, fun b o w e => ?_, fun b ps e => ?_⟩
    · rw [upd_ne (ne b o e)]
      exact u.free b o (push b o e) h0 (nex b o e h2)
    · have h1 := u.tups b xs e
      rw [upd_ne (ne_of_none h1 hn)]
      exact h1
    · have h1 := u.frzs b o w e
      rw [upd_ne (ne_of_none h1 hn)]
      exact h1
    · obtain ⟨more, h1⟩ := u.tbls b ps e
      exact ⟨more, by rw [upd_ne (ne_of_none h1 hn)]; exact h1⟩
  · intro a o e
    by_cases haa : a = s.heap.objs.size
    · subst haa
      rw [upd_same] at e
      cases e
      exact ⟨hz, its, n, hv, ha⟩
    · rw [upd_ne haa] at e
      exact (J.hok a o e).stay (fun b u _ q => q) (fun b q => by rw [upd_ne (ne_of_none q hn)]; exact q) fun b xs q => by rw [upd_ne (ne_of_none q hn)]; exact q
end
noncomputable def dTrue : DT := fun _ st => .ok true st
open Classical in
noncomputable def compD (chk : Sto → Prop) (t : TgD) (cond : DT) (fe : DE) : List D → Ev → Sto → List D → Out (List D)
  | [], _, st, acc => if chk st then .ok acc st else .bad
  | x :: xs, ρ, st, acc => if chk st ∧ acc.length < small then (match t x ρ with
    | none => .bad
    | some ρ1 => match cond ρ1 st with
      | .ok true st1 => (match fe ρ1 st1 with
        | .ok d st2 => compD chk t cond fe xs ρ1 st2 (acc ++ [d])
        | _ => .bad)
      | .ok false st1 => compD chk t cond fe xs ρ1 st1 acc
      | _ => .bad) else .bad
noncomputable def dComp (caps : List Nat) (nT : Nat) (f : DI) (t : TgD) (cond : DT) (fe : DE) : DA := fun ρ st => (f ρ st).bind fun q st1 => compD q.2 t cond fe q.1 (capEv ρ caps nT) st1 []
noncomputable def PTs (X : Cx) (ifs : List Expr) (cond : DT) : Prop := ∀ (pins : List (Addr × Obj)) (s : Shared) (σ : L2.St) (H : Hp) (Q : Bool → Hp → Prop), Inv X pins σ H s → tDT X.K EX0 cond σ H Q →
  wpAny (model X.prog X.w) X.A (forIn ifs true fun c r => if r = true then do let ok ← isTrue c X.env (eval c X.env); pure (ForInStep.yield ok) else pure (ForInStep.yield r)) (TP X pins σ Q) X.xe s
theorem pts_nil {X : Cx} : PTs X [] dTrue := by
  rintro pins s σ H Q I ⟨O, ρ, st, W, E, R⟩
  exact wpAny_tests_nil ⟨H, I, Run.now (k := fun b _ _ H' => Q b H') R W⟩
theorem pts_one {X : Cx} {c : Expr} {t : DT} (h : PDT X EX0 c t) : PTs X [c] t := fun pins s σ H Q I q => wpAny_tests_one (h pins s σ H Q I q)
section
variable {X : Cx} {EX : EXT} {scope : Scope} {N : List Str} {caps : List Nat} {nT : Nat} {elt tg iter : Expr} {ifs : List Expr} {pos : Pos} {f : DI} {t : TgD} {cond : DT} {fe : DE}
structure BlkOk (X : Cx) (scope : Scope) (N : List Str) (caps : List Nat) (nT : Nat) (tg elt : Expr) (ifs : List Expr) (t : TgD) (cond : DT) (fe : DE) : Prop where
  blk : Blk X.env.scope scope X.N N caps nT
  tgt : ∀ acc fp s3 H, PGD (cxC X N scope acc fp s3 H) tg t
  tst : ∀ acc fp s3 H, PTs (cxC X N scope acc fp s3 H) ifs cond
  elt : ∀ acc fp s3 H, PD (cxC X N scope acc fp s3 H) EX0 elt fe
theorem lc_block (hc : X.calm = true) (B : BlkOk X scope N caps nT tg elt ifs t cond fe) {pins : List (Addr × Obj)} {σ : L2.St} {H : Hp} {s : Shared} {O : List Addr} {ρ : Ev} {st : Sto} {q : Wk} {J : It} {fp : List Addr} {it : Addr} {tn : Nat → Heap → Prop} {Q : VK} {E : Value → Shared → Prop}
    {RR : Value → Addr → Result → Shared → Prop}
    (I : Inv X pins σ H s) (T : Turn X.prog X.w X.K tg J fp it tn) (h0 : tn 0 s.heap) (hf : ∀ b ∈ fp, FpOk X pins H b) (hJ : ItD X.K J O H q) (W : WR X.K O H st) (Er : REnv X.K O H ρ σ)
    (R : Run X.K EX O H (compD q.2 t cond fe q.1 (capEv ρ caps nT) st []) (New X.K Q))
    (hRR : ∀ (p C : Addr) (H' : Hp) (vs : List V) (s' : Shared) (m : Str → Option Value), s.heap.objs.size ≤ C → H' C = none → s'.heap.Ns C m → p ≠ C → Inv X pins σ (upd H' p (.lst vs)) s' → Q (.ref p) (upd H' p (.lst vs)) → RR (.ref p) C (.ok .next) s') :
    wpAny (model X.prog X.w) X.A (newList []) (fun acc s₃ => wpAny (model X.prog X.w) X.A (newFunctionEnv scope X.env.globals (clOf X.env scope.names []) [] X.env.qual none .none (some X.env)) (fun cenv s₄ =>
      codeAny (model X.prog X.w) X.A (.compStart (.ListComp elt [⟨tg, iter, ifs, 0⟩] scope pos) 0 (.ref it) acc { cenv with scope := relabel scope X.env }) (RR acc cenv.locals) s₄) E s₃) E s := by
  refine wpAny_newObj_type (wpAny_newFunctionEnv B.blk.nocell (by intro y hy; simp at hy) (fun h₁ hns₁ hsb₁ => ?_) B.blk.kind)
  dsimp only at hns₁ hsb₁ ⊢
  have ltC : s.heap.objs.size < (s.heap.push { cls := .type "list", data := .seq ([] : List Value).toArray }).objs.size := by rw [Heap.size_push]; exact Nat.lt_succ_self _
  have fpo : ∀ b ∈ fp, ∃ o, s.heap.get? b = some o := fun b hb => let ⟨o, e, _⟩ := T.obj 0 _ h0 b hb; ⟨o, e⟩
  have I4 := blk_start (tk := s.toks + ([] : List (Str × Value)).length) B.blk I hf fpo hns₁ hsb₁
  have fpne : ∀ b ∈ fp, b ≠ s.heap.objs.size := fun b hb => let ⟨o, e⟩ := fpo b hb; Nat.ne_of_lt (Heap.lt_size e)
  generalize hXC : cxC X N scope s.heap.objs.size fp { s with heap := s.heap.push { cls := .type "list", data := .seq ([] : List Value).toArray } } H = XC at I4
  have fok : ∀ (H' : Hp) (P : List (Addr × Obj)), (∀ b ∈ fp, H' b = none) → (∀ p ∈ P, p.1 ∉ fp) → ∀ b ∈ fp, FpOk XC P H' b := by
    intro H' P h1 h2 b hb
    subst hXC
    obtain ⟨o, e⟩ := fpo b hb
    refine ⟨h1 b hb, Nat.ne_of_lt (Nat.lt_trans (Heap.lt_size e) ltC), fun hm => ?_, .inl (List.mem_cons_of_mem _ hb), fun x c hx => (hf b hb).2.2.2.2.1 x c (clOf_look scope.names [] (fun y a z => (by cases z)) hx), fun p hp hpe => h2 p (by have hp' : p ∈ [] ++ P := hp; simpa using hp') (hpe ▸ hb)⟩
    rcases List.mem_cons.mp (I.stkSub _ hm) with z | z
    · exact (hf b hb).2.1 z
    · exact (hf b hb).2.2.1 z
  have aok : ∀ (H' : Hp), H' s.heap.objs.size = none → FpOk XC [] H' s.heap.objs.size := by
    intro H' h1
    subst hXC
    refine ⟨h1, Nat.ne_of_lt ltC, fun hm => ?_, .inl List.mem_cons_self, fun x c hx z => ?_, fun p hp => by cases hp⟩
    · rcases List.mem_cons.mp (I.stkSub _ hm) with z | z
      · have := I.lt
        rw [← z] at this
        exact absurd this (Nat.lt_irrefl _)
      · exact I.nofs (Nat.le_refl _) z
    · obtain ⟨v, o, ho', _⟩ := I.cell x c (clOf_look scope.names [] (fun y a z => (by cases z)) hx)
      exact absurd (z ▸ Heap.lt_size ho') (Nat.lt_irrefl _)
  have k4 : ∀ b o, s.heap.get? b = some o → h₁.get? b = some o := fun b o e => hsb₁.extBut b o (Nat.ne_of_lt (Nat.lt_trans (Heap.lt_size e) ltC)) (Heap.get?_push_of_some _ (Heap.get?_push_of_some _ e))
  have hacc0 : h₁.get? s.heap.objs.size = some { cls := .type "list", data := .seq ([] : List Value).toArray } := hsb₁.extBut _ _ (Nat.ne_of_lt ltC) (Heap.get?_push_of_some _ (Heap.get?_push_size _ rfl))
  have eP : XC.prog = X.prog := by subst hXC; rfl
  have eW : XC.w = X.w := by subst hXC; rfl
  have eK : XC.K = X.K := by subst hXC; rfl
  have eA : XC.A = X.A := by subst hXC; rfl
  have eC : XC.calm = true := by subst hXC; exact hc
  have eX : XC.xe = fun _ _ => False := by subst hXC; rfl
  have eE : XC.env = compEnvC scope (clOf X.env scope.names []) (s.heap.push { cls := .type "list", data := .seq ([] : List Value).toArray }).objs.size X.env := by subst hXC; rfl
  have loop : ∀ s4 : Shared, s4 = { s with heap := h₁, toks := s.toks + ([] : List (Str × Value)).length } →
      codeAny (model X.prog X.w) X.A (.compLoop (.ListComp elt [⟨tg, iter, ifs, 0⟩] scope pos) 0 (.ref it) (.ref s.heap.objs.size) XC.env) (RR (.ref s.heap.objs.size) (s.heap.push { cls := .type "list", data := .seq ([] : List Value).toArray }).objs.size) s4 := by
    intro s4 es4
    refine compLoop_gen (fun n s' => ∃ (i : Nat) (O' : List Addr) (ρ' : Ev) (st' : Sto) (ds : List D) (vs : List V) (its : List Value) (nn : Nat) (H' : Hp) (σc : L2.St), n + i = q.1.length ∧ Inv XC [] σc H' s' ∧ Keep X.K O H O' H' ∧ WR X.K O' H' st' ∧ REnv X.K O' H' ρ' σc ∧ tn i s'.heap ∧
      (∀ b ∈ fp, H' b = none) ∧ s'.heap.get? s.heap.objs.size = some { cls := .type "list", data := .seq its.toArray nn } ∧ H' s.heap.objs.size = none ∧ Vals vs its ∧ Reps X.K O' H' ds vs ∧ ds.length ≤ small ∧ Run X.K EX O' H' (compD q.2 t cond fe (q.1.drop i) ρ' st' ds) (New X.K Q)) ?_ q.1.length ?_
    · rintro n s' ⟨i, O', ρ', st', ds, vs, its, nn, H', σc, hn, Ic, kp, W', E', htn, hfn, hacc, haccH, hv, hr, hz, hR⟩
      have IcA : Inv XC (pinsAt [s.heap.objs.size] s'.heap) σc H' s' := by
        have := Ic.pinned (fp := [s.heap.objs.size]) (fun b hb => by rw [List.mem_singleton] at hb; subst hb; exact aok H' haccH) (fun b hb => by rw [List.mem_singleton] at hb; subst hb; exact ⟨_, hacc, fun v z => by cases z⟩)
        simpa using this
      have pA : ∀ p ∈ pinsAt [s.heap.objs.size] s'.heap, p.1 ∉ fp := fun p hp hm => by
        have := (of_pinsAt hp).1
        rw [List.mem_singleton] at this
        exact fpne _ hm this
      have hpin : (s.heap.objs.size, ({ cls := .type "list", data := .seq its.toArray nn } : Obj)) ∈ pinsAt [s.heap.objs.size] s'.heap := mem_pinsAt (List.mem_singleton.mpr rfl) hacc
      cases hd : q.1.drop i with
      | nil =>
        rw [hd] at hR
        unfold compD at hR
        by_cases hch : q.2 st'
        · rw [if_pos hch] at hR
          have hl : q.1.length ≤ i := List.drop_eq_nil_iff.mp hd
          have hstop := (hJ i O' H' st' kp W' hch).2 hl
          have hw := T.done XC eP eW eK eC i (pinsAt [s.heap.objs.size] s'.heap) s' σc H' (fun _ _ => False) IcA (fok H' _ hfn pA) htn hstop
          rw [eA] at hw
          refine wpAny_mono hw (fun r s1 hr1 => ?_) fun _ _ z => z
          obtain ⟨rfl, I1⟩ := hr1
          obtain ⟨p1, p2, _⟩ := I1.pin _ (List.mem_append_right _ hpin)
          obtain ⟨m, hm, _⟩ := I1.loc
          have I1' : Inv XC [] σc H' s1 := I1.pins_of fun p hp => I1.pin p (List.mem_append_left _ (by simpa using hp))
          have hCf := I1.free
          rw [eE] at hm hCf
          refine hRR _ _ H' vs s1 m (Nat.le_of_lt ltC) hCf hm (Nat.ne_of_lt ltC) ?_ (Run.now (k := New X.K Q) hR W' _ vs hr haccH)
          subst hXC
          exact blk_end I hf I1' p1 haccH hv (by rw [← hr.length]; exact Nat.le_trans hz small_le)
        · rw [if_neg hch] at hR; exact hR.elim
      | cons x xs =>
        rw [hd] at hR
        unfold compD at hR
        have hx : q.1[i]? = some x := by
          have := List.getElem?_drop (xs := q.1) (i := i) (j := 0)
          rw [hd] at this
          simpa using this.symm
        have hxs : q.1.drop (i + 1) = xs := by
          have := List.drop_drop (i := 1) (j := i) (l := q.1)
          rw [hd] at this
          simpa using this.symm
        have hi : i < q.1.length := (List.getElem?_eq_some_iff.mp hx).1
        by_cases hch : q.2 st' ∧ ds.length < small
        · rw [if_pos hch] at hR
          obtain ⟨hgo, hy⟩ := (hJ i O' H' st' kp W' hch.1).1 x hx
          have hw := T.item XC eP eW eK eC i (pinsAt [s.heap.objs.size] s'.heap) s' σc H' (fun _ _ => False) IcA (fok H' _ hfn pA) htn hgo
          rw [eA] at hw
          refine wpAny_mono hw (fun r s1 hr1 => ?_) fun _ _ z => z
          obtain ⟨u, rfl, hw2⟩ := hr1
          refine wpAny_mono hw2 (fun _ s2 hr2 => ?_) fun _ _ z => z
          obtain ⟨x', H1, I1, rx, hyl, htn1, hfn1⟩ := hr2
          obtain ⟨ky, Wy, ry⟩ := hy x' H1 hyl
          cases ht : t x ρ' with
          | none => rw [ht] at hR; exact hR.elim
          | some ρ1 =>
            rw [ht] at hR
            dsimp only at hR
            have I1' : Inv XC (pinsAt [s.heap.objs.size] s'.heap ++ pinsAt fp s2.heap) σc H1 s2 := I1.pinned (fok H1 _ hfn1 pA) fun b hb => T.obj (i + 1) _ htn1 b hb
            generalize hP2 : pinsAt [s.heap.objs.size] s'.heap ++ pinsAt fp s2.heap = P2 at I1'
            have hpa : (s.heap.objs.size, ({ cls := .type "list", data := .seq its.toArray nn } : Obj)) ∈ P2 := hP2 ▸ List.mem_append_left _ hpin
            have hpf : ∀ b ∈ fp, ∀ o, s2.heap.get? b = some o → (b, o) ∈ P2 := fun b hb o e => hP2 ▸ List.mem_append_right _ (mem_pinsAt hb e)
            have back : ∀ {σ2 : L2.St} {H2 : Hp} {s3 : Shared}, Inv XC P2 σ2 H2 s3 → s3.heap.get? s.heap.objs.size = some { cls := .type "list", data := .seq its.toArray nn } ∧ H2 s.heap.objs.size = none ∧ (∀ b ∈ fp, H2 b = none) ∧ (∀ b ∈ fp, ∀ o, s2.heap.get? b = some o → s3.heap.get? b = some o) ∧ Inv XC [] σ2 H2 s3 := by
              intro σ2 H2 s3 I3
              refine ⟨(I3.pin _ (List.mem_append_right _ hpa)).1, (I3.pin _ (List.mem_append_right _ hpa)).2.1, fun b hb => ?_, fun b hb o e => (I3.pin _ (List.mem_append_right _ (hpf b hb o e))).1, I3.pins_of fun p hp => I3.pin p (List.mem_append_left _ (by simpa using hp))⟩
              obtain ⟨o, e, _⟩ := T.obj (i + 1) _ htn1 b hb
              exact (I3.pin _ (List.mem_append_right _ (hpf b hb o e))).2.1
            have PG1 : PGD XC tg t := by subst hXC; exact B.tgt _ _ _ _
            have PT1 : PTs XC ifs cond := by subst hXC; exact B.tst _ _ _ _
            have PE1 : PD XC EX0 elt fe := by subst hXC; exact B.elt _ _ _ _
            have ha := PG1 P2 s2 σc H1 x' u (fun σ' H'' => H'' = H1 ∧ REnv X.K O' H1 ρ1 σ') I1' rx ⟨O', x, ρ', ρ1, by rw [eK]; exact ry, by rw [eK]; exact E'.mono ky, ht, fun σ' E2 => ⟨rfl, by rw [eK] at E2; exact E2⟩⟩
            rw [eP, eW, eA, eX] at ha
            refine wpAny_mono ha (fun _ s3 hr3 => ?_) fun _ _ z => z
            obtain ⟨σ2, H1', I3, rfl, E2⟩ := hr3
            have hb := PT1 P2 s3 σ2 H1' (fun b H'' => ∃ O'' stb, cond ρ1 st' = .ok b stb ∧ Keep X.K O' H1' O'' H'' ∧ WR X.K O'' H'' stb) I3 ⟨O', ρ1, st', by rw [eK]; exact Wy, by rw [eK]; exact E2, by
              rw [eK]
              cases hcnd : cond ρ1 st' with
              | ok b stb => exact fun O'' H'' k W => ⟨O'', stb, rfl, k, W⟩
              | exc c stb => rw [hcnd] at hR; exact hR.elim
              | bad => rw [hcnd] at hR; exact hR.elim⟩
            rw [eP, eW, eA, eX] at hb
            refine wpAny_mono hb (fun ok s4 hr4 => ?_) fun _ _ z => z
            obtain ⟨H2, I4', O2, stb, hcnd, kb, Wb⟩ := hr4
            rw [hcnd] at hR
            cases ok with
            | false =>
              dsimp only at hR
              obtain ⟨b1, b2, b3, b4, b5⟩ := back I4'
              refine ⟨n - 1, by omega, i + 1, O2, ρ1, stb, ds, vs, its, nn, H2, σ2, by omega, b5, kp.trans (ky.trans kb), Wb, E2.mono kb, T.keep _ _ _ htn1 b4, b3, b1, b2, hv, Reps.mono (ky.trans kb) _ _ hr, hz, ?_⟩
              rw [hxs]
              exact Run.later hR (ky.trans kb)
            | true =>
              dsimp only at hR
              have he := PE1 P2 s4 σ2 H2 (fun v H3 => ∃ O3 st3 d, fe ρ1 stb = .ok d st3 ∧ Keep X.K O2 H2 O3 H3 ∧ WR X.K O3 H3 st3 ∧ Rep X.K O3 H3 d v) I4' ⟨O2, ρ1, stb, by rw [eK]; exact Wb, by rw [eK]; exact E2.mono kb, by
                rw [eK]
                cases hfe : fe ρ1 stb with
                | ok d st3 => exact fun O3 H3 k W v r => ⟨O3, st3, d, rfl, k, W, r⟩
                | exc c st3 => rw [hfe] at hR; exact hR.elim
                | bad => rw [hfe] at hR; exact hR.elim⟩
              rw [eP, eW, eA, eX] at he
              refine wpAny_mono he (fun uv s5 hr5 => ?_) fun _ _ z => z
              obtain ⟨v, H3, I5, rv, O3, st3, d, hfe, ke, We, re⟩ := hr5
              rw [hfe] at hR
              dsimp only at hR
              obtain ⟨b1, b2, b3, b4, b5⟩ := back I5
              refine append_obj b1 (fun h6 hg6 hs6 => ?_) (by rw [← hv.length, ← hr.length]; exact Nat.le_trans hz small_le)
              obtain ⟨f0, f1, f2, f3, f4, f5⟩ := aok H3 b2
              have I6 : Inv XC [] σ2 H3 { s5 with heap := h6 } := b5.turned (t' := s5.toks) (fun b o hb e => (hs6.2 b hb).trans e) f0 f1 f3 f4 f5
              refine ⟨n - 1, by omega, i + 1, O3, ρ1, st3, ds ++ [d], vs ++ [v], its ++ [uv], nn + 1, H3, σ2, by omega, I6, kp.trans (ky.trans (kb.trans ke)), We, E2.mono (kb.trans ke), T.keep _ _ _ htn1 (fun b hb o e => (hs6.2 b (fpne b hb)).trans (b4 b hb o e)), b3, hg6, b2, hv.append (.cons rv .nil), (Reps.mono (ky.trans (kb.trans ke)) _ _ hr).append (Reps.one re), by rw [List.length_append]; exact hch.2, ?_⟩
              rw [hxs]
              exact Run.later hR (ky.trans (kb.trans ke))
        · rw [if_neg hch] at hR; exact hR.elim
    · subst es4
      refine ⟨0, O, capEv ρ caps nT, st, [], [], [], 0, H, capSt σ caps nT, rfl, I4, Keep.refl, W, capEnv Er caps nT, T.keep _ _ _ h0 (fun b hb o e => k4 b o e), fun b hb => (hf b hb).1, hacc0, I.hok.fresh (Nat.le_refl _), .nil, Reps.nil_i.mpr rfl, Nat.zero_le _, ?_⟩
      rw [List.drop_zero]
      exact R
  have e5 : ({ newEnv scope (s.heap.push { cls := .type "list", data := .seq ([] : List Value).toArray }).objs.size X.env.globals (clOf X.env scope.names []) X.env.qual none .none (some X.env) builtinsNs with scope := relabel scope X.env } : Env) = XC.env := by rw [eE]; rfl
  have h5 := loop _ rfl
  refine codeAny_compStart_list ?_ ?_
  · exact e5 ▸ h5
  · exact T.self _ 0 _ _ _ (T.keep _ _ _ h0 (fun b hb o e => k4 b o e)) (e5 ▸ h5)
end
end DL

end
section
set_option Elab.async false
set_option linter.all false
set_option maxRecDepth 100000
namespace DL
open PySem PySem.Spec PyProof.Rows L2
section
variable {X : Cx} {EX : EXT} {scope : Scope} {N : List Str} {caps : List Nat} {nT : Nat} {elt tg iter : Expr} {ifs : List Expr} {pos spos py : Pos} {f : DI} {t : TgD} {cond : DT} {fe : DE} {y : Str}
theorem gone {pins : List (Addr × Obj)} {σ : L2.St} {H H1 : Hp} {s s1 : Shared} {C : Addr} {h' : Heap} (I : Inv X pins σ H s) (hC : s.heap.objs.size ≤ C) {σ1 : L2.St} (I1 : Inv X pins σ1 H1 s1) (hn : H1 C = none) (hs : Heap.SameBut C s1.heap h') : Inv X pins σ1 H1 { s1 with heap := h' } := by
  refine I1.turned (t' := s1.toks) (fun b o hb e => (hs.2 b hb).trans e) hn ?_ (.inr (Nat.le_trans I.sz hC)) ?_ ?_
  · intro z
    exact absurd (Nat.lt_of_lt_of_le I.lt (z ▸ hC)) (Nat.lt_irrefl _)
  · intro x c hx z
    obtain ⟨v, o, ho, _⟩ := I.cell x c hx
    exact absurd (Nat.lt_of_lt_of_le (Heap.lt_size ho) (z ▸ hC)) (Nat.lt_irrefl _)
  · intro p hp z
    obtain ⟨h1, _⟩ := I.pin p hp
    exact absurd (Nat.lt_of_lt_of_le (Heap.lt_size h1) (z ▸ hC)) (Nat.lt_irrefl _)
noncomputable def LcR (X : Cx) (EX : EXT) (σ : L2.St) (caps : List Nat) (nT : Nat) (t : TgD) (cond : DT) (fe : DE) (Q : VK) (J : It) (H1 : Hp) : Prop :=
  ∃ O1 ρ q st1, ItD X.K J O1 H1 q ∧ WR X.K O1 H1 st1 ∧ REnv X.K O1 H1 ρ σ ∧ Run X.K EX O1 H1 (compD q.2 t cond fe q.1 (capEv ρ caps nT) st1 []) (New X.K Q)
theorem lc_wi {σ : L2.St} {H : Hp} {Q : VK} (h : tDF X.K EX (dComp caps nT f t cond fe) σ H Q) : wiD X.K EX f σ H (LcR X EX σ caps nT t cond fe Q) := by
  obtain ⟨O, ρ, st, W, E, R⟩ := h
  exact ⟨O, ρ, st, W, E, R.bind.mono fun q st1 O1 H1 k1 W1 R1 J hJ => ⟨O1, ρ, q, st1, hJ, W1, E.mono k1, R1⟩⟩
theorem clos_ok {pins : List (Addr × Obj)} {σ : L2.St} {H : Hp} {s : Shared} (B : Blk X.env.scope scope X.N N caps nT) (I : Inv X pins σ H s) : closureFor scope X.env = pure (clOf X.env scope.names []) :=
  closureFor_of fun y hy hk => I.ok.has y.1 (B.free y hy hk)
theorem pdf_lc (hc : X.calm = true) (B : BlkOk X scope N caps nT tg elt ifs t cond fe) (hi : PID X EX tg iter f) (hs : ∀ x, foldedSetIterable iter X.env x = pure x := by intro _; rfl) : PDF X EX (.ListComp elt [⟨tg, iter, ifs, 0⟩] scope pos) (dComp caps nT f t cond fe) := by
  intro pins s σ H Q I h
  rw [eval_ListComp]
  refine wpAny_comprehension_free (use := none) rfl hs (clos_ok B.blk I) B.blk.kind B.blk.names (wpAny_mono (hi pins s σ H _ I (lc_wi h)) (fun xv s₁ h₁ => wpAny_mono h₁ (fun itv s₂ h₂ => ?_) fun _ _ e => e) fun _ _ e => e)
  obtain ⟨it, fp, tn, J, H', rfl, I', T, h0, hf, O1, ρ, q, st1, hJ, W1, E1, R1⟩ := h₂
  refine lc_block (RR := fun acc C => compPost (model X.prog X.w) X.A X.xe none (EP X pins σ Q) acc C) hc B I' T h0 hf hJ W1 E1 R1 ?_
  intro p C H2 vs s' m hC hn hns hpC I2 hq
  refine ⟨m, hns, fun h' hsb => ⟨.ref p, _, gone I' hC I2 (by rw [upd_ne (Ne.symm hpC)]; exact hn) hsb, rfl, hq⟩⟩
theorem ps_lc (i : Nat) (hc : X.calm = true) (B : BlkOk X scope N caps nT tg elt ifs t cond fe) (hi : PID X EX tg iter f) (hN : X.N.Nodup) (hy : X.N[i]? = some y) (hx : Loc X.env.scope y)
    (hsw : swapsWith (.ListComp elt [⟨tg, iter, ifs, 0⟩] scope pos) (some (.Name y py)) spos.line X.env = pure true)
    (hs : ∀ x, foldedSetIterable iter X.env x = pure x := by intro _; rfl) (hfn : X.fn y = true ∨ X.env.scope.names.lookup y = some .local := by first | exact .inl rfl | exact .inr rfl | assumption) :
    PS X (.Assign [.Name y py] (.ListComp elt [⟨tg, iter, ifs, 0⟩] scope pos) spos) (fun Dn σ H => tDF X.K EX (dComp caps nT f t cond fe) σ H fun v H' => Dn.nx (σ.set i (some v)) H') := by
  intro pins s σ H Dn I h
  rw [exec_Assign_Name_used _ _ _ _ hsw]
  refine wpAny_bind (wpAny_standAt (wpAny_bind ?_))
  show wpAny _ X.A (do let _ ← comprehension (.ListComp elt [⟨tg, iter, ifs, 0⟩] scope pos) scope X.env _ (newList []) false (eval iter X.env) (some (assign (.Name y py) X.env))) _ _ s
  refine wpAny_bind (wpAny_mono (wpAny_comprehension_free (use := some (assign (.Name y py) X.env)) (Q := fun _ s' => SP X pins Dn .next s') rfl hs (clos_ok B.blk I) B.blk.kind B.blk.names
    (wpAny_mono (hi pins s σ H _ I (lc_wi h)) (fun xv s₁ h₁ => wpAny_mono h₁ (fun itv s₂ h₂ => ?_) fun _ _ e => e) fun _ _ e => e)) (fun _ s' hq => wpAny_pure (wpAny_pure hq)) fun _ _ e => e)
  obtain ⟨it, fp, tn, J, H', rfl, I', T, h0, hf, O1, ρ, q, st1, hJ, W1, E1, R1⟩ := h₂
  refine lc_block (RR := fun acc C => compPost (model X.prog X.w) X.A X.xe (some (assign (.Name y py) X.env)) (fun _ s' => SP X pins Dn .next s') acc C) hc B I' T h0 hf hJ W1 E1 R1 ?_
  intro p C H2 vs s' m hC hn hns hpC I2 hq
  show wpAny _ X.A (assign (.Name y py) X.env (.ref p)) _ _ _
  refine wpAny_assign_Name (store_ok2 (v := .ref p) I2 hN hy hx rfl (fun s'' I3 hsb => ?_) hfn)
  obtain ⟨a, sb, ha⟩ := hsb
  have hne : C ≠ a := by
    intro z
    rcases ha with ha | ha
    · exact absurd (Nat.lt_of_lt_of_le I'.lt (ha ▸ z ▸ hC)) (Nat.lt_irrefl _)
    · obtain ⟨v, o, ho, _⟩ := I'.cell _ _ ha
      exact absurd (Nat.lt_of_lt_of_le (Heap.lt_size ho) (z ▸ hC)) (Nat.lt_irrefl _)
  exact ⟨m, hns.at' fun o e => (sb.2 C hne).trans e, fun h' hsb => ⟨_, _, gone I' hC I3 (by rw [upd_ne (Ne.symm hpC)]; exact hn) hsb, hq⟩⟩
theorem pd_setLC (i : Nat) (hc : X.calm = true) (B : BlkOk X scope N caps nT tg elt ifs t cond fe) (hi : PID X EX tg iter f) (hN : X.N.Nodup) (hy : X.N[i]? = some y) (hx : Loc X.env.scope y)
    (hsw : swapsWith (.ListComp elt [⟨tg, iter, ifs, 0⟩] scope pos) (some (.Name y py)) spos.line X.env = pure true := by rfl)
    (hs : ∀ x, foldedSetIterable iter X.env x = pure x := by intro _; rfl) (hfn : X.fn y = true ∨ X.env.scope.names.lookup y = some .local := by first | exact .inl rfl | exact .inr rfl | assumption) :
    PDs X EX (.Assign [.Name y py] (.ListComp elt [⟨tg, iter, ifs, 0⟩] scope pos) spos) (sSet i (dF (dComp caps nT f t cond fe))) := by
  refine PS.mono (ps_lc i hc B hi hN hy hx hsw hs hfn) ?_
  rintro Dn σ H ⟨O, ρ, st, W, E, R⟩
  refine ⟨O, ρ, st, W, E, ?_⟩
  refine (R.to.bind).mono fun ds st1 O1 H1 k1 W1 R1 p vs r hp => ?_
  have R2 := R1 O1 (upd H1 p (.lst vs)) (Keep.laid hp) (W1.laid hp)
  refine R2 O1 (upd H1 p (.lst vs)) _ Keep.refl (W1.laid hp) ((E.mono (k1.trans (Keep.laid hp))).set (Rep.lst_i.mpr ⟨p, vs, rfl, fun hm => ?_, upd_same, Reps.mono (Keep.laid hp) _ _ r⟩))
  obtain ⟨j, hj⟩ := List.mem_iff_getElem?.mp hm
  exact W1.ne hj hp rfl
end
end DL

end
section
set_option Elab.async false
set_option linter.all false
set_option maxRecDepth 100000
namespace HT
open PySem PyProof.Rows
section
open PySem.AutoSeq1 (wpAny_loadPart')
theorem noFill_tuple_mul : fillsNumberSlot (.type "tuple") "mul" = pure false :=
  PySem.fillsNumberSlot_seq (id := "tuple.__mul__") (r := some (.builtin "tuple.__rmul__")) F.slot_tuple_mul.lookup (by decide +kernel) F.slot_tuple_rmul.lookup (by decide +kernel)
theorem repeat_tuple : seqRepeat? (.type "tuple") = pure (some (.builtin "tuple.__mul__")) := by
  unfold seqRepeat?
  rw [PySem.seqSlot_of (T := "tuple") (name := "__mul__") (id := "tuple.__mul__") F.slot_tuple_mul.lookup (by decide +kernel), PySem.seqSlot_of (T := "tuple") (name := "__rmul__") (id := "tuple.__rmul__") F.slot_tuple_rmul.lookup (by decide +kernel)]
  rfl
theorem int_rmul_tuple (a : Int) (t : Tok) (l : Addr) (items : Array Value) (n : Nat) (dd : Option Addr) (sl : Array (Option Value)) :
    Meets (Builtin.«int.__rmul__» ⟨[.int a t, .ref l], []⟩) (fun _ R s => s.heap.get? l = some { cls := .type "tuple", dict := dd, data := .seq items n, slots := sl } ∧ R (.ok (.ret Value.notImplemented)) s) :=
  .of_wp fun prog w A R s h => by obtain ⟨hp, g, d, tk, os⟩ := s; obtain ⟨hl, h⟩ := h; wp_walk using wpAny_loadPart' hl; exact ⟨_, rfl, h⟩
theorem tuple_mulW1 (l : Addr) (items : Array Value) (n : Nat) (dd : Option Addr) (sl : Array (Option Value)) (k : Int) (u : Tok) (hf : ¬ (decide (k < -(2 ^ 63)) || decide (k ≥ 2 ^ 63)) = true) (hc : (items.isEmpty || k == 1) = true) :
    Meets (Builtin.«tuple.__mul__» ⟨[.ref l, .int k u], []⟩) (fun _ R s => s.heap.get? l = some { cls := .type "tuple", dict := dd, data := .seq items n, slots := sl } ∧ R (.ok (.ret (.ref l))) s) :=
  .of_wp fun prog w A R s h => by obtain ⟨hp, g, d, tk, os⟩ := s; obtain ⟨hl, h⟩ := h; have f1 := AutoSeq1.idx_int; wp_walk using wpAny_loadPart' hl; refine wpAny_ite_false (decide_eq_false hf) ?_; wp_walk using wpAny_loadPart' hl; exact ⟨_, rfl, h⟩
theorem tuple_mulW2 (l : Addr) (items : Array Value) (n : Nat) (dd : Option Addr) (sl : Array (Option Value)) (k : Int) (u : Tok) (hf : ¬ (decide (k < -(2 ^ 63)) || decide (k ≥ 2 ^ 63)) = true) (hc : ¬ (items.isEmpty || k == 1) = true) (hc2 : (decide (k ≤ 0) || items.isEmpty) = true) :
    Meets (Builtin.«tuple.__mul__» ⟨[.ref l, .int k u], []⟩) (fun _ R s => s.heap.get? l = some { cls := .type "tuple", dict := dd, data := .seq items n, slots := sl } ∧ R (.ok (.ret (.ref s.heap.objs.size))) { s with heap := s.heap.push { cls := .type "tuple", data := .seq #[] } }) :=
  .of_wp fun prog w A R s h => by obtain ⟨hp, g, d, tk, os⟩ := s; obtain ⟨hl, h⟩ := h; have f1 := AutoSeq1.idx_int; wp_walk using wpAny_loadPart' hl; refine wpAny_ite_false (decide_eq_false hf) ?_; wp_walk using wpAny_loadPart' hl; exact ⟨_, rfl, h⟩
theorem tuple_mulW3 (l : Addr) (items : Array Value) (n : Nat) (dd : Option Addr) (sl : Array (Option Value)) (k : Int) (u : Tok) (hf : ¬ (decide (k < -(2 ^ 63)) || decide (k ≥ 2 ^ 63)) = true) (hc : ¬ (items.isEmpty || k == 1) = true) (hc2 : ¬ (decide (k ≤ 0) || items.isEmpty) = true)
    (hc3 : ¬ (items.size : Int) * k > (2 ^ 63 - 1) / 8) (hc4 : ¬ Builtin.Tuple.tupleTooMany ((items.size : Int) * k) = true) (hsz : ((List.replicate k.toNat items).foldl (· ++ ·) #[]).size ≤ sizeLine) :
    Meets (Builtin.«tuple.__mul__» ⟨[.ref l, .int k u], []⟩) (fun _ R s => s.heap.get? l = some { cls := .type "tuple", dict := dd, data := .seq items n, slots := sl } ∧ R (.ok (.ret (.ref s.heap.objs.size))) { s with heap := s.heap.push { cls := .type "tuple", data := .seq ((List.replicate k.toNat items).foldl (· ++ ·) #[]) } }) :=
  .of_wp fun prog w A R s h => by obtain ⟨hp, g, d, tk, os⟩ := s; obtain ⟨hl, h⟩ := h; have f1 := AutoSeq1.idx_int; wp_walk using wpAny_loadPart' hl; refine wpAny_ite_false (decide_eq_false hf) ?_; wp_walk using wpAny_loadPart' hl; refine wpAny_ite_false (decide_eq_false hc3) ?_; wp_walk using wpAny_loadPart' hl; exact ⟨_, rfl, h⟩
end
end HT

namespace DL
open PySem PySem.Spec PyProof.Rows L2
section
variable {X : Cx} {EX : EXT} {a b c e o : Expr} {fa fb fc fo : DE} {pos p apos : Pos}
noncomputable def repL (xs : List D) (k : Nat) : List D := (List.replicate k xs).flatten
noncomputable def mul2D : D → D → Sto → Out D
  | .tup xs, .int k, st => if -1000 ≤ k ∧ k ≤ 1000 ∧ xs.length ≤ 10 then .ok (.tup (repL xs k.toNat)) st else .bad
  | .str x, .int k, st => if -1000 ≤ k ∧ k ≤ 1000 ∧ x.length ≤ 10 then .ok (.str (PySem.Txt.mul x k)) st else .bad
  | a, b, st => mulD a b st
theorem mul_tup {pins : List (Addr × Obj)} {σ : L2.St} {H : Hp} {s : Shared} {O : List Addr} {st : Sto} {xs : List D} {l : Addr} {vs : List V} {k : Int} {t : Tok} {Q : VK} (I : Inv X pins σ H s) (W : WR X.K O H st) (q : H l = some (.tup vs)) (r : Reps X.K O H xs vs) (hk : -1000 ≤ k ∧ k ≤ 1000 ∧ xs.length ≤ 10)
    (R : Run X.K EX O H (.ok (.tup (repL xs k.toNat)) st) (Val X.K Q)) : wpAny (model X.prog X.w) X.A (binaryOp .Mult (.ref l) (.int k t)) (EP X pins σ Q) X.xe s := by
  obtain ⟨its, hv, ht, hz⟩ := I.tuple (SqT.of q)
  obtain ⟨⟨cls, dd, data, sl⟩, ho, hc, n, hd⟩ := id ht
  simp only at hc hd
  subst hc hd
  have lk : its.length ≤ 10 := by rw [← hv.length, ← r.length]; exact hk.2.2
  have hf : ¬ (decide (k < -(2 ^ 63)) || decide (k ≥ 2 ^ 63)) = true := by
    rw [Bool.or_eq_true, not_or]
    exact ⟨fun h => by have := of_decide_eq_true h; omega, fun h => by have := of_decide_eq_true h; omega⟩
  have fold : (List.replicate k.toNat its.toArray).foldl (· ++ ·) #[] = (List.replicate k.toNat its).flatten.toArray := by
    have := foldl_rep its k.toNat []
    rw [List.nil_append] at this
    exact this
  refine wpAny_binaryOp_repeat_ref (T := "tuple") (U := "int") (by decide) ⟨_, ho, rfl⟩ (fun s' => typeIs_int s' k t) HT.noFill_tuple_mul F.fills_int_mul F.slot_int_rmul HT.repeat_tuple F.slot_int_index.lookup
    (call_meets F.slot_int_rmul (typeIs_int s k t) F.entry_int_rmul (F.args_int_rmul_2 _ _) (HT.int_rmul_tuple k t l its.toArray n dd sl)
      ⟨ho, rfl, ⟨_, ho, rfl⟩, ?_⟩)
  by_cases h1 : (its.toArray.isEmpty || k == 1) = true
  · refine call_meets F.slot_tuple_mul ⟨_, ho, rfl⟩ F.entry_tuple_mul (F.args_tuple_mul_2 _ _) (HT.tuple_mulW1 l its.toArray n dd sl k t hf h1) ⟨ho, ?_⟩
    have e : repL xs k.toNat = xs := by
      rw [Bool.or_eq_true] at h1
      rcases h1 with h1 | h1
      · have h2 : its = [] := by simpa using h1
        have h3 : xs = [] := by
          have := r.length
          rw [hv.length, h2] at this
          exact List.length_eq_zero_iff.mp this
        subst h3
        unfold repL
        induction k.toNat with
        | zero => rfl
        | succ m ih => rw [List.replicate_succ, List.flatten_cons, ih]; rfl
      · have h2 : k = 1 := by simpa using h1
        subst h2
        simp [repL]
    rw [e] at R
    exact ⟨.ref l, H, I, rfl, Run.now (k := Val X.K Q) R W _ (Rep.tup_i.mpr ⟨l, vs, rfl, q, r⟩)⟩
  · by_cases h2 : (decide (k ≤ 0) || its.toArray.isEmpty) = true
    · refine call_meets F.slot_tuple_mul ⟨_, ho, rfl⟩ F.entry_tuple_mul (F.args_tuple_mul_2 _ _) (HT.tuple_mulW2 l its.toArray n dd sl k t hf h1 h2) ⟨ho, ?_⟩
      have e : k.toNat = 0 := by
        rw [Bool.or_eq_true] at h2 h1
        rcases h2 with h2 | h2
        · have := of_decide_eq_true h2; omega
        · exact absurd (.inl h2) h1
      have hp := I.hok.fresh (Nat.le_refl s.heap.objs.size)
      rw [e] at R
      refine ⟨.ref s.heap.objs.size, _, I.laid (t' := s.toks) (o := .tup []) (fun b ob q => Heap.get?_push_of_some _ q) (Nat.le_refl _) ⟨by decide, [], .nil, IsTup.new _ _⟩, rfl, ?_⟩
      exact new_tup (xs := repL xs 0) W (Reps.nil_i.mpr rfl) hp R
    · have hk0 : 0 < k := by
        rw [Bool.or_eq_true, not_or] at h2
        have := of_decide_eq_false (Bool.eq_false_iff.mpr h2.1)
        omega
      have hm : (its.toArray.size : Int) * k ≤ 10000 := by
        have h3 : (its.toArray.size : Int) ≤ 10 := by rw [List.size_toArray]; omega
        have h4 : (its.toArray.size : Int) * k ≤ 10 * k := Int.mul_le_mul_of_nonneg_right h3 (by omega)
        omega
      have hlen : ((List.replicate k.toNat its).flatten).length ≤ 10000 := by
        rw [len_rep]
        have h3 : k.toNat * its.length ≤ 1000 * 10 := Nat.mul_le_mul (by omega) lk
        omega
      have hbig : (10000 : Nat) ≤ sizeLine := small_le
      refine call_meets F.slot_tuple_mul ⟨_, ho, rfl⟩ F.entry_tuple_mul (F.args_tuple_mul_2 _ _) (HT.tuple_mulW3 l its.toArray n dd sl k t hf h1 h2 (by omega) (by
          unfold Builtin.Tuple.tupleTooMany
          intro h
          have := of_decide_eq_true h
          omega) (by rw [fold, List.size_toArray]; omega)) ⟨ho, ?_⟩
      have hp := I.hok.fresh (Nat.le_refl s.heap.objs.size)
      rw [fold]
      refine ⟨.ref s.heap.objs.size, _, I.laid (t' := s.toks) (o := .tup (List.replicate k.toNat vs).flatten) (fun b ob q => Heap.get?_push_of_some _ q) (Nat.le_refl _) ⟨?_, _, hv.rep k.toNat, IsTup.new _ _⟩, rfl, ?_⟩
      · rw [len_rep, hv.length, ← len_rep]; omega
      · exact new_tup W (r.rep k.toNat) hp R
theorem op_mul2D : OpD X EX (binaryOp .Mult) mul2D := by
  intro pins s σ H x y v u Q I rx ry h
  obtain ⟨O, a, b, st, W, ra, rb, R⟩ := h
  have other : Run X.K EX O H (mulD a b st) (Val X.K Q) → wpAny (model X.prog X.w) X.A (binaryOp .Mult v u) (EP X pins σ Q) X.xe s := fun R => op_mulD pins s σ H x y v u Q I rx ry ⟨O, a, b, st, W, ra, rb, R⟩
  cases a <;> cases b <;> first | exact other R | skip
  case tup.int xs k =>
    dsimp only [mul2D] at R
    by_cases hk : -1000 ≤ k ∧ k ≤ 1000 ∧ xs.length ≤ 10
    · rw [if_pos hk] at R
      rw [Rep.tup_i] at ra
      rw [Rep.int_i] at rb
      subst rb
      obtain ⟨l, vs, rfl, q, r⟩ := ra
      cases rx
      obtain ⟨t, rfl⟩ := ry
      exact mul_tup I W q r hk R
    · rw [if_neg hk] at R; exact R.elim
  case str.int z k =>
    dsimp only [mul2D] at R
    by_cases hk : -1000 ≤ k ∧ k ≤ 1000 ∧ z.length ≤ 10
    · rw [if_pos hk] at R
      rw [Rep.str_i] at ra
      rw [Rep.int_i] at rb
      subst ra rb
      obtain ⟨t', rfl⟩ := rx
      obtain ⟨t, rfl⟩ := ry
      exact SB.mul (mulOk_of 10 1000 hk.2.2 hk.2.1 (by omega) (by decide) (by decide)) fun t2 k2 => ⟨.str (PySem.Txt.mul z k), H, I.tok k2, ⟨t2, rfl⟩, Run.now (k := Val X.K Q) R W _ (Rep.str_i.mpr rfl)⟩
    · rw [if_neg hk] at R; exact R.elim
end
end DL

end
section
set_option Elab.async false
set_option linter.all false
set_option maxRecDepth 100000
namespace HT
open PySem PyProof.Rows
section
variable {prog : Program} {w : World} {A : Around} {E : Value → Shared → Prop} {s : Shared}
end
end HT

end
section
set_option Elab.async false
set_option linter.all false
set_option maxRecDepth 100000
namespace DL
open PySem PySem.Spec PyProof.Rows L2
structure ZAp (z TI TO i1 i2 : Addr) : Prop where
  TIz : TI ≠ z
  TOz : TO ≠ z
  i1z : i1 ≠ z
  i2z : i2 ≠ z
  TITO : TI ≠ TO
  TIi1 : TI ≠ i1
  TIi2 : TI ≠ i2
  TOi1 : TO ≠ i1
  TOi2 : TO ≠ i2
  i12 : i1 ≠ i2
end DL

end
section
set_option Elab.async false
set_option linter.all false
set_option maxRecDepth 100000
namespace HT
open PySem PyProof.Rows
section
variable {prog : Program} {w : World} {A : Around} {E : Value → Shared → Prop} {s : Shared}
end
end HT
namespace DL
open PySem PySem.Spec PyProof.Rows L2
section
variable {X : Cx} {EX : EXT} {a b e o tg : Expr} {fa fb fo : DE} {g : DA} {pos p px apos cpos : Pos} {x : Str}
noncomputable def dAppend (fo fa : DE) : DE := fun ρ st => (fo ρ st).bind fun d st1 => match d with
  | .res i => match st1[i]? with
    | some (.lst _) => (fa ρ st1).bind fun v st2 => match st2[i]? with
      | some (.lst xs) => if xs.length < small then .ok .non (st2.set i (.lst (xs ++ [v]))) else .bad
      | _ => .bad
    | _ => .bad
  | _ => .bad
theorem res_lst {K : PySem.W.Frag} {O : List Addr} {H : Hp} {st : Sto} (W : WR K O H st) {i : Nat} {v : V} {xs : List D} (r : Rep K O H (.res i) v) (e : st[i]? = some (.lst xs)) : ∃ a vs, v = .ref a ∧ O[i]? = some a ∧ H a = some (.lst vs) ∧ Reps K O H xs vs := by
  rw [Rep.res_i] at r
  obtain ⟨a, rfl, q⟩ := r
  obtain ⟨vs, h1, h2⟩ := W.at_ _ _ _ q e
  exact ⟨a, vs, rfl, q, h1, h2⟩
theorem pd_append (ho : PD X EX o fo) (ha : PD X EX a fa) (hbase : attributeBase o "append" X.env (eval o X.env) = eval o X.env := by rfl)
    (hfew : ((backTo cpos (starEach [a] X.env)).all (fun x => !x.1) && (backToKw cpos (keywordEach [] X.env)).all (fun x => x.1.isSome)
      && decide ([a].length + ([] : List Keyword).length + (if ([] : List Keyword).isEmpty then 0 else 1) < 30)) = true := by rfl)
    (hline : (apos.endLine == cpos.line) = true := by rfl) (hs : starEach [a] X.env = (false, eval a X.env) :: starEach [] X.env := by rfl) (hplain : (backTo cpos (starEach [] X.env)).any (·.1) = false := by rfl) : PD X EX (.Call (.Attribute o "append" apos) [a] [] cpos) (dAppend fo fa) := by
  refine PE.mono (pe_bm PySem.F.plainAttrs_list PySem.F.slot_list_append PySem.F.type_list_append mt_append ho (pda_cons ha pda_nil hs) hbase hfew hline hs hplain) ?_
  rintro σ H Q ⟨O, ρ, st, W, E, R⟩
  refine ⟨O, ρ, st, W, E, R.bind.mono fun d st1 O1 H1 k1 W1 R1 v r => ?_⟩
  cases d with
  | res i =>
    dsimp only at R1
    cases e1 : st1[i]? with
    | none => rw [e1] at R1; exact R1.elim
    | some s1 =>
      rw [e1] at R1
      cases s1 with
      | ins C fs => exact R1.elim
      | dct kvs => exact R1.elim
      | dtt kvs => exact R1.elim
      | lst xs0 =>
        dsimp only at R1
        obtain ⟨pa, vs0, rfl, q0, h0, _⟩ := res_lst W1 r e1
        refine ⟨.inl ⟨rfl, _, SqL.of h0⟩, O1, ρ, st1, W1, E.mono k1, ?_⟩
        cases hfa : fa ρ st1 with
        | bad => rw [hfa] at R1; exact R1.elim
        | exc c st2 =>
          rw [hfa] at R1
          show Run X.K EX O1 H1 (dCons fa dNil ρ st1) _
          unfold dCons
          rw [hfa]
          exact R1
        | ok w st2 =>
          rw [hfa] at R1
          show Run X.K EX O1 H1 (dCons fa dNil ρ st1) _
          unfold dCons
          rw [hfa]
          intro O2 H2 k2 W2 ws rs
          obtain ⟨u, rfl, ru⟩ := Reps.one_of rs
          have R2 := Run.later R1 k2
          dsimp only [Out.bind] at R2
          cases e2 : st2[i]? with
          | none => rw [e2] at R2; exact R2.elim
          | some s2 =>
            rw [e2] at R2
            cases s2 with
            | ins C fs => exact R2.elim
            | dct kvs => exact R2.elim
            | dtt kvs => exact R2.elim
            | lst xs =>
              dsimp only at R2
              by_cases hl : xs.length < small
              · rw [if_pos hl] at R2
                obtain ⟨pa', vs, e3, q, h1, h2⟩ := res_lst W2 (Rep.mono k2 _ _ r) e2
                cases e3
                refine ⟨pa, vs, u, rfl, rfl, h1, by rw [← h2.length]; exact Nat.lt_of_lt_of_le hl small_le, ?_⟩
                exact R2 O2 _ (Keep.write W2 q) (W2.writeL q (h2.append (Reps.one ru))) _ (Rep.non_i.mpr rfl)
              · rw [if_neg hl] at R2; exact R2.elim
  | _ => exact R1.elim
noncomputable def dBM (g : D → List D → Sto → Out D) (fo : DE) (f : DA) : DE := fun ρ st => (fo ρ st).bind fun d st1 => match d with
  | .str z => (f ρ st1).bind fun ds st2 => g (.str z) ds st2
  | _ => .bad
end
end DL

end
section
set_option Elab.async false
set_option linter.all false
set_option maxRecDepth 100000
namespace DL
open PySem PySem.Spec PyProof.Rows L2
noncomputable def tyName : D → Option String
  | .non => some "NoneType"
  | .bl _ => some "bool"
  | .int _ => some "int"
  | .str _ => some "str"
  | .tup _ => some "tuple"
  | .lst _ => some "list"
  | _ => none
noncomputable def subTy (t T : String) : Bool := t == T || (t == "bool" && T == "int")
section
variable {X : Cx} {EX : EXT} {a b c e o : Expr} {fa fb fc fo : DE} {pos p pT apos : Pos}
noncomputable def dInst (T : String) (f : DE) : DE := fun ρ st => (f ρ st).bind fun d st1 => match tyName d with
  | some t => .ok (.bl (subTy t T)) st1
  | none => .bad
noncomputable def dNeg (f : DE) : DE := fun ρ st => (f ρ st).bind fun d st1 => match d with
  | .int i => .ok (.int (-i)) st1
  | _ => .bad
theorem pd_neg (ha : PD X EX a fa) : PD X EX (.UnaryOp .USub a pos) (dNeg fa) := by
  refine PE.mono (pe_un un_neg ha) ?_
  rintro σ H Q ⟨O, ρ, st, W, E, R⟩
  refine ⟨O, ρ, st, W, E, R.bind.mono fun d st1 O1 H1 k1 W1 R1 v r => ?_⟩
  cases d with
  | int i => exact ⟨i, Rep.int_i.mp r, Run.now (k := Val X.K Q) R1 W1 _ (Rep.int_i.mpr rfl)⟩
  | _ => exact R1.elim
end
structure FnAt (P : Program) (w : World) (K : PySem.W.Frag) (mg : Str → Option Value) (base : Heap) (x : Str) (k : Nat) (F : FD) : Prop where
  ex : ∃ (f : Addr) (fd : FuncData) (ps : List Str), FnOk P w K mg base CX0 k f fd ps (spD K F) ∧ mg x = some (.ref f) ∧ PySem.W.keepIn K (.ref f) = true ∧ Binds K fd ps []
section
variable {X : Cx} {EX : EXT} {e : Expr} {es : List Expr} {pos p : Pos} {x : Str} {k j : Nat} {F : FD} {g : DA}
theorem pd_fn (h : FnAt X.prog X.w X.K X.mg X.base x j F) (hr : Room k X.A) (hj : j ≤ k) (hg : Gl X x) (ha : PDA X EX (e :: es) g)
    (hdb : (x == ("__debug__" : Str)) = false := by decide) (he : starEach (e :: es) X.env = (false, eval e X.env) :: starEach es X.env := by rfl) (hpl : (backTo pos (starEach es X.env)).any (·.1) = false := by rfl) :
    PD X EX (.Call (.Name x p) (e :: es) [] pos) (dCall F g) := by
  obtain ⟨f, fd, ps, G, hm, hk, hb⟩ := h.ex
  exact pd_call G (hr.mono hj) hg hm hk hb xe0 ha hdb he hpl
end
theorem fnAt {P : Program} {w : World} {K : PySem.W.Frag} {mg : Str → Option Value} {base : Heap} {x qual : Str} {st : Stmt} {f : Addr} {fd : FuncData} {N ps : List Str} {k : Nat} {g : DS} (F : Fun K x qual st f fd) (S : FnScope N ps (defScope st)) (hm : mg x = some (.ref f)) (hb : Binds K fd ps [])
    (hbody : ∀ (cdv : Value) (A : Around) (outer : List Env) (s : Shared) (H : Hp) (E : XK), Room k (A.deeper (envOfC qual (defScope st) s.heap.objs.size f cdv)) →
      PDS (cxOf CX0 P w K mg base N qual (defScope st) f cdv A outer s H E).nox EX0 (defBody st) g) : FnAt P w K mg base x (k + 1) (runF N.length ps.length g) :=
  ⟨f, fd, ps, fnD F S hbody, hm, F.kp, hb⟩
end DL

end
section
set_option Elab.async false
set_option linter.all false
set_option maxRecDepth 100000
namespace HT
open PySem PyProof.Rows PyProof.Rows.LSm
section
variable {prog : Program} {w : World} {A : Around} {E : Value → Shared → Prop} {s : Shared} {l : Addr} {vs : List Value}
end
end HT
namespace DL
open PySem PySem.Spec PyProof.Rows L2
section
variable {X : Cx} {EX : EXT}
end
end DL

end
section
set_option Elab.async false
set_option linter.all false
set_option maxRecDepth 100000
namespace DL
open PySem PySem.Spec PyProof.Rows L2
section
variable {X : Cx} {EX : EXT} {tg e : Expr} {f : DE}
end
end DL

end
section
set_option Elab.async false
set_option linter.all false
set_option maxRecDepth 100000
namespace DL
open PySem PySem.Spec PyProof.Rows L2
noncomputable def cutS : D → Option Int → Option Int → Sto → Out D
  | .str z, lo, hi, st => if z.length ≤ small then .ok (.str ⟨(cutL z.cps.toList lo hi).toArray⟩) st else .bad
  | _, _, _, _ => .bad
section
variable {X : Cx} {EX : EXT} {a b c e o i : Expr} {fa fb fc fo fi : DE} {pos p p2 apos : Pos} {ta tb : DT}
end
structure MtAt (P : Program) (w : World) (K : PySem.W.Frag) (mg : Str → Option Value) (base : Heap) (C : Addr) (m : Str) (k : Nat) (F : FD) : Prop where
  ex : ∃ (f : Addr) (fd : FuncData) (ps : List Str), FnOk P w K mg base CX0 k f fd ps (spD K F) ∧ Meth K C m f ∧ Binds K fd ps []
structure MkAt (P : Program) (w : World) (K : PySem.W.Frag) (mg : Str → Option Value) (base : Heap) (x : Str) (C : Addr) (k : Nat) (F : FD) : Prop where
  ex : ∃ (f : Addr) (fd : FuncData) (ps : List Str), FnOk P w K mg base CX0 k f fd ps (spD K F) ∧ Mk K C f ∧ Binds K fd ps [] ∧ mg x = some (.ref C)
section
variable {X : Cx} {EX : EXT} {e o : Expr} {es : List Expr} {pos p apos : Pos} {x m : Str} {k j : Nat} {F : FD} {g : DA} {C : Addr} {fo : DE}
theorem pd_mt0 {pl : Sem Bool} (h : MtAt X.prog X.w X.K X.mg X.base C m j F) (c : Cls X.K C) (hr : Room k X.A) (hj : j ≤ k) (he : PD X EX o fo)
    (ht : eval (.Call (.Attribute o m apos) [] [] pos) X.env = (do
      let ov ← eval o X.env
      standAt apos.atName
      let (f, first) ← holding [ov] (getMethod ov m pl)
      callWith pos f first (backTo pos (starEach [] X.env)) (backToKw pos (keywordEach [] X.env))) := by rfl) :
    PD X EX (.Call (.Attribute o m apos) [] [] pos) (dMeth C m F fo dNil) := by
  obtain ⟨f, fd, ps, G, hm, hb⟩ := h.ex
  exact pd_meth0 he c hm G (hr.mono hj) hb xe0 ht
theorem pd_mk0 (h : MkAt X.prog X.w X.K X.mg X.base x C j F) (hr : Room k X.A) (hj : j + 1 ≤ k) (hg : Gl X x)
    (hdb : (x == ("__debug__" : Str)) = false := by decide) : PD X EX (.Call (.Name x p) [] [] pos) (dMake C F dNil) := by
  obtain ⟨f, fd, ps, G, hm, hb, hx⟩ := h.ex
  exact pd_make0 hm G (hr.mono hj) hg hx hb xe0 hdb
end
section
variable {P : Program} {w : World} {K : PySem.W.Frag} {mg : Str → Option Value} {base : Heap}
theorem mtAt {x qual : Str} {st : Stmt} {f C : Addr} {fd : FuncData} {N ps : List Str} {k : Nat} {g : DS} (F : Fun K x qual st f fd) (S : FnScope N ps (defScope st)) (hm : Meth K C x f) (hb : Binds K fd ps [])
    (hbody : ∀ (cdv : Value) (A : Around) (outer : List Env) (s : Shared) (H : Hp) (E : XK), Room k (A.deeper (envOfC qual (defScope st) s.heap.objs.size f cdv)) →
      PDS (cxOf CX0 P w K mg base N qual (defScope st) f cdv A outer s H E).nox EX0 (defBody st) g) : MtAt P w K mg base C x (k + 1) (runF N.length ps.length g) :=
  ⟨f, fd, ps, fnD F S hbody, hm, hb⟩
theorem mkAt {x qual cn : Str} {st : Stmt} {f C : Addr} {fd : FuncData} {N ps : List Str} {k : Nat} {g : DS} (F : Fun K x qual st f fd) (S : FnScope N ps (defScope st)) (hm : Mk K C f) (hb : Binds K fd ps []) (hx : mg cn = some (.ref C))
    (hbody : ∀ (cdv : Value) (A : Around) (outer : List Env) (s : Shared) (H : Hp) (E : XK), Room k (A.deeper (envOfC qual (defScope st) s.heap.objs.size f cdv)) →
      PDS (cxOf CX0 P w K mg base N qual (defScope st) f cdv A outer s H E).nox EX0 (defBody st) g) : MkAt P w K mg base cn C (k + 1) (runF N.length ps.length g) :=
  ⟨f, fd, ps, fnD F S hbody, hm, hb, hx⟩
end
section
variable {ρ : Ev} {st : Sto} {f fo fi fv : DE} {da : DA} {C : Addr} {x m : Str} {F : FD}
@[simp] theorem z_cutS (z : Str) (lo hi : Option Int) : cutS (.str z) lo hi st = if z.length ≤ small then .ok (.str ⟨(cutL z.cps.toList lo hi).toArray⟩) st else .bad := rfl
theorem z_meth : dMeth C m F fo da ρ st = (fo ρ st).bind fun d st1 => match insAt C st1 d with
  | some (_, fs) => if fs.lookup m = none then (da ρ st1).bind fun ds st2 => F (d :: ds) st2 else .bad
  | none => .bad := rfl
theorem z_fld : dFld C x fo ρ st = (fo ρ st).bind fun d st1 => match insAt C st1 d with
  | some (_, fs) => match fs.lookup x with
    | some v => .ok v st1
    | none => .bad
  | none => .bad := rfl
theorem z_make : dMake C F da ρ st = (da ρ st).bind fun ds st1 => (F (.res st1.length :: ds) (st1 ++ [.ins C []])).bind fun d st2 => (asNon d st2).bind fun _ st3 => .ok (.res st1.length) st3 := rfl
theorem z_sFldS : sFldS C x fo fv ρ st = (fv ρ st).to fun v st1 => (fo ρ st1).to fun d st2 => match insAt C st2 d with
  | some (i, fs) => if fs.length < 900 then .nx ρ (st2.set i (.ins C (putFD x v fs))) else .bad
  | none => .bad := rfl
theorem z_sFldF : sFldF C x fo da ρ st = (da ρ st).to fun vs st1 => (fo ρ (st1 ++ [.lst vs])).to fun d st2 => match insAt C st2 d with
  | some (i, fs) => if fs.length < 900 then .nx ρ (st2.set i (.ins C (putFD x (.res st1.length) fs))) else .bad
  | none => .bad := rfl
theorem z_sFldAdd : sFldAdd C x fo fv ρ st = (fo ρ st).to fun d st1 => match insAt C st1 d with
  | some (i, fs) => match fs.lookup x with
    | some (.int z) => (fv ρ st1).to fun v st2 => match v with
      | .int y => match insAt C st2 d with
        | some (j, fs') => if fs'.length < 900 then .nx ρ (st2.set j (.ins C (putFD x (.int (z + y)) fs'))) else .bad
        | none => .bad
      | _ => .bad
    | _ => .bad
  | none => .bad := rfl
end
end DL

end
section
set_option Elab.async false
set_option linter.all false
set_option maxRecDepth 100000
namespace DL
open PySem PySem.Spec PyProof.Rows L2
section
variable {X : Cx} {EX : EXT} {es : List Expr} {k : Nat} {pt p pos : Pos} {a : Expr} {f : DE}
end
end DL

end
section
set_option Elab.async false
set_option linter.all false
set_option maxRecDepth 100000
namespace DL
open PySem PySem.Spec PyProof.Rows L2
structure CFn (K : PySem.W.Frag) (C : Addr) (m : Str) (f : Addr) : Prop where
  sg : PySem.W.specialIn K (.ref C) "__getattribute__" = some (some (.builtin "type.__getattribute__"))
  rd : PySem.W.readsIn K C (.type "type") = true
  fc : PySem.W.findCls K (.ref C) (.type "type") m = some (.val (.ref f))
  kp : PySem.W.keepIn K (.ref f) = true
section
variable {X : Cx} {EX : EXT} {CX : CXT} {k j : Nat} {f C : Addr} {fd : FuncData} {ps : List Str} {sp : Sp} {E : XK} {x m : Str} {p pos apos : Pos} {e : Expr} {es : List Expr} {t : TA} {F : FD} {g : DA}
end
structure CfAt (P : Program) (w : World) (K : PySem.W.Frag) (mg : Str → Option Value) (base : Heap) (x : Str) (C : Addr) (m : Str) (k : Nat) (F : FD) : Prop where
  ex : ∃ (f : Addr) (fd : FuncData) (ps : List Str), FnOk P w K mg base CX0 k f fd ps (spD K F) ∧ CFn K C m f ∧ Binds K fd ps [] ∧ mg x = some (.ref C)
section
variable {X : Cx} {EX : EXT} {k j : Nat} {C : Addr} {x m : Str} {p pos apos : Pos} {e : Expr} {es : List Expr} {F : FD} {g : DA}
end
section
variable {P : Program} {w : World} {K : PySem.W.Frag} {mg : Str → Option Value} {base : Heap}
end
end DL

end
section
set_option Elab.async false
set_option linter.all false
set_option maxRecDepth 100000
namespace DL
open PySem PySem.Spec PyProof.Rows L2
section
variable {X : Cx} {EX : EXT} {a b : Expr} {ta : TA} {p p2 pos pos2 : Pos} {g : DA}
end
end DL

end
section
set_option Elab.async false
set_option linter.all false
set_option maxRecDepth 100000
namespace DL
open PySem PySem.Spec PyProof.Rows L2
section
variable {X : Cx} {EX : EXT}
end
end DL

end
section
set_option Elab.async false
set_option linter.all false
set_option maxRecDepth 100000
namespace HT
open PySem PyProof.Rows
section
variable {prog : Program} {w : World} {A : Around} {E : Value → Shared → Prop} {s : Shared} {R : Result → Shared → Prop} {l I S : Addr}
end
end HT
namespace DL
open PySem PySem.Spec PyProof.Rows L2
section
variable {X : Cx} {EX : EXT} {a : Expr} {ta : TE} {fa : DE} {p p1 p2 kp1 kp2 pos : Pos} {j : Nat}
end
end DL

end
section
set_option Elab.async false
set_option linter.all false
set_option maxRecDepth 100000
namespace DL
open PySem PySem.Spec PyProof.Rows L2
theorem objOk_there {P : Program} {w : World} {H : Hp} {h : Heap} {a : Addr} {o : HO} (x : ObjOk P w H h a o) : ∃ u, h.get? a = some u := by
  cases o with
  | lst xs => obtain ⟨_, _, _, _, e⟩ := x; exact ⟨_, e⟩
  | tup xs => obtain ⟨_, _, _, _, e, _⟩ := x; exact ⟨_, e⟩
  | dK kvs => obtain ⟨_, _, _, _, _, _, _, e, _⟩ := x; exact ⟨_, e⟩
  | dT kvs => obtain ⟨_, _, _, _, _, _, _, e, _⟩ := x; exact ⟨_, e⟩
  | set S n => obtain ⟨_, _, _, _, e, _⟩ := x; exact ⟨_, e⟩
  | ins C dx fs => obtain ⟨_, _, _, e, _⟩ := x; exact ⟨_, e⟩
  | own y => exact x
  | xd fs => obtain ⟨_, ⟨_, _, _, e, _⟩, _⟩ := x; exact ⟨_, e⟩
  | rng lo hi => obtain ⟨_, _, _, e⟩ := x; exact ⟨_, e⟩
  | frz ob u => exact ⟨_, x.1⟩
  | tbl ps => exact ⟨_, show h.get? a = some _ from x⟩
  | met f y => exact ⟨_, show h.get? a = some _ from x⟩
  | ext φ => exact x.2.1
theorem carry {P : Program} {w : World} {outer stack : List Env} {H H1 H' : Hp} {h h1 h2 h' B : Heap} (u : Un (frs outer) [] H H1 h h1) (un : Un (frs stack) [] H1 H' h1 h2) (hok : HOk P w H' h2) (ff : h2.FunFrames B stack)
    (c1 : ∀ b o u, h1.get? b = some o → b ∉ frs stack → h2.get? b = some u → B.get? b = some u) (c2 : ∀ b o u, H' b = some o → h2.get? b = some u → B.get? b = some u)
    (st : B.StaysIn h') (up : h2.UpToSlots h') (hy : ∀ b o, h.get? b = some o → b ∉ frs outer → b ∉ frs stack) (sub : ∀ b ∈ frs outer, b ∈ frs stack) :
    Un (frs outer) [] H H' h h' ∧ HOk P w H' h' ∧ (∀ b o u, h.get? b = some o → b ∉ frs outer → h'.get? b = some u → B.get? b = some u) ∧ ∀ b o u, H' b = some o → h'.get? b = some u → B.get? b = some u := by
  have ne : ∀ b : Addr, b ∉ ([] : List Addr) := fun b => by simp
  refine ⟨⟨fun b o q n hb _ => ?_, fun b o q n hb _ => ?_, fun b o q n _ => ?_, fun b o q _ => ?_, fun b xs q => un.tups b xs (u.tups b xs q), fun b o v q => un.frzs b o v (u.frzs b o v q), fun b ps q => ?_⟩, fun a o e => ?_, fun b o v q hb e => ?_, fun b o v q e => ?_⟩
  · have q1 := u.keep b o q n hb (ne b)
    have hs := hy b o q hb
    exact st b o (c1 b o o q1 hs (un.keep b o q1 (u.free b o q n (ne b)) hs (ne b)))
  · obtain ⟨sl, q1⟩ := u.slot b o q n hb (ne b)
    obtain ⟨sl2, q2⟩ := un.slot b _ q1 (u.free b o q n (ne b)) (sub b hb) (ne b)
    obtain ⟨_, o', ho', nf⟩ := ff.mem (sub b hb)
    rw [q2] at ho'
    cases ho'
    obtain ⟨sl3, q3⟩ := up b _ q2 nf
    exact ⟨sl3, q3⟩
  · obtain ⟨o1, q1⟩ := u.there b o q (ne b)
    exact un.free b o1 q1 (u.free b o q n (ne b)) (ne b)
  · obtain ⟨o1, q1⟩ := u.there b o q (ne b)
    obtain ⟨o2, q2⟩ := un.there b o1 q1 (ne b)
    by_cases hb : b ∈ frs stack
    · obtain ⟨_, o', ho', nf⟩ := ff.mem hb
      rw [q2] at ho'
      cases ho'
      obtain ⟨sl3, q3⟩ := up b _ q2 nf
      exact ⟨_, q3⟩
    · exact ⟨o2, st b o2 (c1 b o1 o2 q1 hb q2)⟩
  · obtain ⟨m1, q1⟩ := u.tbls b ps q
    obtain ⟨m2, q2⟩ := un.tbls b _ q1
    exact ⟨m1 ++ m2, by rw [q2, Array.append_assoc]⟩
  · refine (hok a o e).stay (fun b v hb q => ?_) (fun _ q => q) fun _ _ q => q
    rcases hb with rfl | hb
    · exact st b v (c2 b o v e q)
    · exact st b v (c2 b _ v hb q)
  · obtain ⟨o1, q1⟩ := u.there b o q (ne b)
    obtain ⟨o2, q2⟩ := un.there b o1 q1 (ne b)
    have z := c1 b o1 o2 q1 (hy b o q hb) q2
    have := st b o2 z
    rw [e] at this
    cases this
    exact z
  · obtain ⟨v0, e0⟩ := objOk_there (hok b o q)
    have z := c2 b o v0 q e0
    have := st b v0 z
    rw [e] at this
    cases this
    exact z
structure Flies (P : Program) (w : World) (outer : List Env) (H : Hp) (s : Shared) (e : Value) (s' : Shared) (ea C : Addr) (a0 : Value) (B : Heap) (H' : Hp) : Prop where
  ev : e = .ref ea
  os : s'.os = s.os
  bare : AllBare s'.gens
  un : Un (frs outer) [] H H' s.heap s'.heap
  hok : HOk P w H' s'.heap
  fly : Heap.FlyingW B outer ea (.ref C) a0 s'.heap
  new : H' ea = none
  fresh : s.heap.get? ea = none
  c1 : ∀ b o u, s.heap.get? b = some o → b ∉ frs outer → s'.heap.get? b = some u → B.get? b = some u
  c2 : ∀ b o u, H' b = some o → s'.heap.get? b = some u → B.get? b = some u
noncomputable def CXr (P : Program) (w : World) : CXT := fun outer H s E e s' => ∃ ea C a0 B H', Flies P w outer H s e s' ea C a0 B H' ∧ E (.ref C) Option.none H'
structure XT (X : Cx) (EX : EXT) : Prop where
  pass : XeOk (CXr X.prog X.w) X EX
  own : PassesOwn (model X.prog X.w) X.A X.env X.xe
structure XR (X : Cx) (EX : EXT) : Prop where
  raise : ∀ (pins : List (Addr × Obj)) (σ : L2.St) (H : Hp) (s : Shared) (C e : Addr) (h' : Heap) (args : List Value), Inv X pins σ H s → Heap.MadeExcOf s.heap h' e (.ref C) args → (∃ st O, EX C st O H) → X.xe (.ref e) { s with heap := h' }
theorem xt_nox {X : Cx} : XT X.nox EX0 := by
  refine ⟨?_, PassesOwn.never⟩
  rintro pins σ H s e s' I ⟨ea, C, a0, B, H', F, c, st, O, _, z⟩
  exact z
noncomputable def exOf (E : XK) : EXT := fun c _ _ H' => E (.ref c) Option.none H'
section
variable {P : Program} {w : World} {K : PySem.W.Frag} {mg : Str → Option Value} {base : Heap} {N : List Str} {qual : Str} {scope : Scope} {f : Addr} {cd : Value} {A : Around} {outer : List Env} {s : Shared} {H : Hp} {E : XK}
theorem frs_sub {X : Cx} (hk : X.stack = X.env :: X.outer) : ∀ b ∈ X.fs, b ∈ frs X.stack := fun b hb => by
  rw [hk]
  show b ∈ (X.env :: X.outer).filterMap (·.frame)
  rw [List.filterMap_cons]
  split
  · exact hb
  · exact List.mem_cons_of_mem _ hb
theorem frs_old {X : Cx} {pins : List (Addr × Obj)} {σ : L2.St} {H : Hp} {s : Shared} (I : Inv X pins σ H s) : ∀ b o, X.s₀.heap.get? b = some o → b ∉ X.fs → b ∉ frs X.stack := fun b o q hb hm => by
  rcases List.mem_cons.mp (I.stkSub b hm) with rfl | z
  · exact absurd (Nat.lt_of_lt_of_le (Heap.lt_size q) I.ok.above) (Nat.lt_irrefl _)
  · exact hb z
theorem xt_def : XT (cxOf (CXr P w) P w K mg base N qual scope f cd A outer s H E) (exOf E) := by
  refine ⟨?_, PassesOwn.leaving⟩
  rintro pins σ H1 s1 e s' I ⟨ea, C, a0, B, H', F, c, st, O, ec, hE⟩
  have ev := F.ev
  subst ev
  cases ec
  obtain ⟨F1, F2, F3, F4⟩ := F.fly
  refine wpAny_leaves_onW I.ok.frames rfl F.fly fun h' fl up => ?_
  obtain ⟨z1, z2, z3, z4⟩ := carry (P := P) (w := w) (outer := outer) I.base F.un F.hok F3 F.c1 F.c2 fl.1 up (frs_old I) (frs_sub (X := cxOf (CXr P w) P w K mg base N qual scope f cd A outer s H E) rfl)
  refine ⟨ea, _, a0, B, H', ⟨rfl, F.os.trans I.os, F.bare, z1, z2, fl, F.new, ?_, z3, z4⟩, hE⟩
  cases q : s.heap.get? ea with
  | none => rfl
  | some o =>
    obtain ⟨o1, q1⟩ := I.base.there ea o q (by show ea ∉ ([] : List Addr); simp)
    rw [F.fresh] at q1
    cases q1
theorem xr_def : XR (cxOf (CXr P w) P w K mg base N qual scope f cd A outer s H E) (exOf E) := by
  refine ⟨?_⟩
  rintro pins σ H1 s1 C e h2 args I hx ⟨st, O, hE⟩
  have hin : ∀ env ∈ (cxOf (CXr P w) P w K mg base N qual scope f cd A outer s H E).stack, ∀ b, env.frame = some b → b ∈ frs (cxOf (CXr P w) P w K mg base N qual scope f cd A outer s H E).stack := fun env he b hb => List.mem_filterMap.mpr ⟨env, he, hb⟩
  have hff := PySem.W.funFrames_hide I.stack hin
  refine wpAny_leaves_madeW (base := PySem.W.hideAll s1.heap (frs (cxOf (CXr P w) P w K mg base N qual scope f cd A outer s H E).stack)) (h := s1.heap) I.ok.frames rfl (fun b o q => PySem.W.of_hideAll _ q) hff hx fun h' t fl tup tn up => ?_
  obtain ⟨z1, z2, z3, z4⟩ := carry (P := P) (w := w) (outer := outer) (stack := (cxOf (CXr P w) P w K mg base N qual scope f cd A outer s H E).stack) (B := PySem.W.hideAll s1.heap (frs (cxOf (CXr P w) P w K mg base N qual scope f cd A outer s H E).stack)) I.base Un.refl I.hok hff
    (fun b o v _ hb q => PySem.W.hideAll_get _ q hb) (fun b o v q e => PySem.W.hideAll_get _ e fun hm => by rw [I.stkFree b hm] at q; cases q) fl.1 ((Heap.UpToSlots.of_keeps hx.keeps).trans up) (frs_old I) (frs_sub (X := cxOf (CXr P w) P w K mg base N qual scope f cd A outer s H E) rfl)
  refine ⟨e, C, _, _, H1, ⟨rfl, I.os, I.bare, z1, z2, fl, ?_, ?_, z3, z4⟩, hE⟩
  · cases q : H1 e with
    | none => rfl
    | some o =>
      obtain ⟨v, q1⟩ := objOk_there (I.hok e o q)
      rw [hx.new] at q1
      cases q1
  · cases q : s.heap.get? e with
    | none => rfl
    | some o =>
      obtain ⟨o1, q1⟩ := I.base.there e o q (by show e ∉ ([] : List Addr); simp)
      rw [hx.new] at q1
      cases q1
noncomputable def runX (N n : Nat) (g : DS) : FD := fun ds st => if ds.length = n then (match g (ds.map some ++ List.replicate (N - n) none) st with
  | .nx _ st' => .ok .non st'
  | .rt d st' => .ok d st'
  | .exc c st' => .exc c st'
  | _ => .bad) else .bad
theorem fnX {x qual : Str} {st : Stmt} {f : Addr} {fd : FuncData} {N ps : List Str} {k : Nat} {g : DS} (F : Fun K x qual st f fd) (S : FnScope N ps (defScope st))
    (hbody : ∀ (cdv : Value) (A : Around) (outer : List Env) (s : Shared) (H : Hp) (E : XK), Room k (A.deeper (envOfC qual (defScope st) s.heap.objs.size f cdv)) → XT (cxOf (CXr P w) P w K mg base N qual (defScope st) f cdv A outer s H E) (exOf E) →
      XR (cxOf (CXr P w) P w K mg base N qual (defScope st) f cdv A outer s H E) (exOf E) → PDS (cxOf (CXr P w) P w K mg base N qual (defScope st) f cdv A outer s H E) (exOf E) (defBody st) g) : FnOk P w K mg base (CXr P w) (k + 1) f fd ps (spD K (runX N.length ps.length g)) := by
  have hlen : ∀ vs H Q E, spD K (runX N.length ps.length g) vs H Q E → vs.length = ps.length := by
    rintro vs H Q E ⟨O, ds, st, W, r, R⟩
    unfold runX at R
    by_cases hl : ds.length = ps.length
    · rw [← r.length]; exact hl
    · rw [if_neg hl] at R; exact R.elim
  obtain ⟨oc, od, kV, doc, pm, an, cdv, ct, osl, rfl, lk, hcd⟩ := F.ex
  refine fn_of lk hcd S hlen fun A outer s H vs Q E hr h => ?_
  refine ⟨_, hbody cdv A outer s H E hr xt_def xr_def, ?_⟩
  have hl := hlen vs H Q E h
  obtain ⟨O, ds, st, W, r, R⟩ := h
  have hd : ds.length = ps.length := by rw [r.length]; exact hl
  unfold runX at R
  rw [if_pos hd] at R
  refine ⟨O, ds.map some ++ List.replicate (N.length - ps.length) none, st, W, ?_, ?_⟩
  · unfold L2.start
    rw [hl]
    exact renv_start (N := N) _ r
  · cases hg : g (ds.map some ++ List.replicate (N.length - ps.length) none) st with
    | nx ρ st' => rw [hg] at R; exact fun O' H' σ kp W' _ => R O' H' kp W' _ (Rep.non_i.mpr rfl)
    | rt d st' => rw [hg] at R; exact fun O' H' v kp W' rv => R O' H' kp W' v rv
    | exc c st' => rw [hg] at R; exact R
    | bad => rw [hg] at R; exact R
    | bk ρ st' => rw [hg] at R; exact R.elim
    | ct ρ st' => rw [hg] at R; exact R.elim
end
theorem exc_obj {K : PySem.W.Frag} {h : Heap} {C : Addr} {bmB : List Value} {newId : String} (X : K.In h) (q : PySem.W.excIn K C bmB newId = true) :
    ∃ bm N nm qn bs hdct sn sub ab col dd k0 k1 k2 k3 k5 mN, h.get? C = some (excClassObj nm qn C N bs bm hdct sn sub ab col dd k0 k1 k2 k3 k5 newId) ∧ h.Ns N mN ∧ mN "__init__" = none ∧ OwnTail h bmB bm := by
  unfold PySem.W.excIn at q
  split at q
  · rename_i dd cd sl ho
    split at q
    · rename_i C' bm k0 k1 k2 k3 n k5 hm hs
      simp only [Bool.and_eq_true, beq_iff_eq, Bool.not_eq_true'] at q
      obtain ⟨⟨⟨⟨⟨e1, e2⟩, e3⟩, e4⟩, e5⟩, e6⟩ := q
      subst e1 e2
      cases cd with
      | mk nm bs mro ns qn hd sn sub ab col del =>
        dsimp only at hm e3 e5 e6
        subst hm e3
        have hsl : sl = #[k0, k1, k2, k3, some (.builtin n), k5] := by
          cases sl with
          | mk l => simp only at hs; rw [hs]
        subst hsl
        exact ⟨bm, ns, nm, qn, bs, hd, sn, sub, ab, col, dd, k0, k1, k2, k3, k5, _, X _ _ ho, .of_isNs (PySem.W.isNs_of_in X e5), PySem.W.nsMap_none_of_in X e5 e6, PySem.W.tail_of_in X e4⟩
    · cases q
  · cases q
section
variable {X : Cx} {EX : EXT} {e : Expr} {es : List Expr} {pos cpos p : Pos} {x : Str} {C : Addr} {g : DA} {B newId initId : String} {bmB : List Value}
noncomputable def sRaise (C : Addr) (g : DA) : DS := fun ρ st => (g ρ st).to fun ds st1 => if ds.length ≤ small then .exc C st1 else .bad
theorem pd_raise (hx : XR X EX) (hc : X.calm = true) (hg : Gl X x) (hm : X.mg x = some (.ref C)) (hq : PySem.W.excIn X.K C bmB newId = true) (FB : ExcBaseFacts B newId initId bmB) (ha : PDA X EX (e :: es) g)
    (hdb : (x == ("__debug__" : Str)) = false := by decide) (he : starEach (e :: es) X.env = (false, eval e X.env) :: starEach es X.env := by rfl) (hpl : (backTo cpos (starEach es X.env)).any (·.1) = false := by rfl) :
    PDs X EX (.Raise (some (.Call (.Name x p) (e :: es) [] cpos)) none pos) (sRaise C g) := by
  rintro pins s σ H D I ⟨O, ρ, st, W, Ev, R⟩
  obtain ⟨bm, N, nm, qn, bs, hdct, sn, sub, ab, col, dd, k0, k1, k2, k3, k5, mN, hC, hN, hni, T⟩ := exc_obj I.ok.mod.kin hq
  refine wpAny_Raise_call_subT (C := C) (nm := nm) (q := qn) (N := N) (bs := bs) (bm := bm) (hdct := hdct) (sn := sn) (sub := sub) (ab := ab) (col := col) (dd := dd) (k0 := k0) (k1 := k1) (k2 := k2) (k3 := k3) (k5 := k5)
    FB (mN := mN) (T.hasType FB.hasBase) (I.ok.hd hc) (by rw [he]; show (false || (backTo cpos (starEach es X.env)).any (·.1)) = false; rw [hpl]; rfl) hni (ld_glob I hg hm ⟨rfl, ?_⟩ hdb)
  have h0 := ha cpos pins s σ H (fun vs H' => vs.length ≤ sizeLine ∧ ∃ st O, EX C st O H') I ⟨O, ρ, st, W, Ev, R.to.mono fun ds st1 O1 H1 k1 W1 R1 vs rs => by
    by_cases hz : ds.length ≤ small
    · rw [if_pos hz] at R1
      exact ⟨by rw [← rs.length]; exact Nat.le_trans hz small_le, st1, O1, R1 O1 H1 Keep.refl W1⟩
    · rw [if_neg hz] at R1; exact R1.elim⟩
  rw [he] at h0 ⊢
  refine Calls.evalArgs_plain (wpAny_mono h0 (fun us s2 h2 => ?_) fun _ _ y => y)
  obtain ⟨vs, H2, I2, rv, hl, st2, O2, hE⟩ := h2
  exact ⟨rfl, by rw [← rv.length]; exact hl, I2.bk _ _ hC, hN.keeps I2.bk, T.keeps I2.bk, fun h' e hm => hx.raise pins σ H2 s2 C e h' us I2 hm ⟨st2, O2, hE⟩⟩
end
structure FnX (P : Program) (w : World) (K : PySem.W.Frag) (mg : Str → Option Value) (base : Heap) (x : Str) (k : Nat) (F : FD) : Prop where
  ex : ∃ (f : Addr) (fd : FuncData) (ps : List Str), FnOk P w K mg base (CXr P w) k f fd ps (spD K F) ∧ mg x = some (.ref f) ∧ PySem.W.keepIn K (.ref f) = true ∧ Binds K fd ps []
structure MtX (P : Program) (w : World) (K : PySem.W.Frag) (mg : Str → Option Value) (base : Heap) (C : Addr) (m : Str) (k : Nat) (F : FD) : Prop where
  ex : ∃ (f : Addr) (fd : FuncData) (ps : List Str), FnOk P w K mg base (CXr P w) k f fd ps (spD K F) ∧ Meth K C m f ∧ Binds K fd ps []
section
variable {X : Cx} {EX : EXT} {e o : Expr} {es : List Expr} {pos p apos : Pos} {x m : Str} {k j : Nat} {F : FD} {g : DA} {C : Addr} {fo : DE}
theorem pd_mtX {pl : Sem Bool} (h : MtX X.prog X.w X.K X.mg X.base C m j F) (hx : XT X EX) (c : Cls X.K C) (hr : Room k X.A) (hj : j ≤ k) (he : PD X EX o fo) (ha : PDA X EX (e :: es) g)
    (hst : starEach (e :: es) X.env = (false, eval e X.env) :: starEach es X.env := by rfl) (hpl : (backTo pos (starEach es X.env)).any (·.1) = false := by rfl)
    (ht : eval (.Call (.Attribute o m apos) (e :: es) [] pos) X.env = (do
      let ov ← eval o X.env
      standAt apos.atName
      let (f, first) ← holding [ov] (getMethod ov m pl)
      callWith pos f first (backTo pos (starEach (e :: es) X.env)) (backToKw pos (keywordEach [] X.env))) := by rfl) :
    PD X EX (.Call (.Attribute o m apos) (e :: es) [] pos) (dMeth C m F fo g) := by
  obtain ⟨f, fd, ps, G, hm, hb⟩ := h.ex
  exact pd_meth he c hm G (hr.mono hj) hb hx.pass ha hst hpl ht
theorem pd_mtX0 {pl : Sem Bool} (h : MtX X.prog X.w X.K X.mg X.base C m j F) (hx : XT X EX) (c : Cls X.K C) (hr : Room k X.A) (hj : j ≤ k) (he : PD X EX o fo)
    (ht : eval (.Call (.Attribute o m apos) [] [] pos) X.env = (do
      let ov ← eval o X.env
      standAt apos.atName
      let (f, first) ← holding [ov] (getMethod ov m pl)
      callWith pos f first (backTo pos (starEach [] X.env)) (backToKw pos (keywordEach [] X.env))) := by rfl) :
    PD X EX (.Call (.Attribute o m apos) [] [] pos) (dMeth C m F fo dNil) := by
  obtain ⟨f, fd, ps, G, hm, hb⟩ := h.ex
  exact pd_meth0 he c hm G (hr.mono hj) hb hx.pass ht
end
section
variable {P : Program} {w : World} {K : PySem.W.Frag} {mg : Str → Option Value} {base : Heap}
theorem mtXAt {x qual : Str} {st : Stmt} {f C : Addr} {fd : FuncData} {N ps : List Str} {k : Nat} {g : DS} (F : Fun K x qual st f fd) (S : FnScope N ps (defScope st)) (hm : Meth K C x f) (hb : Binds K fd ps [])
    (hbody : ∀ (cdv : Value) (A : Around) (outer : List Env) (s : Shared) (H : Hp) (E : XK), Room k (A.deeper (envOfC qual (defScope st) s.heap.objs.size f cdv)) → XT (cxOf (CXr P w) P w K mg base N qual (defScope st) f cdv A outer s H E) (exOf E) →
      XR (cxOf (CXr P w) P w K mg base N qual (defScope st) f cdv A outer s H E) (exOf E) → PDS (cxOf (CXr P w) P w K mg base N qual (defScope st) f cdv A outer s H E) (exOf E) (defBody st) g) : MtX P w K mg base C x (k + 1) (runX N.length ps.length g) :=
  ⟨f, fd, ps, fnX F S hbody, hm, hb⟩
end
end DL

end
section
set_option Elab.async false
set_option linter.all false
set_option maxRecDepth 100000
namespace DL
open PySem PySem.Spec PyProof.Rows L2
noncomputable abbrev Cx.at (X : Cx) (A : Around) (pn : List (Addr × Obj)) (E : Value → Shared → Prop) : Cx := { X with A := A, calm := false, pn := pn, xe := E }
theorem inv_at {X : Cx} {pins : List (Addr × Obj)} {σ σ' : L2.St} {H : Hp} {s : Shared} (I : Inv X pins σ H s) {A : Around} (hA : A.frames = X.A.frames) (E : Value → Shared → Prop) (hl : σ'.length = σ.length) (w : ∀ (i : Nat) v, σ'[i]? = some (some v) → σ[i]? = some (some v)) :
    Inv (Cx.at X A (X.pn ++ pins) E) [] σ' H s := by
  have J := I.weak hl w
  have k := I.ok
  exact ⟨⟨k.mod, k.kind, k.glob, k.blt, k.above, k.inj, k.has, k.cab, fun z => (by cases z), hA.trans k.frames, k.stk, k.exf, k.bs, k.bsz, k.noex, k.exfs, k.funs, k.frf⟩,
    J.os, J.bare, J.base, J.loc, J.cell, J.free, J.freeC, fun p hp => J.pin p (by rw [List.append_nil] at hp; exact hp), J.hok, J.len⟩
noncomputable abbrev Cx.pinned (X : Cx) (pn : List (Addr × Obj)) (E : Value → Shared → Prop) : Cx := { X with pn := pn, xe := E }
theorem inv_pinned {X : Cx} {pins : List (Addr × Obj)} {σ : L2.St} {H : Hp} {s : Shared} (I : Inv X pins σ H s) (E : Value → Shared → Prop) : Inv (Cx.pinned X (X.pn ++ pins) E) [] σ H s := by
  have k := I.ok
  exact ⟨⟨k.mod, k.kind, k.glob, k.blt, k.above, k.inj, k.has, k.cab, k.hd, k.frames, k.stk, k.exf, k.bs, k.bsz, k.noex, k.exfs, k.funs, k.frf⟩,
    I.os, I.bare, I.base, I.loc, I.cell, I.free, I.freeC, fun p hp => I.pin p (by rw [List.append_nil] at hp; exact hp), I.hok, I.len⟩
theorem inv_unpinned {X : Cx} {pins p2 : List (Addr × Obj)} {σ : L2.St} {H : Hp} {s : Shared} {E : Value → Shared → Prop} (I : Inv (Cx.pinned X (X.pn ++ pins) E) p2 σ H s) : Inv X pins σ H s := by
  have k := I.ok
  exact ⟨⟨k.mod, k.kind, k.glob, k.blt, k.above, k.inj, k.has, k.cab, k.hd, k.frames, k.stk, k.exf, k.bs, k.bsz, k.noex, k.exfs, k.funs, k.frf⟩,
    I.os, I.bare, I.base, I.loc, I.cell, I.free, I.freeC, fun p hp => I.pin p (List.mem_append_left _ hp), I.hok, I.len⟩
theorem inv_back {X : Cx} {pins p2 : List (Addr × Obj)} {σ : L2.St} {H : Hp} {s : Shared} {A : Around} {E : Value → Shared → Prop} (k : X.Ok) (I : Inv (Cx.at X A (X.pn ++ pins) E) p2 σ H s) : Inv X pins σ H s :=
  ⟨k, I.os, I.bare, I.base, I.loc, I.cell, I.free, I.freeC, fun p hp => I.pin p (List.mem_append_left _ hp), I.hok, I.len⟩
theorem inv_gone {X : Cx} {pins : List (Addr × Obj)} {σ : L2.St} {H : Hp} {s : Shared} {m : Str → Option Value} {h' : Heap} {v : Option Value} {n : Str} {i t' : Nat} (I : Inv X pins σ H s) (hn : s.heap.Ns X.env.locals m) (hi : X.N[i]? = some n) (hN : X.N.Nodup) 
    (hl : ∀ (i : Nat) (x : Str) (v : V), X.N[i]? = some x → σ[i]? = some (some v) → Vis X.env.scope x → ∃ u, RelV v u ∧ Look X.env s.heap m x u)
    (hn' : h'.Ns X.env.locals (fun x => if x = n then v else m x)) (hs : Heap.SameBut X.env.locals s.heap h') : Inv X pins (σ.set i none) H { s with heap := h', toks := t' } := by
  have cne := I.cne
  have old : ∀ b o, X.s₀.heap.get? b = some o → b ≠ X.env.locals := fun b o e => Nat.ne_of_lt (Nat.lt_of_lt_of_le (Heap.lt_size e) I.ok.above)
  refine ⟨I.ok, I.os, I.bare, ⟨fun b o e n hb hx => ?_, fun b o e n hb hx => ?_, I.base.free, fun b o e hx => ?_, I.base.tups, I.base.frzs, I.base.tbls⟩, ⟨_, hn', fun j y w e1 e2 e3 => ?_⟩, fun y c e => ?_, I.free, I.freeC, fun p hp => ?_, fun b ob e => ?_, by simpa using I.len⟩
  · exact (hs.2 b (old b o e)).trans (I.base.keep b o e n hb hx)
  · obtain ⟨sl, e1⟩ := I.base.slot b o e n hb hx
    exact ⟨sl, (hs.2 b (old b o e)).trans e1⟩
  · obtain ⟨o', e1⟩ := I.base.there b o e hx
    exact ⟨o', (hs.2 b (old b o e)).trans e1⟩
  · by_cases hj : i = j
    · subst hj
      rw [List.getElem?_set] at e2
      simp at e2
    · rw [List.getElem?_set_ne hj] at e2
      obtain ⟨u, r, q⟩ := hl j y w e1 e2 e3
      refine ⟨u, r, ?_⟩
      rcases q with ⟨k, e⟩ | ⟨k, c, e, z⟩
      · refine .inl ⟨k, ?_⟩
        have : y ≠ n := fun e => hj (nodup_ix hN hi (e ▸ e1))
        simp [this, e]
      · exact .inr ⟨k, c, e, z.sameBut hs (cne y c e)⟩
  · obtain ⟨w', z⟩ := I.cell y c e
    exact ⟨w', z.sameBut hs (cne y c e)⟩
  · obtain ⟨e, n, ne, nf, d⟩ := I.pin p hp
    exact ⟨(hs.2 p.1 ne).trans e, n, ne, nf, d⟩
  · refine (I.hok b ob e).stay (fun c w' hc q => (hs.2 c ?_).trans q) (fun _ q => q) fun _ _ q => q
    rintro rfl
    rcases hc with rfl | hc
    · rw [I.free] at e; cases e
    · rw [I.free] at hc; cases hc
theorem name_gone {X : Cx} {pins : List (Addr × Obj)} {σ : L2.St} {H : Hp} {s : Shared} {M : Model} {A : Around} {E : Value → Shared → Prop} {n : Str} {i : Nat} {pos : Pos} {Q : Unit → Shared → Prop} (I : Inv X pins σ H s) (hN : X.N.Nodup) (hi : X.N[i]? = some n) (hl : X.env.scope.names.lookup n = some .local)
    (h : ∀ s', Inv X pins (σ.set i none) H s' → Q () s') : wpAny M A (do bindName X.env n .none; unbindBehindTheSuite X.env n pos) Q E s := by
  obtain ⟨m, hn, hlk⟩ := id I.loc
  exact wpAny_nameGoes_keeps hl hn (by rw [I.ok.kind]; rfl) fun h' v hn' hs => h _ (inv_gone I hn hi hN hlk hn' hs)
structure RoomH (k : Nat) (A : Around) : Prop where
  dp : A.depth + 3 * k + 5 < recursionLimit
  un : A.units + 16 * k + 200 < cLine
theorem RoomH.mono {j k : Nat} {A : Around} (r : RoomH k A) (h : j ≤ k) : RoomH j A := ⟨by have := r.dp; omega, by have := r.un; omega⟩
theorem RoomH.deeper {k : Nat} {A : Around} (r : RoomH (k + 1) A) (env : Env) : RoomH k (A.deeper env) := ⟨by have := r.dp; show A.depth + 1 + 3 * k + 5 < _; omega, by have := r.un; show A.units + 3 + 16 * k + 200 < _; omega⟩
theorem RoomH.of {k : Nat} {A : Around} (r : Room k A) (e : Option Value) : RoomH k (A.mark e) := ⟨r.dp, r.un⟩
theorem RoomH.units {k : Nat} {A : Around} (r : RoomH k A) : A.units + 64 < cLine := by have := r.un; omega
structure FnH (P : Program) (w : World) (K : PySem.W.Frag) (mg : Str → Option Value) (base : Heap) (k : Nat) (f : Addr) (fd : FuncData) (ps : List Str) (sp : Sp) : Prop where
  len : ∀ vs H Q E, sp vs H Q E → vs.length = ps.length
  run : ∀ (A : Around) (outer : List Env) (s : Shared) (H : Hp) (args : Args) (us : List Value) (vs : List V) (Q : VK), RoomH k A → Env0 P w K mg base A outer s H → BindsTo s fd args (ps.zip us) → Vals vs us → sp vs H Q E0 →
    codeAny (model P w) A (.call (.ref f) args) (CR CX0 outer P w H s Q E0) s
noncomputable abbrev cxH (P : Program) (w : World) (K : PySem.W.Frag) (mg : Str → Option Value) (base : Heap) (N : List Str) (qual : Str) (scope : Scope) (f : Addr) (cd : Value) (A : Around) (outer : List Env) (s : Shared) (H : Hp) : Cx :=
  Cx.at (cxOf CX0 P w K mg base N qual scope f cd A outer s H E0) (A.deeper (envOfC qual scope s.heap.objs.size f cd)) [] fun _ _ => False
section
variable {P : Program} {w : World} {K : PySem.W.Frag} {mg : Str → Option Value} {base : Heap}
theorem fnH_of {x qual : Str} {st : Stmt} {f : Addr} {fd : FuncData} {N ps : List Str} {k : Nat} {sp : Sp} (F : Fun K x qual st f fd) (S : FnScope N ps (defScope st)) (len : ∀ vs H Q E, sp vs H Q E → vs.length = ps.length)
    (hbody : ∀ (cdv : Value) (A : Around) (outer : List Env) (s : Shared) (H : Hp) (vs : List V) (Q : VK), RoomH k (A.deeper (envOfC qual (defScope st) s.heap.objs.size f cdv)) → sp vs H Q E0 →
      ∃ t, PSs (cxH P w K mg base N qual (defScope st) f cdv A outer s H) (defBody st) t ∧ t { nx := fun _ H' => Q .non H', rt := Q } (start N vs) H) : FnH P w K mg base (k + 1) f fd ps sp := by
  obtain ⟨oc, od, kV, doc, pm, an, cdv, ct, osl, rfl, lk, hcd⟩ := F.ex
  refine ⟨len, fun A outer s H args us vs Q hr e0 hb r hsp => ?_⟩
  have hl := len _ _ _ _ hsp
  have KX : K.In s.heap := e0.mod.kin.keeps fun b o e => (e0.bs b o e).1
  have lim : s.heap.NoLimit := e0.mod.nolimit.keeps fun b o e => (e0.bs b o e).1
  have hkind : ∀ y ∈ ps.zip us, (defScope st).names.lookup y.1 = some .local ∨ ((defScope st).names.lookup y.1 = some .cell ∧ ((cellsFrom (s.heap.objs.size + 1) (defScope st).names []).lookup y.1).isSome = true) := by
    rintro ⟨n, v⟩ hy
    rcases S.par n (List.of_mem_zip hy).1 with q | q
    · exact .inl q
    · exact .inr ⟨q, PySem.W.cellsFrom_some _ _ _ (.inl q)⟩
  refine codeAny_call_function (by have := hr.dp; omega) (KX _ _ lk) rfl S.co S.gen rfl (PySem.W.codeRec_of KX hcd) (hb _ _ _ _ ?_)
  refine wpAny_newFunctionEnv_cells S.kind hkind fun env he s1 x => ?_
  subst he
  refine ⟨lim.keeps x.toInCall.keep, codeAny_func ?_⟩
  obtain ⟨t, ht, hq⟩ := hbody cdv A outer s H vs Q (hr.deeper _) hsp
  have e1 : Env0 P w K mg base { A with handled := none } outer s H := ⟨e0.frames, e0.mod, e0.bs, e0.bsz, e0.funs, e0.frf, e0.hok, e0.bare⟩
  have I1 : Inv (cxOf CX0 P w K mg base N qual (defScope st) f cdv { A with handled := none } outer s H E0) [] (start N vs) H s1 := inv_start S rfl e1 hl r x
  have I : Inv (cxH P w K mg base N qual (defScope st) f cdv A outer s H) [] (start N vs) H s1 := inv_at (A := A.deeper (envOfC qual (defScope st) s.heap.objs.size f cdv)) I1 rfl (fun _ _ => False) rfl fun _ _ z => z
  refine wpAny_mono (ht [] s1 (start N vs) H _ I hq) (fun fl s' hs => ?_) fun e s' hs => hs.elim
  have fin : ∀ {σ' : L2.St} {H' : Hp} {v : V} {u : Value}, Inv (cxH P w K mg base N qual (defScope st) f cdv A outer s H) [] σ' H' s' → RelV v u → Q v H' → CE outer P w H s Q u s' :=
    fun {σ' H' v u} J rv q => ⟨v, H', J.os, J.bare, J.base, J.hok, rv, q⟩
  cases fl with
  | ret u =>
    obtain ⟨v, σ', H', J, rv, q⟩ := hs
    exact fin J rv q
  | next =>
    obtain ⟨σ', H', J, q⟩ := hs
    exact fin (v := V.non) (u := Value.none) J rfl q
  | brk =>
    obtain ⟨_, _, _, q⟩ := hs
    exact False.elim q
  | cont =>
    obtain ⟨_, _, _, q⟩ := hs
    exact False.elim q
structure FnHAt (P : Program) (w : World) (K : PySem.W.Frag) (mg : Str → Option Value) (base : Heap) (x : Str) (k : Nat) (F : FD) : Prop where
  ex : ∃ (f : Addr) (fd : FuncData) (ps : List Str), FnH P w K mg base k f fd ps (spD K F) ∧ mg x = some (.ref f) ∧ PySem.W.keepIn K (.ref f) = true ∧ Binds K fd ps []
theorem fnHAt {x qual : Str} {st : Stmt} {f : Addr} {fd : FuncData} {N ps : List Str} {k : Nat} {g : DS} (F : Fun K x qual st f fd) (S : FnScope N ps (defScope st)) (hm : mg x = some (.ref f)) (hb : Binds K fd ps [])
    (hbody : ∀ (cdv : Value) (A : Around) (outer : List Env) (s : Shared) (H : Hp), RoomH k (A.deeper (envOfC qual (defScope st) s.heap.objs.size f cdv)) →
      PDS (cxH P w K mg base N qual (defScope st) f cdv A outer s H) EX0 (defBody st) g) : FnHAt P w K mg base x (k + 1) (runF N.length ps.length g) := by
  have hlen : ∀ vs H Q E, spD K (runF N.length ps.length g) vs H Q E → vs.length = ps.length := by
    rintro vs H Q E ⟨O, ds, st, W, r, R⟩
    unfold runF at R
    by_cases hl : ds.length = ps.length
    · rw [← r.length]; exact hl
    · rw [if_neg hl] at R; exact R.elim
  refine ⟨f, fd, ps, fnH_of F S hlen fun cdv A outer s H vs Q hr h => ?_, hm, F.kp, hb⟩
  refine ⟨_, hbody cdv A outer s H hr, ?_⟩
  have hl := hlen vs H Q E0 h
  obtain ⟨O, ds, st, W, r, R⟩ := h
  have hd : ds.length = ps.length := by rw [r.length]; exact hl
  unfold runF at R
  rw [if_pos hd] at R
  refine ⟨O, ds.map some ++ List.replicate (N.length - ps.length) none, st, W, ?_, ?_⟩
  · unfold L2.start
    rw [hl]
    exact renv_start (N := N) _ r
  · cases hg : g (ds.map some ++ List.replicate (N.length - ps.length) none) st with
    | nx ρ st' => rw [hg] at R; exact fun O' H' σ kp W' _ => R O' H' kp W' _ (Rep.non_i.mpr rfl)
    | rt d st' => rw [hg] at R; exact fun O' H' v kp W' rv => R O' H' kp W' v rv
    | exc c st' => rw [hg] at R; exact R.elim
    | bad => rw [hg] at R; exact R
    | bk ρ st' => rw [hg] at R; exact R.elim
    | ct ρ st' => rw [hg] at R; exact R.elim
end
section
variable {X : Cx} {EX : EXT} {e : Expr} {es : List Expr} {pos p : Pos} {x : Str} {k j : Nat} {F : FD} {g : DA}
theorem pd_fnH (h : FnHAt X.prog X.w X.K X.mg X.base x j F) (hr : RoomH k X.A) (hj : j ≤ k) (hg : Gl X x) (ha : PDA X EX0 (e :: es) g)
    (hdb : (x == ("__debug__" : Str)) = false := by decide) (he : starEach (e :: es) X.env = (false, eval e X.env) :: starEach es X.env := by rfl) (hpl : (backTo pos (starEach es X.env)).any (·.1) = false := by rfl) :
    PD X EX0 (.Call (.Name x p) (e :: es) [] pos) (dCall F g) := by
  obtain ⟨f, fd, ps, G, hm, hk, hb⟩ := h.ex
  rintro pins s σ H Q I ⟨O, ρ, st, W, Ev, R⟩
  refine wpAny_Call_Name_kw (ld_glob I hg hm ?_ hdb)
  refine PySem.W.callWith_K (h₀ := X.base) I.ok.mod.kin hk (thn (ha pos pins s σ H (fun vs H1 => spD X.K F vs H1 Q E0) I ⟨O, ρ, st, W, Ev, R.bind.mono fun ds st1 O1 H1 k1 W1 R2 vs r => ⟨O1, ds, st1, W1, r, R2.ex fun _ _ _ _ z => z.elim⟩⟩) fun us s1 ⟨vs, H1, I1, r, q⟩ => ⟨I1.kIn, ?_⟩) he hpl
  have hl : us.length = ps.length := by rw [← r.length]; exact G.len _ _ _ _ q
  refine wpAny_call (codeAny_mono (G.run X.A X.stack s1 H1 ⟨us, []⟩ us vs Q (hr.mono hj) I1.env0 (by have := hb s1 us I1.kIn (by rw [List.append_nil]; exact hl); rwa [List.append_nil] at this) r q) fun r s' hq => ?_)
  cases r with
  | error e => exact hq.elim
  | ok fl =>
    cases fl with
    | ret u => exact I1.after hq
    | next => exact False.elim hq
    | brk => exact False.elim hq
    | cont => exact False.elim hq
end
end DL

end
section
set_option Elab.async false
set_option linter.all false
set_option maxRecDepth 100000
namespace DL
open PySem PySem.Spec PyProof.Rows L2
structure ExcK (K : PySem.W.Frag) (C : Addr) : Prop where
  nt : PySem.W.instIn K (.ref C) (.type "tuple") = some false
  ty : (PySem.W.clsIn K C).isSome = true
  sb : PySem.W.subIn K (.ref C) (.type "BaseException") = some true
theorem isType_in {K : PySem.W.Frag} {M : Model} {h : Heap} {C : Addr} (X : K.In h) (e : (PySem.W.clsIn K C).isSome = true) : PySem.W.Looks M h (isType (.ref C)) true := by
  unfold PySem.W.clsIn at e
  split at e
  · rename_i c' d' cd' sl' ho
    intro A' Q' E' s' k q
    unfold isType loadHead
    exact wpAny_bind (wpAny_loadPart (k _ _ (X _ _ ho)) (wpAny_pure q))
  · cases e
theorem exc_ty {M : Model} {h : Heap} {e C : Addr} (x : ExcO e C h) : PySem.W.Looks M h (typeOf (.ref e)) (.ref C) := by
  obtain ⟨o, vs, h1, h2, _⟩ := x
  exact h2 ▸ (PySem.W.Looks.ld h1).andThen .now
theorem exc_matches {M : Model} {A : Around} {E : Value → Shared → Prop} {s : Shared} {K : PySem.W.Frag} {e C Cb : Addr} {Q : Bool → Shared → Prop} (X : K.In s.heap) (hx : ExcO e C s.heap) (k : ExcK K Cb) (hs : PySem.W.subIn K (.ref C) (.ref Cb) = some true) (h : Q true s) :
    wpAny M A (excMatches (.ref e) (.ref Cb)) Q E s := by
  obtain ⟨hh, g, d, tt, os⟩ := s
  have L1 := PySem.W.looks_instIn (M := M) X k.nt
  have L2 := isType_in (M := M) X k.ty
  have L3 := PySem.W.looks_subIn (M := M) X k.sb
  have L4 := exc_ty (M := M) hx
  have L5 := PySem.W.looks_subIn (M := M) X hs
  have L6 : PySem.W.Looks M hh (isExcClass (.ref Cb)) true := by
    unfold isExcClass
    exact L2.andThen (by rw [if_pos rfl]; exact L3)
  unfold excMatches
  repeat (first | with_reducible refine wpAny_bind (L1.at ?_) | with_reducible refine L1.at ?_ | with_reducible refine L6.at ?_ | with_reducible refine L4.at ?_ | with_reducible refine L5.at ?_ | wp_step)
  exact h
theorem un_track {fs ex : List Addr} {H H' : Hp} {h h' : Heap} {a : Addr} {o : HO} (u : Un fs ex H H' h h') (hn : h.get? a = none) (hq : H' a = none) : Un fs ex H (upd H' a o) h h' := by
  refine ⟨u.keep, u.slot, fun b ob q n hx => ?_, u.there, fun b xs q => ?_, fun b ob v q => ?_, fun b ps q => ?_⟩
  · rw [upd_ne (by rintro rfl; rw [hn] at q; cases q)]
    exact u.free b ob q n hx
  · have z := u.tups b xs q
    rw [upd_ne (ne_of_none z hq)]
    exact z
  · have z := u.frzs b ob v q
    rw [upd_ne (ne_of_none z hq)]
    exact z
  · obtain ⟨m, z⟩ := u.tbls b ps q
    exact ⟨m, by rw [upd_ne (ne_of_none z hq)]; exact z⟩
theorem hok_track {P : Program} {w : World} {H : Hp} {h : Heap} {a : Addr} {o : HO} (x : HOk P w H h) (hq : H a = none) (new : ObjOk P w (upd H a o) h a o) : HOk P w (upd H a o) h := fun b u e => by
  by_cases hb : b = a
  · subst hb; rw [upd_same] at e; cases e; exact new
  · rw [upd_ne hb] at e
    exact (x b u e).stay (fun _ _ _ q => q) (fun c q => by rw [upd_ne (ne_of_none q hq)]; exact q) fun c xs q => by rw [upd_ne (ne_of_none q hq)]; exact q
theorem excO_stays {a C : Addr} : ∀ h1 h2 : Heap, ExcO a C h1 → (∀ o, h1.get? a = some o → h2.get? a = some o) → ExcO a C h2 := fun h1 h2 ⟨o, vs, e, c, d⟩ k => ⟨o, vs, k o e, c, d⟩
theorem excO_fly {B h : Heap} {l : List Env} {e C : Addr} {a0 : Value} (x : Heap.FlyingW B l e (.ref C) a0 h) : ExcO e C h := by
  obtain ⟨oe, vs, h1, h2, h3, _⟩ := x.first
  exact ⟨oe, vs, h1, h2, h3⟩
theorem land {X : Cx} {pins : List (Addr × Obj)} {σ : L2.St} {H1 H' : Hp} {s1 s' : Shared} {e : Value} {ea C : Addr} {a0 : Value} {B h' : Heap} (I : Inv X pins σ H1 s1) (F : Flies X.prog X.w X.stack H1 s1 e s' ea C a0 B H') (fl : Heap.FlyingW B X.stack ea (.ref C) a0 h') (up : s'.heap.UpToSlots h') :
    Inv X pins σ (upd H' ea (.ext (ExcO ea C))) { s' with heap := h' } := by
  obtain ⟨z1, z2, z3, z4⟩ := carry (P := X.prog) (w := X.w) (outer := X.stack) (stack := X.stack) (H := H1) (h := s1.heap) Un.refl F.un F.hok F.fly.2.2.1 F.c1 F.c2 fl.1 up (fun _ _ _ z => z) (fun _ z => z)
  have x := excO_fly fl
  have z5 : HOk X.prog X.w (upd H' ea (.ext (ExcO ea C))) h' := hok_track z2 F.new ⟨x, (let ⟨o, _, e, _⟩ := x; ⟨o, e⟩), excO_stays⟩
  exact I.call' (s' := { s' with heap := h' }) (ch := []) F.os (un_track z1 F.fresh F.new) z5 F.bare fun b z => absurd z (by simp)
theorem REnv.unset {K : PySem.W.Frag} {O : List Addr} {H : Hp} {ρ : Ev} {σ : L2.St} (E : REnv K O H ρ σ) (i : Nat) : REnv K O H (ρ.set i none) (σ.set i none) := by
  refine ⟨by rw [List.length_set, List.length_set, E.len], fun j d h => ?_⟩
  by_cases hij : i = j
  · subst hij
    rw [List.getElem?_set] at h
    simp at h
  · rw [List.getElem?_set_ne hij] at h
    obtain ⟨u, h1, h2⟩ := E.at_ j d h
    exact ⟨u, by rw [List.getElem?_set_ne hij]; exact h1, h2⟩
theorem REnv.blank {K : PySem.W.Frag} {O : List Addr} {H : Hp} (n : Nat) : REnv K O H (List.replicate n none) (List.replicate n none) := by
  refine ⟨by simp, fun i d h => ?_⟩
  rw [List.getElem?_replicate] at h
  split at h <;> cases h
noncomputable def handAs (n i : Nat) (gh : DS) (c : Addr) (st : Sto) : OutS := match gh ((List.replicate n none).set i (some (.exv c))) st with
  | .rt d st' => .rt d st'
  | .nx ρ st' => .nx (ρ.set i none) st'
  | _ => .bad
noncomputable def sTry (cs : List Addr) (hand : Addr → Sto → OutS) (g : DS) : DS := fun ρ st => match g ρ st with
  | .exc c st' => if c ∈ cs then hand c st' else .bad
  | r => r
section
variable {X : Cx} {EX : EXT} {body suite : List Stmt} {b₀ : Stmt} {pos hpos np : Pos} {x n : Str} {Cb : Addr} {cs : List Addr} {g gh : DS} {i : Nat}
theorem pd_try {h₀ : ExceptHandler} {hand : Addr → Sto → OutS} (hb : ∀ pn E' EX', XT (Cx.pinned X pn E') EX' → PDS (Cx.pinned X pn E') EX' body g)
    (hh : ∀ (pins pins' : List (Addr × Obj)) (σ : L2.St) (H1 H' : Hp) (s1 s' : Shared) (ea C : Addr) (a0 : Value) (B : Heap) (E' : Value → Shared → Prop) (D : Ends) (O : List Addr) (st : Sto), Inv (Cx.pinned X (X.pn ++ pins) E') pins' σ H1 s1 → Flies X.prog X.w X.stack H1 s1 (.ref ea) s' ea C a0 B H' → C ∈ cs → WR X.K O H' st → RunS X.K EX D O H' (hand C st) →
      wpAny (model X.prog X.w) X.A (noteFrame (.ref ea) X.env) (fun _ s₂ => wpAny (model X.prog X.w) X.A (setFlight (.ref ea) none) (fun _ s₃ => wpAny (model X.prog X.w) X.A (handleBy (.ref ea) X.env [h₀]) (SP X pins D) X.xe s₃) X.xe s₂) X.xe s') :
    PDs X EX (.Try body [h₀] [] [] pos) (sTry cs hand g) := by
  rintro pins s σ H D I ⟨O, ρ, st, W, Ev, R⟩
  have key := hb (X.pn ++ pins) (fun e s₁ => wpAny (model X.prog X.w) X.A (noteFrame e X.env) (fun _ s₂ => wpAny (model X.prog X.w) X.A (setFlight e none) (fun _ s₃ => wpAny (model X.prog X.w) X.A (handleBy e X.env [h₀]) (SP X pins D) X.xe s₃) X.xe s₂) X.xe s₁)
    (fun c st O H => c ∈ cs ∧ WR X.K O H st ∧ RunS X.K EX D O H (hand c st)) ⟨?_, PassesOwn.looking⟩ [] s σ H D (inv_pinned I _) ⟨O, ρ, st, W, Ev, ?_⟩
  · refine wpAny_Try_except (wpAny_mono key (fun f s1 q => ?_) fun e s1 z => z)
    cases f with
    | next => obtain ⟨σ', H', J, q⟩ := q; exact wpAny_execs_nil ⟨σ', H', inv_unpinned J, q⟩
    | brk => obtain ⟨σ', H', J, q⟩ := q; exact ⟨σ', H', inv_unpinned J, q⟩
    | cont => obtain ⟨σ', H', J, q⟩ := q; exact ⟨σ', H', inv_unpinned J, q⟩
    | ret u => obtain ⟨v, σ', H', J, r, q⟩ := q; exact ⟨v, σ', H', inv_unpinned J, r, q⟩
  · rintro pins' σ' H1 s1 e s' I1 ⟨ea, C, a0, B, H', F, c, st2, O2, ec, hc, W2, R2⟩
    have ev := F.ev
    subst ev
    cases ec
    exact hh pins pins' σ' H1 H' s1 s' ea C a0 B _ D O2 st2 I1 F hc W2 R2
  · unfold sTry at R
    cases hg : g ρ st with
    | exc c st' =>
      rw [hg] at R
      dsimp only at R
      by_cases hc : c ∈ cs
      · rw [if_pos hc] at R
        exact fun O' H' kp W' => ⟨hc, W', RunS.later R kp⟩
      · rw [if_neg hc] at R; exact R.elim
    | _ => rw [hg] at R; exact R
theorem pd_tryAs (i : Nat) (hk : X.stack = X.env :: X.outer) (hfr : X.env.frame = some X.env.locals) (hN : X.N.Nodup) (hi : X.N[i]? = some n) (hl : X.env.scope.names.lookup n = some .local) (hg : Gl X x) (hm : X.mg x = some (.ref Cb)) (hK : ExcK X.K Cb) (hc : ∀ c ∈ cs, PySem.W.subIn X.K (.ref c) (.ref Cb) = some true)
    (hb : ∀ pn E' EX', XT (Cx.pinned X pn E') EX' → PDS (Cx.pinned X pn E') EX' body g)
    (hh : ∀ pn ea, PDS (Cx.at X (X.A.mark (some (.ref ea))) pn fun _ _ => False) EX0 (b₀ :: suite) gh) (hdb : (x == ("__debug__" : Str)) = false := by decide) :
    PDs X EX (.Try body [.ExceptHandler (some (.Name x np)) (some n) (b₀ :: suite) hpos] [] [] pos) (sTry cs (handAs X.N.length i gh) g) := by
  refine pd_try hb fun pins pins' σ H1 H' s1 s' ea C a0 B E' D O st I1 F hC W R => ?_
  have ff : X.A.frames = some (X.env :: X.outer) := by rw [← hk]; exact I1.ok.frames
  have fl0 : Heap.FlyingW B (X.env :: X.outer) ea (.ref C) a0 s'.heap := by rw [← hk]; exact F.fly
  refine wpAny_looks_onW ff hfr fl0 fun h4 held up4 => ?_
  refine wpAny_landsW held fun h5 fl5 up5 => ?_
  have J5 := inv_unpinned (land I1 F (by rw [show (Cx.pinned X (X.pn ++ pins) E').stack = X.env :: X.outer from hk]; exact fl5) (up4.trans up5))
  have K5 := inv_at (σ' := List.replicate X.N.length none) J5 (A := X.A.mark (some (.ref ea))) rfl (fun _ _ => False) (by rw [List.length_replicate]; exact J5.len.symm) fun j v h => by
    rw [List.getElem?_replicate] at h
    split at h <;> cases h
  refine wpAny_handleBy_cons (codeAny_handlers_test (ld_glob K5 hg hm ?_ hdb)) (by intro q; cases q)
  refine exc_matches K5.kIn (excO_fly fl5) hK (hc C hC) ?_
  refine codeAny_handlers_suite_as (lands_againW fl5 fun h6 fl6 up6 => ?_)
  have J6 := inv_unpinned (land I1 F (by rw [show (Cx.pinned X (X.pn ++ pins) E').stack = X.env :: X.outer from hk]; exact fl6) ((up4.trans up5).trans up6))
  have K6 := inv_at (σ' := List.replicate X.N.length none) J6 (A := X.A.mark (some (.ref ea))) rfl (fun _ _ => False) (by rw [List.length_replicate]; exact J6.len.symm) fun j v h => by
    rw [List.getElem?_replicate] at h
    split at h <;> cases h
  refine store_ok (X := Cx.at X (X.A.mark (some (.ref ea))) (X.pn ++ pins) fun _ _ => False) (i := i) (v := .ref ea) K6 hN hi (.inl hl) rfl (fun s7 I7 => ?_) (.inr hl)
  have E6 : REnv X.K O (upd H' ea (.ext (ExcO ea C))) ((List.replicate X.N.length none).set i (some (.exv C))) ((List.replicate X.N.length none).set i (some (.ref ea))) := (REnv.blank _).set (Rep.exv_i.mpr ⟨ea, rfl, upd_same⟩)
  have kp : Keep X.K O H' O (upd H' ea (.ext (ExcO ea C))) := Keep.laid F.new
  refine wpAny_mono (hh _ ea [] s7 _ _ { nx := fun σ' H' => D.nx (σ'.set i none) H', rt := D.rt } I7 ⟨O, _, st, W.laid F.new, E6, ?_⟩) (fun f s8 q => ?_) fun _ _ z => z.elim
  · unfold handAs at R
    cases hgh : gh ((List.replicate X.N.length none).set i (some (.exv C))) st with
    | rt d st' => rw [hgh] at R; exact RunS.later (r := .rt d st') R kp
    | nx ρ st' =>
      rw [hgh] at R
      exact fun O' H2 σ2 k2 W2 E2 => R O' H2 _ (kp.trans k2) W2 (E2.unset i)
    | _ => rw [hgh] at R; exact R.elim
  · cases f with
    | next =>
      obtain ⟨σ8, H8, I8, q⟩ := q
      exact name_gone (X := Cx.at X (X.A.mark (some (.ref ea))) (X.pn ++ pins) fun _ _ => False) I8 hN hi hl fun s9 I9 => ⟨_, H8, inv_back J6.ok I9, q⟩
    | ret u =>
      obtain ⟨v, σ8, H8, I8, r, q⟩ := q
      exact name_gone (X := Cx.at X (X.A.mark (some (.ref ea))) (X.pn ++ pins) fun _ _ => False) I8 hN hi hl fun s9 I9 => ⟨v, _, H8, inv_back J6.ok I9, r, q⟩
    | brk => obtain ⟨_, _, _, q⟩ := q; exact q.elim
    | cont => obtain ⟨_, _, _, q⟩ := q; exact q.elim
end
end DL

end
section
set_option Elab.async false
set_option linter.all false
set_option maxRecDepth 100000
namespace DL
open PySem PySem.Spec PyProof.Rows L2
structure ExcC (K : PySem.W.Frag) (C : Addr) : Prop where
  ty : PySem.W.isClsIn K C = true
  ga : PySem.W.findIn K (.ref C) "__getattribute__" = some (some (.builtin "BaseException.__getattribute__"))
  gt : PySem.W.findIn K (.ref C) "__getattr__" = some none
  cl : PySem.W.findIn K (.ref C) "__class__" = some (some (.builtin "object.__class__"))
  sb : PySem.W.subIn K (.ref C) (.type "BaseException") = some true
  so : PySem.W.subIn K (.ref C) (.type "object") = some true
section
variable {prog : Program} {w : World} {A : Around} {E : Value → Shared → Prop} {s : Shared} {K : PySem.W.Frag} {a C : Addr}
theorem exc_class_get {R : Result → Shared → Prop} (X : K.In s.heap) (k : ExcC K C) (x : ExcO a C s.heap) (h : R (.ok (.ret (.ref C))) s) :
    codeAny (model prog w) A (.call (.builtin "getset_descriptor.__get__") ⟨[.builtin "object.__class__", .ref a, .ref C], []⟩) R s := by
  obtain ⟨hh, g, d, tt, os⟩ := s
  have L0 := exc_ty (M := model prog w) x
  have L1 := PySem.W.looks_subIn (M := model prog w) X k.so
  have hT5 : (⟨hh, g, d, tt, os⟩ : Shared).TypeIs (.builtin "object.__class__") "getset_descriptor" := F.typeOf_object_class
  refine codeAny_call_builtin F.slot_gs_get.plain F.entry_gs_get (F.slot_gs_get.check _ _ _ _ _ _ _ _ hT5 (F.args_gs_get _ _ _) ?_)
  have ow := F.owner_object_class
  repeat (any_goals (first | assumption | with_reducible refine L0.at ?_ | (rw [ow]; with_reducible refine L1.at ?_) | with_reducible refine L1.at ?_ | wp_step))
  refine ⟨Code.quiet_builtin _ (by decide +kernel), codeAny_builtin F.entry_object_class ?_⟩
  repeat (any_goals (first | assumption | with_reducible refine L0.at ?_ | wp_step))
theorem exc_check_ga {M : Model} {nameV : Value} {Q : Unit → Shared → Prop} (X : K.In s.heap) (k : ExcC K C) (x : ExcO a C s.heap) (h : Q () s) : wpAny M A (checkBuiltinCall "BaseException.__getattribute__" ⟨[.ref a, nameV], []⟩) Q E s := by
  obtain ⟨hh, g, d, tt, os⟩ := s
  have L0 := exc_ty (M := M) x
  have L1 := PySem.W.looks_subIn (M := M) X k.sb
  have hk : builtinKind "BaseException.__getattribute__" = some .slot := by decide +kernel
  have hsplit : splitId "BaseException.__getattribute__" = some ("BaseException", "__getattribute__") := by decide +kernel
  have ha := F.args_bexc_ga (.ref a) nameV
  simp only [checkBuiltinCall, hk, hsplit]
  refine wpAny_bind ?_
  unfold isInstance
  repeat (first | with_reducible refine L0.at ?_ | with_reducible refine L1.at ?_ | wp_step)
  exact h
theorem exc_class_entry {tk : Tok} {Q : Fin → Shared → Prop} (X : K.In s.heap) (k : ExcC K C) (x : ExcO a C s.heap) (h : Q (.done (.ret (.ref C))) s) :
    wpAny (model prog w) A (Builtin.«object.__getattribute__» ⟨[.ref a, .str "__class__" tk], []⟩) Q E s := by
  have X0 := X
  have x0 := x
  obtain ⟨hh, g, d, tt, os⟩ := s
  have L0 := exc_ty (M := model prog w) x
  have L1 := PySem.W.looks_findIn (M := model prog w) X k.cl
  have f5 := F.typeOf_object_class
  have f6 := F.slot_gs_get.lookup
  have f7 := F.slot_gs_set.lookup
  repeat (any_goals (first | assumption | with_reducible refine L0.at ?_ | with_reducible refine L1.at ?_ | wp_step))
  refine exc_class_get X0 k x0 ?_
  repeat (any_goals (first | assumption | wp_step))
theorem exc_class_by {tk : Tok} {Q : Value → Shared → Prop} (X : K.In s.heap) (k : ExcC K C) (x : ExcO a C s.heap) (h : Q (.ref C) s) : wpAny (model prog w) A (getAttrBy (.ref a) (.str "__class__" tk) false) Q E s := by
  have X0 := X
  have x0 := x
  obtain ⟨hh, g, d, tt, os⟩ := s
  have L0 := exc_ty (M := model prog w) x
  have L1 := PySem.W.looks_findIn (M := model prog w) X k.ga
  have L2 := PySem.W.looks_findIn (M := model prog w) X k.gt
  have hx2 : (Value.builtin "BaseException.__getattribute__" == Value.builtin "object.__getattribute__") = false := by decide +kernel
  have hx1 : (onTheHeap (Value.ref C) && Value.builtin "BaseException.__getattribute__" == Value.builtin "object.__getattribute__") = false := by rw [hx2]; rfl
  have f3 : bindSpecial (.builtin "BaseException.__getattribute__") (.ref a) = pure (.builtin "BaseException.__getattribute__", [.ref a]) := by
    have hop : withoutEnding? "BaseException.__getattribute__" "#opaque" = none := by decide +kernel
    have hdat : withoutEnding? "BaseException.__getattribute__" "#data" = none := by decide +kernel
    have hk : builtinKind "BaseException.__getattribute__" = some .slot := by decide +kernel
    simp only [bindSpecial, typeOf, builtinType, hop, hdat, hk]; rfl
  repeat (any_goals (first | assumption | with_reducible refine L0.at ?_ | with_reducible refine L1.at ?_ | with_reducible refine L2.at ?_ | wp_step))
  refine codeAny_call_builtin (by decide +kernel) F.entry_bexc_ga (exc_check_ga X0 k x0 (exc_class_entry X0 k x0 ?_))
  repeat (any_goals (first | assumption | wp_step))
theorem exc_class_attr {Q : Option Value → Shared → Prop} (X : K.In s.heap) (k : ExcC K C) (x : ExcO a C s.heap) (h : Q (some (.ref C)) { s with toks := s.toks + 1 }) : wpAny (model prog w) A (getAttr? (.ref a) "__class__") Q E s := by
  obtain ⟨hh, g, d, tt, os⟩ := s
  unfold getAttr? getAttrBy?
  repeat (any_goals (first | assumption | with_reducible apply exc_class_by (s := ⟨hh, g, d, tt + 1, os⟩) X k x | wp_step))
theorem kitx_exc (k : ExcC K C) : PySem.W.KitX K (.ref a) (.ref C) (ExcO a C) where
  ty := fun _ _ _ x => exc_ty x
  it := fun _ _ X _ => isType_in X k.ty
  ne := fun h tp dd its n sl X htp => by
    refine Bool.eq_false_iff.mpr fun q => ?_
    have e : C = tp := Value.ref.inj (beq_iff_eq.mp q)
    subst e
    have z := k.ty
    unfold PySem.W.isClsIn PySem.W.clsIn at z
    split at z
    · rename_i c' d' cd' sl' ho
      have z := (X _ _ ho).symm.trans htp
      cases z
    · cases z
  ca := fun X x q => exc_class_attr X k x q
end
theorem kit_C {K : PySem.W.Frag} {C D : Addr} {b : Bool} (h1 : PySem.W.isClsIn K D = true) (h2 : PySem.W.typeIn K (.ref D) = some (.type "type")) (h3 : PySem.W.subIn K (.ref C) (.ref D) = some b) (hb : C = D → b = true) : PySem.W.kitOne K (.ref C) (.ref D) = some b := by
  unfold PySem.W.kitOne
  by_cases q : (Value.ref C == Value.ref D) = true
  · rw [if_pos q, hb (Value.ref.inj (beq_iff_eq.mp q))]
  · rw [if_neg q]
    unfold PySem.W.kitCls
    dsimp only
    rw [show (PySem.W.clsIn K D).isSome = true from h1, h2]
    exact h3
theorem kit_T {K : PySem.W.Frag} {C : Addr} {T : String} {b : Bool} (h1 : PySem.W.kitMeta T = true) (h3 : PySem.W.subIn K (.ref C) (.type T) = some b) : PySem.W.kitOne K (.ref C) (.type T) = some b := by
  unfold PySem.W.kitOne
  rw [if_neg (by simp)]
  unfold PySem.W.kitCls
  dsimp only
  rw [if_pos h1]
  exact h3
section
variable {X : Cx} {EX : EXT} {e : Expr} {fa : DE} {pos p pT : Pos}
noncomputable def dInstX (tab : List (Addr × Bool)) (f : DE) : DE := fun ρ st => (f ρ st).bind fun d st1 => match d with
  | .exv C => match tab.lookup C with
    | some b => .ok (.bl b) st1
    | none => .bad
  | _ => .bad
noncomputable def TabOk (K : PySem.W.Frag) (tab : List (Addr × Bool)) (v : Value) : Prop := ∀ C b, tab.lookup C = some b → ExcC K C ∧ PySem.W.kitOne K (.ref C) v = some b
theorem tab_nil {K : PySem.W.Frag} {v : Value} : TabOk K [] v := fun C b h => by cases h
theorem tab_cons {K : PySem.W.Frag} {v : Value} {C : Addr} {b : Bool} {r : List (Addr × Bool)} (k : ExcC K C) (h : PySem.W.kitOne K (.ref C) v = some b) (t : TabOk K r v) : TabOk K ((C, b) :: r) v := fun C' b' z => by
  simp only [List.lookup_cons] at z
  split at z
  · rename_i q
    have e : C' = C := by simpa using q
    subst e
    cases z
    exact ⟨k, h⟩
  · exact t C' b' z
theorem pd_instX {te : Expr} {v : V} {u : Value} {tab : List (Addr × Bool)} (hv : ∀ w, L2.RelV v w → w = u) (he : PD X EX e fa) (hT : PE X te (tC v)) (ht : TabOk X.K tab u) (hg : Gl X "isinstance") (hm : X.mg "isinstance" = none)
    (hs : starEach [e, te] X.env = (false, eval e X.env) :: starEach [te] X.env := by rfl) (hs1 : starEach [te] X.env = (false, eval te X.env) :: starEach [] X.env := by rfl) (hpl : (backTo pos (starEach [te] X.env)).any (·.1) = false := by rfl) :
    PD X EX (.Call (.Name "isinstance" p) [e, te] [] pos) (dInstX tab fa) := by
  have hc : CallR X (.builtin "isinstance") (fun xs H Q => ∃ a C b, xs = [.ref a, v] ∧ H a = some (.ext (ExcO a C)) ∧ tab.lookup C = some b ∧ Q (.bl b) H) := by
    intro pins s σ H xs us Q I r h
    obtain ⟨a, C, b, rfl, ha, hl, q⟩ := h
    obtain ⟨u1, w, rfl, ru, rw'⟩ := vals2 r
    cases ru
    obtain ⟨k, e1⟩ := ht C b hl
    have : w = u := hv w rw'
    subst this
    exact PySem.W.kia_one (kitx_exc k) I.kIn (I.hok _ _ ha).1 e1 (fun z => nomatch z) fun tk => ⟨.bl _, H, I.tok tk, rfl, q⟩
  refine PE.mono (pe_callB hc hg hm PyProof.Rows.boot_isinstance (pa_cons he (pa_cons hT pa_nil hs1) hs) (by decide) (by decide) hs hpl) ?_
  rintro σ H Q ⟨O, ρ, st, W, E, R⟩
  refine ⟨O, ρ, st, W, E, R.bind.mono fun d st1 O1 H1 k1 W1 R1 v r => ?_⟩
  cases d with
  | exv C =>
    dsimp only at R1
    cases hl : tab.lookup C with
    | none => rw [hl] at R1; exact R1.elim
    | some b =>
      rw [hl] at R1
      obtain ⟨a, rfl, ha⟩ := Rep.exv_i.mp r
      exact ⟨a, C, b, rfl, ha, hl, Run.now (k := Val X.K Q) R1 W1 _ (Rep.bl_i.mpr rfl)⟩
  | _ => exact R1.elim
end
end DL

end
section
set_option Elab.async false
set_option linter.all false
set_option maxRecDepth 100000
namespace DL
open PySem PySem.Spec PyProof.Rows L2
noncomputable def eqsOf (st : Sto) (x : D) : List D → Option (List Bool)
  | [] => some []
  | y :: ys => match eqN st depth y x, eqsOf st x ys with
    | some a, some b => some (a :: b)
    | _, _ => none
section
variable {X : Cx} {EX : EXT} {a b c e o : Expr} {fa fb fc fo : DE} {pos p apos cpos : Pos} {es : List Expr} {g : DA}
open Classical in
theorem eq_items {pins : List (Addr × Obj)} {σ : L2.St} {s : Shared} {O : List Addr} {H : Hp} {st : Sto} (I : Inv X pins σ H s) (W : WR X.K O H st) {x : D} {vx : V} {ux : Value} (rx : Rep X.K O H x vx) (qx : L2.RelV vx ux) {A : Around} (hA : A.units + depth < cLine) :
    ∀ {ys : List D} {vs : List V} {its : List Value} {bs : List Bool}, eqsOf st x ys = some bs → Reps X.K O H ys vs → Vals vs its →
      ∃ e : Value → Bool, (∀ z, e z = decide (∃ d v, Rep X.K O H d v ∧ L2.RelV v z ∧ eqN st depth d x = some true)) ∧ (∀ z ∈ its, SeqAt.EqAt A s z ux (e z)) ∧ its.map e = bs
  | [], vs, its, k, h, r, q => by
    rw [Reps.nil_i] at r
    subst r
    cases q
    simp only [eqsOf, Option.some.injEq] at h
    subst h
    exact ⟨fun z => decide (∃ d v, Rep X.K O H d v ∧ L2.RelV v z ∧ eqN st depth d x = some true), fun _ => rfl, (fun z hz => (by cases hz)), rfl⟩
  | y :: ys, vs, its, k, h, r, q => by
    obtain ⟨v, vs', rfl, ry, rs⟩ := Reps.cons_i.mp r
    cases q with
    | cons q1 q2 =>
      rename_i u us
      unfold eqsOf at h
      cases e1 : eqN st depth y x with
      | none => rw [e1] at h; cases h
      | some a =>
        cases e2 : eqsOf st x ys with
        | none => rw [e1, e2] at h; cases h
        | some b =>
          rw [e1, e2] at h
          simp only [Option.some.injEq] at h
          obtain ⟨e, he, h1, h2⟩ := eq_items I W rx qx hA e2 rs q2
          have hu : e u = a := by
            rw [he u]
            cases a with
            | true => exact decide_eq_true ⟨y, v, ry, q1, e1⟩
            | false =>
              refine decide_eq_false ?_
              rintro ⟨d, v', r', q', e'⟩
              have ev : v' = v := q'.inj q1
              subst ev
              have ed := Rep.inj I W d y v' r' ry
              subst ed
              rw [e1] at e'
              cases e'
          refine ⟨e, he, fun z hz => ?_, ?_⟩
          · rcases List.mem_cons.mp hz with rfl | hz
            · rw [hu]
              exact (eq_sound I W depth y x a e1 A v vx z ux ry rx q1 qx hA).1
            · exact h1 z hz
          · rw [List.map_cons, hu, h2]
            exact h
noncomputable def countD (d : D) : List D → Sto → Out D
  | [x], st => match seqL st d with
    | some ys => match eqsOf st x ys with
      | some bs => .ok (.int (bs.count true : Nat)) st
      | none => .bad
    | none => .bad
  | _, _ => .bad
noncomputable def indexD (d : D) : List D → Sto → Out D
  | [x], st => match seqL st d with
    | some ys => match eqsOf st x ys with
      | some bs => if bs.idxOf true < bs.length then .ok (.int (bs.idxOf true : Nat)) st else .bad
      | none => .bad
    | none => .bad
  | _, _ => .bad
noncomputable abbrev rLM (X : Cx) (EX : EXT) (γ : D → List D → Sto → Out D) : V → List V → Hp → VK → Prop := fun x xs H Q => ∃ O d ds st, WR X.K O H st ∧ Rep X.K O H d x ∧ Reps X.K O H ds xs ∧ Run X.K EX O H (γ d ds st) (Val X.K Q)
theorem mt_countD (hu : X.A.units + 64 < cLine) : MtR X "list.count" (rLM X EX countD) := by
  intro pins s σ H x xs v us Q I rx rxs h
  obtain ⟨O, d, ds, st, W, r, rs, R⟩ := h
  match ds, rs, R with
  | [], _, R => exact R.elim
  | _ :: _ :: _, _, R => exact R.elim
  | [y], rs, R =>
    dsimp only [countD] at R
    cases e1 : seqL st d with
    | none => rw [e1] at R; exact R.elim
    | some ys =>
      rw [e1] at R
      dsimp only at R
      cases e2 : eqsOf st y ys with
      | none => rw [e2] at R; exact R.elim
      | some bs =>
        rw [e2] at R
        obtain ⟨p, vs, rfl, q, rz⟩ := rdL W r e1
        obtain ⟨v', rfl, rv⟩ := rs.one_of
        obtain ⟨u, rfl, ru⟩ := vals1 rxs
        cases rx
        obtain ⟨its, hv, ⟨⟨cls, dd, data, sl⟩, n, ho, hc, hd, hdd⟩, _⟩ := I.list q
        simp only at hc hd hdd
        subst hc hd hdd
        obtain ⟨e, _, h1, h2⟩ := eq_items I W rv ru (in_units hu) e2 rz hv
        refine call_meets PySem.F.slot_list_count ⟨_, ho, rfl⟩ PySem.F.entry_list_count (PySem.F.args_list_count_2 _ _) (SeqAt.list_countAt p its.toArray n _ sl u e) ⟨ho, fun z hz => h1 z (by simpa using hz), ?_⟩
        have ec : its.toArray.toList.countP e = bs.count true := by
          rw [← h2]
          simp [List.count, List.countP_map, Function.comp_def]
        rw [ec]
        exact ⟨.int _, H, I.tok _, ⟨_, rfl⟩, Run.now (k := Val X.K Q) R W _ (Rep.int_i.mpr rfl)⟩
theorem mt_indexD (hu : X.A.units + 64 < cLine) : MtR X "list.index" (rLM X EX indexD) := by
  intro pins s σ H x xs v us Q I rx rxs h
  obtain ⟨O, d, ds, st, W, r, rs, R⟩ := h
  match ds, rs, R with
  | [], _, R => exact R.elim
  | _ :: _ :: _, _, R => exact R.elim
  | [y], rs, R =>
    dsimp only [indexD] at R
    cases e1 : seqL st d with
    | none => rw [e1] at R; exact R.elim
    | some ys =>
      rw [e1] at R
      dsimp only at R
      cases e2 : eqsOf st y ys with
      | none => rw [e2] at R; exact R.elim
      | some bs =>
        rw [e2] at R
        dsimp only at R
        by_cases hj : bs.idxOf true < bs.length
        · rw [if_pos hj] at R
          obtain ⟨p, vs, rfl, q, rz⟩ := rdL W r e1
          obtain ⟨v', rfl, rv⟩ := rs.one_of
          obtain ⟨u, rfl, ru⟩ := vals1 rxs
          cases rx
          obtain ⟨its, hv, ⟨⟨cls, dd, data, sl⟩, n, ho, hc, hd, hdd⟩, hz⟩ := I.list q
          simp only at hc hd hdd
          subst hc hd hdd
          obtain ⟨e, _, h1, h2⟩ := eq_items I W rv ru (in_units hu) e2 rz hv
          have hl : its.length = bs.length := by rw [← h2, List.length_map]
          have at_ : ∀ m (hm : m < its.toArray.size), e its.toArray[m] = bs[m]'(by simpa [← hl] using hm) := by
            intro m hm
            have : bs[m]? = some (e its.toArray[m]) := by
              rw [← h2, List.getElem?_map, List.getElem?_eq_getElem (by simpa using hm)]
              simp
            rw [List.getElem?_eq_getElem (by simpa [← hl] using hm)] at this
            exact (Option.some.inj this).symm
          have hlt : bs.idxOf true < its.toArray.size := by simpa [hl] using hj
          have hb63 : ((bs.idxOf true : Nat) : Int) < 2 ^ 63 - 1 := by
            have h3 : its.length ≤ sizeLine := by rw [← hv.length]; exact hz
            have h4 := line63
            have h5 : bs.idxOf true < its.length := by simpa using hlt
            omega
          refine call_meets PySem.F.slot_list_index ⟨_, ho, rfl⟩ PySem.F.entry_list_index (PySem.F.args_list_index_2 _ _) (SeqAt.list_indexAt p its.toArray n _ sl u e (bs.idxOf true) hlt hb63 ?_ fun m hm hlt' => ?_) ⟨ho, fun z hz => h1 z (by simpa using hz), ?_⟩
          · rw [at_ _ hlt]
            exact List.getElem_idxOf hj
          · rw [at_ m hm]
            have := List.not_of_lt_findIdx (p := (· == true)) (xs := bs) (i := m) hlt'
            simpa using this
          · exact ⟨.int _, H, I.tok _, ⟨_, rfl⟩, Run.now (k := Val X.K Q) R W _ (Rep.int_i.mpr rfl)⟩
        · rw [if_neg hj] at R; exact R.elim
noncomputable def dLM (γ : D → List D → Sto → Out D) (fo : DE) (f : DA) : DE := fun ρ st => (fo ρ st).bind fun d st1 => match seqL st1 d with
  | some _ => (f ρ st1).bind fun ds st2 => γ d ds st2
  | none => .bad
theorem pd_lm {name : Str} {id : String} {γ : D → List D → Sto → Out D} (slot : Slot "list" name id) (hty : typeOf (.builtin id) = pure (.type "method_descriptor")) (hm : MtR X id (rLM X EX γ)) (ho : PD X EX o fo) (ha : PDA X EX (e :: es) g)
    (hbase : attributeBase o name X.env (eval o X.env) = eval o X.env := by rfl)
    (hfew : ((backTo cpos (starEach (e :: es) X.env)).all (fun x => !x.1) && (backToKw cpos (keywordEach [] X.env)).all (fun x => x.1.isSome)
      && decide ((e :: es).length + ([] : List Keyword).length + (if ([] : List Keyword).isEmpty then 0 else 1) < 30)) = true := by rfl)
    (hline : (apos.endLine == cpos.line) = true := by rfl) (hs : starEach (e :: es) X.env = (false, eval e X.env) :: starEach es X.env := by rfl) (hplain : (backTo cpos (starEach es X.env)).any (·.1) = false := by rfl) :
    PD X EX (.Call (.Attribute o name apos) (e :: es) [] cpos) (dLM γ fo g) := by
  refine PE.mono (pe_bm PySem.F.plainAttrs_list slot hty hm ho ha hbase hfew hline hs hplain) ?_
  rintro σ H Q ⟨O, ρ, st, W, E, R⟩
  refine ⟨O, ρ, st, W, E, R.bind.mono fun d st1 O1 H1 k1 W1 R1 v r => ?_⟩
  cases e1 : seqL st1 d with
  | none => rw [e1] at R1; exact R1.elim
  | some ys =>
    rw [e1] at R1
    obtain ⟨pp, vs, rfl, q, rz⟩ := rdL W1 r e1
    exact ⟨.inl ⟨rfl, _, q⟩, O1, ρ, st1, W1, E.mono k1, R1.bind.mono fun ds st2 O2 H2 k2 W2 R2 vs rs => ⟨O2, d, ds, st2, W2, Rep.mono k2 _ _ r, rs, R2⟩⟩
end
section
variable {ρ : Ev} {st : Sto} {f fo : DE} {da : DA} {g : DS} {C : Addr}
@[simp] theorem z_bind_exc {α β : Type} (c : Addr) (st : Sto) (k : α → Sto → Out β) : (Out.exc c st : Out α).bind k = .exc c st := rfl
@[simp] theorem z_to_exc {α : Type} (c : Addr) (st : Sto) (k : α → Sto → OutS) : (Out.exc c st : Out α).to k = .exc c st := rfl
@[simp] theorem z_runX {N n : Nat} {ds : List D} : runX N n g ds st = if ds.length = n then (match g (ds.map some ++ List.replicate (N - n) none) st with
  | .nx _ st' => .ok .non st'
  | .rt d st' => .ok d st'
  | .exc c st' => .exc c st'
  | _ => .bad) else .bad := rfl
@[simp] theorem z_sRaise : sRaise C da ρ st = (da ρ st).to fun ds st1 => if ds.length ≤ small then .exc C st1 else .bad := rfl
theorem z_sTry {cs : List Addr} {hand : Addr → Sto → OutS} : sTry cs hand g ρ st = match g ρ st with
  | .exc c st' => if c ∈ cs then hand c st' else .bad
  | r => r := rfl
theorem z_handAs {n i : Nat} {c : Addr} : handAs n i g c st = match g ((List.replicate n none).set i (some (.exv c))) st with
  | .rt d st' => .rt d st'
  | .nx ρ st' => .nx (ρ.set i none) st'
  | _ => .bad := rfl
@[simp] theorem z_instX {tab : List (Addr × Bool)} : dInstX tab f ρ st = (f ρ st).bind fun d st1 => match d with
  | .exv C => match tab.lookup C with
    | some b => .ok (.bl b) st1
    | none => .bad
  | _ => .bad := rfl
@[simp] theorem z_LM {γ : D → List D → Sto → Out D} : dLM γ fo da ρ st = (fo ρ st).bind fun d st1 => match seqL st1 d with
  | some _ => (da ρ st1).bind fun ds st2 => γ d ds st2
  | none => .bad := rfl
end
noncomputable def ifBody : Stmt → List Stmt
  | .If _ b _ _ => b
  | _ => []
noncomputable def ifElse : Stmt → List Stmt
  | .If _ _ b _ => b
  | _ => []
noncomputable def forBody : Stmt → List Stmt
  | .For _ _ b _ _ => b
  | _ => []
noncomputable def spB (K : PySem.W.Frag) (G : (Nat → Addr) → Prop) (F : (Nat → Addr) → FD) : Sp := fun vs H Q E => ∀ cv, G cv → spD K (F cv) vs H Q E
theorem fnOk_spB {P : Program} {w : World} {K : PySem.W.Frag} {mg : Str → Option Value} {base : Heap} {k : Nat} {f : Addr} {fd : FuncData} {ps : List Str} {G : (Nat → Addr) → Prop} {F : (Nat → Addr) → FD} {cv : Nat → Addr} (hc : G cv) (O : FnOk P w K mg base CX0 k f fd ps (spD K (F cv))) : FnOk P w K mg base CX0 k f fd ps (spB K G F) := by
  refine ⟨fun vs H Q E h => O.len vs H Q E (h cv hc), fun A outer s H args us vs Q E hr he hb hv hs => O.run A outer s H args us vs Q E hr he hb hv (hs cv hc)⟩
end DL

end
section
set_option Elab.async false
set_option linter.all false
set_option maxRecDepth 100000
namespace DL
open PySem PySem.Spec PyProof.Rows L2
section
variable {X : Cx} {EX : EXT} {pos p : Pos} {x : Str} {k j : Nat} {F : FD}
end
theorem us1 {P : List Value → Prop} (h : ∀ a, P [a]) : ∀ us : List Value, us.length = 1 → P us
  | [a], _ => h a
theorem us2 {P : List Value → Prop} (h : ∀ a b, P [a, b]) : ∀ us : List Value, us.length = 2 → P us
  | [a, b], _ => h a b
theorem us3 {P : List Value → Prop} (h : ∀ a b c, P [a, b, c]) : ∀ us : List Value, us.length = 3 → P us
  | [a, b, c], _ => h a b c
theorem us4 {P : List Value → Prop} (h : ∀ a b c d, P [a, b, c, d]) : ∀ us : List Value, us.length = 4 → P us
  | [a, b, c, d], _ => h a b c d
end DL

end
section
set_option Elab.async false
set_option linter.all false
set_option maxRecDepth 100000
namespace SO
open PySem PySem.W PyProof.Rows
noncomputable def ok {α : Type} (n : Nat) (lt : Nat → Nat → Bool) : KasT α → (α → Prop) → Prop
  | .ret a, Q => Q a
  | .ask i j k, Q => i < n ∧ j < n ∧ ok n lt (k (lt i j)) Q
section
variable {α β : Type} {n : Nat} {lt : Nat → Nat → Bool}
theorem ok_bind {f : α → KasT β} {Q : β → Prop} : ∀ {t : KasT α}, ok n lt t (fun a => ok n lt (f a) Q) → ok n lt (t.bind f) Q
  | .ret _, h => h
  | .ask _ _ k, ⟨h1, h2, h3⟩ => ⟨h1, h2, ok_bind (t := k _) h3⟩
theorem ok_mono {Q Q' : α → Prop} (f : ∀ a, Q a → Q' a) : ∀ {t : KasT α}, ok n lt t Q → ok n lt t Q'
  | .ret _, h => f _ h
  | .ask _ _ k, ⟨h1, h2, h3⟩ => ⟨h1, h2, ok_mono f (t := k _) h3⟩
theorem ok_wp {cmp : Nat → Nat → (Bool → Shared → Prop) → Shared → Prop} {s : Shared} {G : α → Shared → Prop} {Q : α → Prop} (hc : ∀ i j C, i < n → j < n → C (lt i j) s → cmp i j C s) (hG : ∀ a, Q a → G a s) : ∀ {t : KasT α}, ok n lt t Q → t.kasWp cmp G s
  | .ret _, h => hG _ h
  | .ask i j k, ⟨h1, h2, h3⟩ => hc i j _ h1 h2 (ok_wp hc hG (t := k _) h3)
end
structure Ord (n : Nat) (lt : Nat → Nat → Bool) : Prop where
  tot : ∀ i j, i < n → j < n → i ≠ j → lt i j = false → lt j i = true
  asy : ∀ i j, i < n → j < n → lt i j = true → lt j i = false
  trn : ∀ i j k, i < n → j < n → k < n → lt i j = true → lt j k = true → lt i k = true
noncomputable def Al (n : Nat) (p : Array Nat) : Prop := p.toList.Perm (List.range n)
noncomputable abbrev G (p : Array Nat) (i : Nat) : Nat := p.getD i 0
section
variable {n : Nat} {lt : Nat → Nat → Bool} {p : Array Nat}
theorem Al.size (h : Al n p) : p.size = n := by have := h.length_eq; simpa using this
theorem G_eq (i : Nat) (h : i < p.size) : G p i = p[i] := by simp [G, Array.getD, h]
theorem Al.bel (h : Al n p) (i : Nat) (hn : 0 < n) : G p i < n := by
  by_cases hi : i < p.size
  · rw [G_eq i hi]
    have : p[i] ∈ p.toList := by simp
    have := h.mem_iff.mp this
    simpa using this
  · simp [G, Array.getD, hi, hn]
theorem Al.inj (h : Al n p) {i j : Nat} (hi : i < n) (hj : j < n) (ne : i ≠ j) : G p i ≠ G p j := by
  have nd : p.toList.Nodup := h.nodup_iff.mpr List.nodup_range
  have hs := h.size
  rw [G_eq i (by omega), G_eq j (by omega)]
  intro e
  have := (List.getElem_inj (i := i) (j := j) (h₀ := by simpa using (by omega : i < p.size)) (h₁ := by simpa using (by omega : j < p.size)) nd).mp (by simpa using e)
  exact ne this
theorem G_cong {q : Array Nat} {i j : Nat} (h : p[i]? = q[j]?) : G p i = G q j := by
  simp only [G, Array.getD_eq_getD_getElem?, h]
noncomputable def SP (lt : Nat → Nat → Bool) (p : Array Nat) (k : Nat) : Prop := ∀ i j, i < j → j < k → lt (G p i) (G p j) = true
noncomputable def DP (lt : Nat → Nat → Bool) (p : Array Nat) (k : Nat) : Prop := ∀ i j, i < j → j < k → lt (G p j) (G p i) = true
theorem SP.one : SP lt p 1 := fun i j h1 h2 => by omega
theorem SP.next (O : Ord n lt) (h : Al n p) {m : Nat} (h1 : 1 ≤ m) (hm : m < n) (s : SP lt p m) (e : lt (G p (m - 1)) (G p m) = true) : SP lt p (m + 1) := by
  intro i j hij hj
  by_cases hjm : j < m
  · exact s i j hij hjm
  · have : j = m := by omega
    subst this
    by_cases hi : i = j - 1
    · subst hi; exact e
    · exact O.trn _ _ _ (h.bel _ (by omega)) (h.bel _ (by omega)) (h.bel _ (by omega)) (s i (j - 1) (by omega) (by omega)) e
theorem DP.next (O : Ord n lt) (h : Al n p) {m : Nat} (h1 : 1 ≤ m) (hm : m < n) (s : DP lt p m) (e : lt (G p m) (G p (m - 1)) = true) : DP lt p (m + 1) := by
  intro i j hij hj
  by_cases hjm : j < m
  · exact s i j hij hjm
  · have : j = m := by omega
    subst this
    by_cases hi : i = j - 1
    · subst hi; exact e
    · exact O.trn _ _ _ (h.bel _ (by omega)) (h.bel _ (by omega)) (h.bel _ (by omega)) e (s i (j - 1) (by omega) (by omega))
theorem asc_ok (O : Ord n lt) (h : Al n p) : ∀ (f m : Nat), 1 ≤ m → m + f = n → SP lt p m → ok n lt (kas_asc p f m) (fun r => m ≤ r ∧ r ≤ n ∧ SP lt p r ∧ (r < n → lt (G p r) (G p (r - 1)) = true))
  | 0, m, h1, hf, s => ⟨Nat.le_refl _, by omega, s, fun z => by omega⟩
  | f + 1, m, h1, hf, s => by
    unfold kas_asc
    refine ⟨h.bel _ (by omega), h.bel _ (by omega), ?_⟩
    cases e : lt (p.getD m 0) (p.getD (m - 1) 0) with
    | true =>
      dsimp only
      rw [if_pos rfl]
      exact ⟨Nat.le_refl _, by omega, s, fun _ => e⟩
    | false =>
      dsimp only
      rw [if_neg (by simp)]
      have e' := O.tot _ _ (h.bel _ (by omega)) (h.bel _ (by omega)) (h.inj (i := m) (j := m - 1) (by omega) (by omega) (by omega)) e
      exact ok_mono (fun r z => ⟨Nat.le_of_succ_le z.1, z.2⟩) (asc_ok O h f (m + 1) (by omega) (by omega) (s.next O h h1 (by omega) e'))
theorem desc_ok (O : Ord n lt) (h : Al n p) : ∀ (f m : Nat), 1 ≤ m → m + f = n → DP lt p m → ok n lt (kas_desc f p m 0) (fun r => r.1 = p ∧ r.2.2 = 0 ∧ m ≤ r.2.1 ∧ r.2.1 ≤ n ∧ DP lt p r.2.1)
  | 0, m, h1, hf, s => ⟨rfl, rfl, Nat.le_refl _, (by omega : m ≤ n), s⟩
  | f + 1, m, h1, hf, s => by
    unfold kas_desc
    refine ⟨h.bel _ (by omega), h.bel _ (by omega), ?_⟩
    cases e : lt (p.getD m 0) (p.getD (m - 1) 0) with
    | true =>
      dsimp only
      rw [if_pos rfl, if_neg (Nat.lt_irrefl 0)]
      exact ok_mono (fun r z => ⟨z.1, z.2.1, Nat.le_of_succ_le z.2.2.1, z.2.2.2⟩) (desc_ok O h f (m + 1) (by omega) (by omega) (s.next O h h1 (by omega) e))
    | false =>
      dsimp only
      rw [if_neg (by simp)]
      have e' := O.tot _ _ (h.bel _ (by omega)) (h.bel _ (by omega)) (h.inj (i := m) (j := m - 1) (by omega) (by omega) (by omega)) e
      refine ⟨h.bel _ (by omega), h.bel _ (by omega), ?_⟩
      rw [e']
      dsimp only
      rw [if_pos rfl]
      exact ⟨rfl, rfl, Nat.le_refl _, (by omega : m ≤ n), s⟩
theorem Al.rev (h : Al n p) (m : Nat) : Al n (kas_rev p 0 m) := ((mirror_perm p 0 m _).toList).trans h
theorem G_rev {m : Nat} (hm : m ≤ p.size) (k : Nat) : G (kas_rev p 0 m) k = if k < m then G p (m - 1 - k) else G p k := by
  have e := getElem?_mirror_all (xs := p) (i := 0) hm k
  by_cases hk : k < m
  · rw [if_pos hk]
    rw [if_pos ⟨Nat.zero_le _, hk⟩] at e
    rw [show 0 + m - 1 - k = m - 1 - k by omega] at e
    exact G_cong e
  · rw [if_neg hk]
    rw [if_neg (fun z => hk z.2)] at e
    exact G_cong e
theorem rev_SP (h : Al n p) {m : Nat} (hm : m ≤ n) (d : DP lt p m) : SP lt (kas_rev p 0 m) m := by
  intro i j hij hj
  have hs := h.size
  rw [G_rev (by omega), G_rev (by omega), if_pos (by omega), if_pos hj]
  exact d _ _ (by omega) (by omega)
theorem tail3_ok (O : Ord n lt) (h : Al n p) {m : Nat} (h1 : 1 ≤ m) (hm : m ≤ n) (d : DP lt p m) : ok n lt (kas_tail3 m n p) (fun r => Al n r.2 ∧ 1 ≤ r.1 ∧ r.1 ≤ n ∧ SP lt r.2 r.1) := by
  unfold kas_tail3
  refine ok_bind (ok_mono (fun r z => ?_) (asc_ok O (h.rev m) (n - m) m h1 (by omega) (rev_SP h hm d)))
  exact ⟨h.rev m, by omega, z.2.1, z.2.2.1⟩
theorem count_ok (O : Ord n lt) (h : Al n p) (hn : 1 ≤ n) : ok n lt (kas_count n p) (fun r => Al n r.2 ∧ 1 ≤ r.1 ∧ r.1 ≤ n ∧ SP lt r.2 r.1) := by
  unfold kas_count
  refine ok_bind (ok_mono (fun r z => ?_) (asc_ok O h (n - 1) 1 (Nat.le_refl _) (by omega) SP.one))
  obtain ⟨z1, z2, z3, z4⟩ := z
  by_cases hr : r = n
  · subst hr
    simp only [beq_self_eq_true, if_true]
    exact ⟨h, z1, z2, z3⟩
  · have hb : (r == n) = false := by simp [hr]
    rw [hb, if_neg (by simp)]
    by_cases h1 : r > 1
    · rw [if_pos h1]
      refine ⟨h.bel _ (by omega), h.bel _ (by omega), ?_⟩
      have e : lt (p.getD 0 0) (p.getD (r - 1) 0) = true := z3 0 (r - 1) (by omega) (by omega)
      rw [e]
      dsimp only
      rw [if_pos rfl]
      exact ⟨h, z1, z2, z3⟩
    · rw [if_neg h1]
      have : r = 1 := by omega
      subst this
      unfold kas_descPart
      have d2 : DP lt p 2 := by
        intro i j hij hj
        have hi : i = 0 := by omega
        have hj' : j = 1 := by omega
        subst hi hj'
        exact z4 (by omega)
      refine ok_bind (ok_mono (fun r w => ?_) (desc_ok O h (n - (1 + 1)) (1 + 1) (by omega) (by omega) d2))
      obtain ⟨w1, w2, w3, w4, w5⟩ := w
      obtain ⟨r1, r2, r3⟩ := r
      dsimp only at w1 w2 w3 w4 w5 ⊢
      subst w1 w2
      rw [if_neg (Nat.lt_irrefl 0)]
      exact tail3_ok O h (by omega) w4 w5
theorem place_ok (O : Ord n lt) (h : Al n p) {k : Nat} (hk : k < n) : ∀ (f l r : Nat), r - l ≤ f → l ≤ r → r ≤ k → (∀ i, i < l → lt (G p i) (G p k) = true) → (∀ i, r ≤ i → i < k → lt (G p k) (G p i) = true) → SP lt p k →
    ok n lt (kas_place p k f l r) (fun m => m ≤ k ∧ (∀ i, i < m → lt (G p i) (G p k) = true) ∧ ∀ i, m ≤ i → i < k → lt (G p k) (G p i) = true)
  | 0, l, r, hf, hl, hr, a, b, s => by
    have : l = r := by omega
    subst this
    exact ⟨hr, a, b⟩
  | f + 1, l, r, hf, hl, hr, a, b, s => by
    unfold kas_place
    by_cases hlr : l ≥ r
    · rw [if_pos hlr]
      have : l = r := by omega
      subst this
      exact ⟨hr, a, b⟩
    · rw [if_neg hlr]
      refine ⟨h.bel _ (by omega), h.bel _ (by omega), ?_⟩
      have hm1 : l ≤ (l + r) / 2 := by omega
      have hm2 : (l + r) / 2 < r := by omega
      cases e : lt (p.getD k 0) (p.getD ((l + r) / 2) 0) with
      | true =>
        dsimp only
        rw [if_pos rfl]
        refine place_ok O h hk f l ((l + r) / 2) (by omega) hm1 (by omega) a (fun i hi1 hi2 => ?_) s
        by_cases hi : i = (l + r) / 2
        · subst hi; exact e
        · exact O.trn _ _ _ (h.bel _ (by omega)) (h.bel _ (by omega)) (h.bel _ (by omega)) e (s _ _ (by omega) hi2)
      | false =>
        dsimp only
        rw [if_neg (by simp)]
        have e' := O.tot _ _ (h.bel _ (by omega)) (h.bel _ (by omega)) (h.inj (i := k) (j := (l + r) / 2) hk (by omega) (by omega)) e
        refine place_ok O h hk f ((l + r) / 2 + 1) r (by omega) (by omega) hr (fun i hi => ?_) b s
        by_cases hi2 : i = (l + r) / 2
        · subst hi2; exact e'
        · exact O.trn _ _ _ (h.bel _ (by omega)) (h.bel _ (by omega)) (h.bel _ (by omega)) (s i ((l + r) / 2) (by omega) (by omega)) e'
theorem Al.bub (h : Al n p) (k d : Nat) : Al n (bubble p k d) := ((bubble_perm p k d).toList).trans h
theorem G_bub {k d : Nat} (hk : k < p.size) (hd : d ≤ k) (i : Nat) : G (bubble p k d) i = if i = k - d then G p k else if k - d < i ∧ i ≤ k then G p (i - 1) else G p i := by
  have e := getElem?_bubble hk d hd i
  by_cases h1 : i = k - d
  · rw [if_pos h1] at e ⊢; exact G_cong e
  · rw [if_neg h1] at e ⊢
    by_cases h2 : k - d < i ∧ i ≤ k
    · rw [if_pos h2] at e ⊢; exact G_cong e
    · rw [if_neg h2] at e ⊢; exact G_cong e
theorem bin_ok (O : Ord n lt) : ∀ (f k : Nat) (p : Array Nat), Al n p → k + f = n → SP lt p k → ok n lt (kas_bin f p k) (fun q => Al n q ∧ SP lt q n)
  | 0, k, p, h, hf, s => by
    have : k = n := by omega
    subst this
    exact ⟨h, s⟩
  | f + 1, k, p, h, hf, s => by
    unfold kas_bin
    refine ok_bind (ok_mono (fun m z => ?_) (place_ok O h (by omega) k 0 k (by omega) (Nat.zero_le _) (Nat.le_refl _) (fun i hi => by omega) (fun i h1 h2 => by omega) s))
    obtain ⟨z1, z2, z3⟩ := z
    refine bin_ok O f (k + 1) _ (h.bub k (k - m)) (by omega) ?_
    have hs := h.size
    intro i j hij hj
    rw [G_bub (by omega) (by omega), G_bub (by omega) (by omega)]
    have hkm : k - (k - m) = m := by omega
    rw [hkm]
    by_cases hi : i = m
    · rw [if_pos hi, if_neg (by omega), if_pos (by omega)]
      exact z3 _ (by omega) (by omega)
    · rw [if_neg hi]
      by_cases hj' : j = m
      · rw [if_pos hj', if_neg (by omega)]
        exact z2 _ (by omega)
      · rw [if_neg hj']
        by_cases hi3 : m < i ∧ i ≤ k
        · rw [if_pos hi3, if_pos (by omega)]
          exact s _ _ (by omega) (by omega)
        · rw [if_neg hi3]
          by_cases hj3 : m < j ∧ j ≤ k
          · rw [if_pos hj3]
            by_cases hij2 : i = j - 1
            · omega
            · exact s _ _ (by omega) (by omega)
          · rw [if_neg hj3]
            exact s _ _ hij (by omega)
theorem sort_ok (O : Ord n lt) (hn : 1 ≤ n) : ok n lt (kas_sort n) (fun q => Al n q ∧ SP lt q n) := by
  unfold kas_sort
  refine ok_bind (ok_mono (fun r z => ?_) (count_ok O (show Al n (List.toArray (List.range n)) from List.Perm.refl _) hn))
  obtain ⟨z1, z2, z3, z4⟩ := z
  by_cases hr : r.1 < n
  · rw [if_pos hr, show max r.1 1 = r.1 by omega]
    exact bin_ok O _ _ _ z1 (by omega) z4
  · rw [if_neg hr]
    have : r.1 = n := by omega
    rw [this] at z4
    exact ⟨z1, z4⟩
end
end SO

end
section
set_option Elab.async false
set_option linter.all false
set_option maxRecDepth 100000
set_option maxHeartbeats 2000000
namespace SO
open PySem PySem.W PyProof.Rows
theorem SP.pw {n : Nat} {lt : Nat → Nat → Bool} {p : Array Nat} (h : Al n p) (s : SP lt p n) : p.toList.Pairwise (fun i j => lt i j = true) := by
  rw [List.pairwise_iff_getElem]
  intro i j hi hj hij
  have hs := h.size
  simp only [Array.length_toList] at hi hj
  have := s i j hij (by omega)
  rw [G_eq i hi, G_eq j hj] at this
  simpa using this
section
variable {prog : Program} {w : World} {A : Around} {E : Value → Shared → Prop} {s : Shared}
noncomputable abbrev KB (s : Shared) (a : Addr) (h' : Heap) : Prop := ∀ b o, b ≠ a → s.heap.get? b = some o → h'.get? b = some o
structure Cmp (prog : Program) (w : World) (s : Shared) (a : Addr) (vs : List Value) (κ : SortKind) (lt : Nat → Nat → Bool) : Prop where
  kind : 2 ≤ vs.length → ∀ (h' : Heap) (A : Around) (E : Value → Shared → Prop) (Q : SortKind → Shared → Prop), KB s a h' → Q κ { s with heap := h' } → wpAny (model prog w) A (keyKind' vs.toArray) Q E { s with heap := h' }
  less : 2 ≤ vs.length → ∀ (h' : Heap) (A : Around) (E : Value → Shared → Prop) (Q : Bool → Shared → Prop) (i j : Nat), KB s a h' → i < vs.length → j < vs.length → Q (lt i j) { s with heap := h' } → wpAny (model prog w) A (keyLt' κ (vs.getD i .none) (vs.getD j .none)) Q E { s with heap := h' }
theorem fin_keep {g : Heap} {a : Addr} {e1 : Nat} {vs : List Value} {p : List Nat} {f : Bool → Sem PySem.Fin} {P : PySem.Fin → Shared → Prop} (hoa : g.get? a = some (seqObj "list" #[] e1)) (h64 : vs.length < 64) (hp : p.Perm (List.range vs.length))
    (k : ∀ h' c, (∀ b o, b ≠ a → g.get? b = some o → h'.get? b = some o) → h'.get? a = some (seqObj "list" (p.map fun i => vs.getD i .none).toArray c) → wpAny (model prog w) A (f false) P E { s with heap := h' }) :
    wpAny (model prog w) A (seqEpoch a >>= fun e => Builtin.List.listUpdate (.ref a) (fun _ => (p.map fun i => vs.getD i Value.none).toArray) >>= fun _ => f (e != e1)) P E { s with heap := g } := by
  have z : ((p.map fun i => vs.getD i Value.none).toArray).size ≤ sizeLine + 1 := by
    rw [List.size_toArray, List.length_map, hp.length_eq, List.length_range, sizeLine_eq]
    omega
  have s2 := Heap.SameBut.update g a (Obj.mapSeq fun _ => (p.map fun i => vs.getD i Value.none).toArray)
  refine wpAny_bind (seqEpoch_at hoa rfl (wpAny_bind (listUpdate_at hoa rfl ?_ (Nat.zero_le _) z)))
  rw [bne_self_eq_false]
  exact k _ _ (fun b o ne e => s2.extBut b o ne e) (get?_update_seq hoa fun _ => (p.map fun i => vs.getD i Value.none).toArray)
theorem list_sort_keep {a : Addr} {vs : List Value} {n0 : Nat} {κ : SortKind} {lt : Nat → Nat → Bool} {P : PySem.Fin → Shared → Prop} (ho : s.heap.get? a = some (seqObj "list" vs.toArray n0)) (h64 : vs.length < 64)
    (C : Cmp prog w s a vs κ lt) (O : Ord vs.length lt)
    (k : ∀ p : List Nat, p.Perm (List.range vs.length) → p.Pairwise (fun i j => lt i j = true) → ∀ h' c, KB s a h' → h'.get? a = some (seqObj "list" (p.map fun i => vs.getD i .none).toArray c) → P (.done (.ret .none)) { s with heap := h' }) :
    wpAny (model prog w) A (Builtin.«list.sort» ⟨[.ref a], []⟩) P E s := by
  have ha : a < s.heap.objs.size := Heap.lt_size ho
  have s1 := Heap.SameBut.update s.heap a (Obj.mapSeq fun _ => (#[] : Array Value))
  obtain ⟨e1, ho1⟩ : ∃ e1, (s.heap.update a (Obj.mapSeq fun _ => (#[] : Array Value))).get? a = some (seqObj "list" #[] e1) := ⟨_, get?_update_seq ho fun _ => #[]⟩
  have hk : KB s a (((s.heap.update a (Obj.mapSeq fun _ => (#[] : Array Value))).push (seqObj "tuple" vs.toArray 0)).push (seqObj "list" #[] 0)) := fun b o hb e =>
    Heap.get?_push_of_some _ (Heap.get?_push_of_some _ (s1.extBut b o hb e))
  have hoa : (((s.heap.update a (Obj.mapSeq fun _ => (#[] : Array Value))).push (seqObj "tuple" vs.toArray 0)).push (seqObj "list" #[] 0)).get? a = some (seqObj "list" #[] e1) := Heap.get?_push_of_some _ (Heap.get?_push_of_some _ ho1)
  rw [list_sort_plain]
  refine wpAny_bind (listItems_at ho rfl ?_)
  refine wpAny_bind (listUpdate_at ho rfl ?_ (by rw [List.size_toArray, sizeLine_eq]; omega) (Nat.zero_le _))
  refine wpAny_bind (seqEpoch_at ho1 rfl ?_)
  refine wpAny_bind (wpAny_newTuple ?_ (by show vs.length ≤ _; rw [sizeLine_eq]; omega))
  refine wpAny_bind (wpAny_newList ?_ (Nat.zero_le _))
  refine wpAny_holding ?_
  show wpAny (model prog w) A _ P E { s with heap := ((s.heap.update a (Obj.mapSeq fun _ => (#[] : Array Value))).push (seqObj "tuple" vs.toArray 0)).push (seqObj "list" #[] 0) }
  generalize hg : ((s.heap.update a (Obj.mapSeq fun _ => (#[] : Array Value))).push (seqObj "tuple" vs.toArray 0)).push (seqObj "list" #[] 0) = g at hk hoa
  dsimp only
  by_cases h2 : vs.length < 2
  · have hn2 : vs.toArray.size < 2 := by rw [List.size_toArray]; omega
    rw [if_pos hn2, if_pos hn2]
    refine wpAny_bind (wpAny_pure (wpAny_bind (wpAny_pure ?_)))
    have hm : (arrOf (SortSt.mk' general' (vs.toArray.zip vs.toArray) #[] 7 none)).map (·.2) = ((List.range vs.length).map fun i => vs.getD i Value.none).toArray := by
      show (vs.toArray.zip vs.toArray).map (·.2) = _
      match vs, h2 with
      | [], _ => simp
      | [v], _ => simp [List.range_succ]
    have hpw : (List.range vs.length).Pairwise (fun i j => lt i j = true) := by
      match vs, h2 with
      | [], _ => exact .nil
      | [v], _ => exact List.pairwise_singleton _ _
    have hf : failedOf (SortSt.mk' general' (vs.toArray.zip vs.toArray) #[] 7 none) = none := rfl
    dsimp only
    rw [hm]
    refine fin_keep (f := fun b => if b = true then _ else _) hoa h64 (List.Perm.refl _) fun h' c hb hc => ?_
    simp only [Bool.false_eq_true, if_false]
    exact wpAny_pure (k _ (List.Perm.refl _) hpw h' c (fun b o ne e => hb b o ne (hk b o ne e)) hc)
  · have hn2 : ¬ vs.toArray.size < 2 := by rw [List.size_toArray]; omega
    rw [if_neg hn2, if_neg hn2]
    refine wpAny_bind (C.kind (by omega) g A E _ hk ?_)
    refine wpAny_bind (wpAny_mono (kat_run (κ := κ) (ks := vs) (vs := vs) (G := fun p s' => Al vs.length p ∧ SP lt p vs.length ∧ s' = { s with heap := g }) (Q := fun st' s' => ∃ p : Array Nat, arrOf st' = p.map (kas_item (vs.toArray.zip vs.toArray)) ∧ failedOf st' = none ∧ Al vs.length p ∧ SP lt p vs.length ∧ s' = { s with heap := g })
      rfl (by omega) h64 (fun p st' s' _ h1 h2 h3 => ⟨p, h1, h2, h3⟩) ?_) ?_ fun _ _ e => e)
    · refine ok_wp (Q := fun p => Al vs.length p ∧ SP lt p vs.length) (fun i j D hi hj hD => ?_) (fun p z => ⟨z.1, z.2, rfl⟩) (sort_ok O (by omega))
      exact C.less (by omega) g A _ _ i j hk hi hj hD
    · rintro ⟨⟨⟩, st'⟩ s' ⟨p, har, hf, hA, hS, rfl⟩
      dsimp only
      rw [kat_snds rfl har, hf]
      refine fin_keep (f := fun b => if b = true then _ else _) hoa h64 hA fun h' c hb hc => ?_
      simp only [Bool.false_eq_true, if_false]
      exact wpAny_pure (k _ hA (hS.pw hA) h' c (fun b o ne e => hb b o ne (hk b o ne e)) hc)
end
end SO

end
section
set_option Elab.async false
set_option linter.all false
set_option maxRecDepth 100000
set_option maxHeartbeats 2000000
namespace DL
open PySem PySem.Spec PyProof.Rows L2 PySem.W
section
variable {X : Cx} {EX : EXT}
theorem vals_map {α : Type} {f : α → V} {g : α → Value} : ∀ (l : List α), (∀ i ∈ l, RelV (f i) (g i)) → Vals (l.map f) (l.map g)
  | [], _ => .nil
  | i :: l, h => .cons (h i (.head _)) (vals_map l fun j hj => h j (.tail _ hj))
theorem reps_map {α : Type} {K : PySem.W.Frag} {O : List Addr} {H : Hp} {f : α → D} {g : α → V} : ∀ (l : List α), (∀ i ∈ l, Rep K O H (f i) (g i)) → Reps K O H (l.map f) (l.map g)
  | [], _ => Reps.nil_i.mpr rfl
  | i :: l, h => Reps.cons_i.mpr ⟨_, _, rfl, h i (.head _), reps_map l fun j hj => h j (.tail _ hj)⟩
end
end DL
namespace DL
open PySem PySem.Spec PyProof.Rows L2
section
variable {X : Cx} {EX : EXT} {e : Expr} {pos : Pos}
theorem pdf_callB {x : Str} {p : Pos} {es : List Expr} {id : String} {g : List D → Sto → Out (List D)} {f : DA} (hc : CallF X EX (.builtin id) g) (hg : Gl X x) (hm : X.mg x = none) (hv : bootBuiltins x = some (.builtin id)) (ha : PDA X EX (e :: es) f) (hn : x ≠ "__name__" := by decide) (hdb : (x == ("__debug__" : Str)) = false := by decide)
    (he : starEach (e :: es) X.env = (false, eval e X.env) :: starEach es X.env := by rfl) (hpl : (backTo pos (starEach es X.env)).any (·.1) = false := by rfl) : PDF X EX (.Call (.Name x p) (e :: es) [] pos) (dCall g f) := PE.mono (pe_callB hc hg hm hv ha hn hdb he hpl) callF_imp
end
end DL

end
section
set_option Elab.async false
set_option linter.all false
set_option maxRecDepth 100000
set_option maxHeartbeats 2000000
namespace HT
open PySem PySem.Builtin PySem.Builtin.Str
section
variable {prog : Program} {w : World} {A : Around} {E : Value → Shared → Prop} {s : Shared} {x y : Str} {t u : Tok} {Q : Value → Shared → Prop}
end
end HT
namespace DL
open PySem PySem.Spec PyProof.Rows L2
section
variable {X : Cx} {EX : EXT} {o a e : Expr} {es : List Expr} {fo fa : DE} {g : DA} {cpos apos : Pos}
end
end DL
namespace DL
open PySem PySem.Spec PyProof.Rows L2
end DL

end
section
set_option Elab.async false
set_option linter.all false
set_option maxRecDepth 100000
set_option Elab.async false
set_option linter.all false
set_option maxRecDepth 100000
namespace L2
open PySem PySem.Spec PyProof.Rows

end L2

namespace L2
open PySem PySem.Spec PyProof.Rows

section
variable (P : Program) (w : World)
end

section
variable {P : Program} {w : World} {H H' : Hp} {h h' : Heap} {a : Addr} {o : HO}
end

section
variable {P : Program} {w : World} {H : Hp} {h h' : Heap} {x e : Addr} {o' : HO}
end

section
variable {fs fs' ex ex' : List Addr} {H H1 H2 : Hp} {h h1 h2 h' : Heap} {a x e : Addr} {o : HO}
end

end L2

namespace L2
open PySem PySem.Spec PyProof.Rows

section
variable {X : Cx} {pins : List (Addr × Obj)} {σ : List (Option V)} {H H' : Hp} {s : Shared} {h' : Heap}

end

end L2

namespace L2
open PySem PySem.Spec PyProof.Rows
section
variable {X : Cx}

variable {a b : Expr} {ta tb : TE} {pos : Pos}
variable {tA tB' : TT} {rest : List Expr}
end
end L2

namespace L2
open PySem PySem.Spec PyProof.Rows

section
variable {X : Cx} {pins : List (Addr × Obj)} {σ : St} {H : Hp} {s : Shared} {a : Addr} {xs ys : List V}
end

section
variable {X : Cx} {pins : List (Addr × Obj)} {σ : St} {H : Hp} {s : Shared} {E : Value → Shared → Prop}
end

section
variable {X : Cx} {st : Stmt} {rest : List Stmt} {t u : TS} {e : Expr} {te : TE} {pos : Pos}
end

section
variable {X : Cx} {pos : Pos}
end

section
variable {X : Cx} {pos : Pos}
end

end L2

namespace L2
open PySem PySem.Spec PyProof.Rows
section
variable {X : Cx} {tg : Expr}
end

end L2

namespace L2
open PySem PySem.Spec PyProof.Rows

section
variable {X : Cx} {a b c : Expr} {ta tb tc : TE} {pos : Pos}

end

section
variable {X : Cx} {a b c : Expr} {ta tb tc : TE} {pos : Pos}
end
end L2

namespace L2
open PySem PySem.Spec PyProof.Rows

section
variable {prog : Program} {w : World} {A : Around} {E : Value → Shared → Prop} {s : Shared} {K : PySem.W.Frag} {x dx C f : Addr} {mA : Str → Option Value} {name : Str} {v : Value}

end

section
variable {P : Program} {w : World} {H H' : Hp} {h h' : Heap} {a C dx : Addr} {fs fs' : List (Str × V)}
end

section
variable {X : Cx} {pins : List (Addr × Obj)} {σ : St} {H : Hp} {s : Shared} {a C dx : Addr} {fs : List (Str × V)} {f : Str} {v : V} {A : Around} {E : Value → Shared → Prop}

end

section
variable {X : Cx} {o e value : Expr} {f : Str} {pos pos' tpos : Pos} {ta tv : TE}
end

section
variable {X : Cx} {pins : List (Addr × Obj)} {σ : St} {H : Hp} {s : Shared} {A : Around} {E : Value → Shared → Prop} {Q : Value → Shared → Prop} {c : Value} {b : Bool}
end
end L2

namespace L2
open PySem PySem.Spec PyProof.Rows

section
variable {X : Cx} {e : Expr} {es : List Expr} {te : TE} {t : TA} {pos : Pos}
end

section
variable {X : Cx} {pins : List (Addr × Obj)} {σ : St} {H : Hp} {s s' : Shared}
end

section
variable {X : Cx} {CX : CXT} {k : Nat} {f C : Addr} {fd : FuncData} {ps : List Str} {sp : Sp} {dvs : List V} {ds : List Value} {E : XK} {x m : Str} {p pos apos : Pos} {e o : Expr} {es : List Expr} {ta : TE} {t : TA}

end

section
variable {X : Cx} {CX : CXT} {k : Nat} {f C : Addr} {fd : FuncData} {ps ks : List Str} {sp : Sp} {E : XK} {x m : Str} {p pos apos kpos : Pos} {e o : Expr} {es : List Expr} {kws : List Keyword} {te ta : TE} {t tk : TA} {nm : Option Str}
variable {g : List Value → List Value → List Value} {gV : List V → List V → List V}
end

end L2

namespace L2
open PySem PySem.Spec PyProof.Rows
section
variable {X : Cx} {x : Str} {p pos : Pos} {e : Expr} {es : List Expr} {t : TA} {id T : String} {r : List V → Hp → VK → Prop}

end
end L2

namespace L2
open PySem PySem.Spec PyProof.Rows

section
variable {κ : Type} [DecidableEq κ]
noncomputable def valV (kvs : List (κ × V)) (k : κ) : Option V := (kvs.find? fun kv => decide (kv.1 = k)).map (·.2)
noncomputable def putK (kvs : List (κ × V)) (k : κ) (v : V) : List (κ × V) :=
  if (kvs.any fun kv => decide (kv.1 = k)) = true then kvs.map (fun kv => if kv.1 = k then (kv.1, v) else kv) else kvs ++ [(k, v)]
noncomputable def dropK (kvs : List (κ × V)) (k : κ) : List (κ × V) := kvs.filter fun kv => decide (kv.1 ≠ k)

theorem valV_pos {p : κ × V} {r : List (κ × V)} {k : κ} (e : p.1 = k) : valV (p :: r) k = some p.2 := by simp [valV, List.find?_cons, e]
theorem valV_neg {p : κ × V} {r : List (κ × V)} {k : κ} (e : ¬ p.1 = k) : valV (p :: r) k = valV r k := by simp [valV, List.find?_cons, e]
theorem valV_any (k : κ) : ∀ kvs : List (κ × V), (kvs.any fun kv => decide (kv.1 = k)) = (valV kvs k).isSome
  | [] => rfl
  | p :: r => by
    rw [List.any_cons]
    by_cases e : p.1 = k
    · simp only [valV_pos e, decide_eq_true e, Bool.true_or, Option.isSome_some]
    · rw [valV_neg e, decide_eq_false e, Bool.false_or]; exact valV_any k r
theorem length_putK (kvs : List (κ × V)) (k : κ) (v : V) : (putK kvs k v).length ≤ kvs.length + 1 := by
  unfold putK
  split
  · rw [List.length_map]; omega
  · rw [List.length_append, List.length_cons, List.length_nil]; omega
theorem RelO.isSome_eq {o : Option V} {u : Option Value} (r : RelO o u) : o.isSome = u.isSome := by
  cases o with
  | none => cases u with
    | none => rfl
    | some _ => exact (show False from r).elim
  | some _ => cases u with
    | none => exact (show False from r).elim
    | some _ => rfl
theorem RelO.getD {o : Option V} {u : Option Value} {d : V} {d' : Value} (r : RelO o u) (rd : RelV d d') : RelV (o.getD d) (u.getD d') := by
  cases o with
  | none => cases u with
    | none => exact rd
    | some _ => exact (show False from r).elim
  | some _ => cases u with
    | none => exact (show False from r).elim
    | some _ => exact r

theorem KV.val {kvs : List (κ × V)} {vs : List (κ × Value)} (r : KV kvs vs) (k : κ) : RelO (valV kvs k) (valueAt vs k) := by
  unfold KV at r
  induction r with
  | nil => exact True.intro
  | @cons p q ps qs h t ih =>
    obtain ⟨h1, h2⟩ := h
    by_cases e : p.1 = k
    · have e' : q.1 = k := h1.symm.trans e
      have b : valueAt (q :: qs) k = some q.2 := by simp [valueAt, List.find?_cons, e']
      rw [valV_pos e, b]; exact h2
    · have e' : ¬ q.1 = k := fun z => e (h1.trans z)
      have b : valueAt (q :: qs) k = valueAt qs k := by simp [valueAt, List.find?_cons, e']
      rw [valV_neg e, b]; exact ih
theorem KV.any {kvs : List (κ × V)} {vs : List (κ × Value)} (r : KV kvs vs) (k : κ) : (kvs.any fun kv => decide (kv.1 = k)) = vs.any fun kv => decide (kv.1 = k) := by
  unfold KV at r
  induction r with
  | nil => rfl
  | cons h t ih => rw [List.any_cons, List.any_cons, ih, h.1]
theorem KV.repl {kvs : List (κ × V)} {vs : List (κ × Value)} (r : KV kvs vs) (k : κ) {y : V} {u : Value} (ry : RelV y u) :
    KV (kvs.map fun kv => if kv.1 = k then (kv.1, y) else kv) (vs.map fun kv => if kv.1 = k then (kv.1, u) else kv) := by
  unfold KV at r ⊢
  induction r with
  | nil => exact .nil
  | @cons p q ps qs h t ih =>
    rw [List.map_cons, List.map_cons]
    refine .cons ?_ ih
    obtain ⟨h1, h2⟩ := h
    by_cases e : p.1 = k
    · rw [if_pos e, if_pos (h1.symm.trans e)]; exact ⟨h1, ry⟩
    · rw [if_neg e, if_neg (fun z => e (h1.trans z))]; exact ⟨h1, h2⟩
theorem KV.put {kvs : List (κ × V)} {vs : List (κ × Value)} (r : KV kvs vs) (k : κ) {y : V} {u : Value} (ry : RelV y u) : KV (putK kvs k y) (stored vs k u) := by
  unfold putK stored
  rw [r.any k]
  by_cases e : (vs.any fun kv => decide (kv.1 = k)) = true
  · rw [if_pos e, if_pos e]; exact r.repl k ry
  · rw [if_neg e, if_neg e]; exact Paired.snoc r ⟨rfl, ry⟩
theorem KV.drop {kvs : List (κ × V)} {vs : List (κ × Value)} (r : KV kvs vs) (k : κ) : KV (dropK kvs k) (without vs k) := by
  unfold KV at r ⊢
  unfold dropK without
  induction r with
  | nil => exact .nil
  | @cons p q ps qs h t ih =>
    obtain ⟨h1, h2⟩ := h
    rw [List.filter_cons, List.filter_cons]
    by_cases e : p.1 = k
    · have a : ¬ decide (p.1 ≠ k) = true := by simp [e]
      have b : ¬ decide (q.1 ≠ k) = true := by simp [h1.symm.trans e]
      rw [if_neg a, if_neg b]; exact ih
    · have e' : ¬ q.1 = k := fun z => e (h1.trans z)
      have a : decide (p.1 ≠ k) = true := by simp [e]
      have b : decide (q.1 ≠ k) = true := by simp [e']
      rw [if_pos a, if_pos b]; exact .cons ⟨h1, h2⟩ ih
theorem KV.keys {kvs : List (κ × V)} {vs : List (κ × Value)} (r : KV kvs vs) : kvs.map (·.1) = vs.map (·.1) := by
  unfold KV at r
  induction r with
  | nil => rfl
  | cons h t ih => rw [List.map_cons, List.map_cons, ih, h.1]
theorem KV.length {kvs : List (κ × V)} {vs : List (κ × Value)} (r : KV kvs vs) : kvs.length = vs.length := Paired.length r
theorem dropK_le (kvs : List (κ × V)) (k : κ) : (dropK kvs k).length ≤ kvs.length := List.length_filter_le _ _
end


theorem kV_is {P : Program} {w : World} {k : Key} {u : Value} (r : RelV (kV k) u) : (mixKind P w).is k u = true := by
  cases k with
  | inl i => obtain ⟨t, e⟩ := (show ∃ t, u = Value.int i t from r); subst e; exact mixKind_int P w i t
  | inr x => obtain ⟨t, e⟩ := (show ∃ t, u = Value.str x t from r); subst e; exact mixKind_str P w x t
theorem items_are {P : Program} {w : World} : ∀ {ks : List Key} {us : List Value}, Vals (ks.map kV) us → ItemsAre (mixKind P w) ks us
  | [], _, r => by rw [List.map_nil] at r; cases r; exact .nil
  | k :: ks, _, r => by
    rw [List.map_cons] at r
    cases r with
    | cons h t => exact .cons (kV_is h) (items_are t)

noncomputable abbrev KT (H : Hp) : List (List Key × V) → List (List Key × Addr × Value) → Prop := Paired fun p q => p.1 = q.1 ∧ H q.2.1 = some (.tup (p.1.map kV)) ∧ RelV p.2 q.2.2
theorem KT.val {H : Hp} {kvs : List (List Key × V)} {xs : List (List Key × Addr × Value)} (r : KT H kvs xs) (k : List Key) : RelO (valV kvs k) ((atKey xs k).map (·.2)) := by
  induction r with
  | nil => exact True.intro
  | @cons p q ps qs h t ih =>
    obtain ⟨h1, _, h2⟩ := h
    by_cases e : p.1 = k
    · have e' : q.1 = k := h1.symm.trans e
      have b : atKey (q :: qs) k = some q.2 := by simp [atKey, List.find?_cons, e']
      rw [valV_pos e, b]; exact h2
    · have e' : ¬ q.1 = k := fun z => e (h1.trans z)
      have b : atKey (q :: qs) k = atKey qs k := by simp [atKey, List.find?_cons, e']
      rw [valV_neg e, b]; exact ih
theorem KT.repl {H : Hp} {kvs : List (List Key × V)} {xs : List (List Key × Addr × Value)} (r : KT H kvs xs) (k : List Key) {y : V} {u : Value} (ry : RelV y u) :
    KT H (kvs.map fun kv => if kv.1 = k then (kv.1, y) else kv) (xs.map (putAt k u)) := by
  induction r with
  | nil => exact .nil
  | @cons p q ps qs h t ih =>
    rw [List.map_cons, List.map_cons]
    refine .cons ?_ ih
    obtain ⟨h1, h2, h3⟩ := h
    unfold putAt
    by_cases e : p.1 = k
    · rw [if_pos e, if_pos (h1.symm.trans e)]; exact ⟨h1, h2, ry⟩
    · rw [if_neg e, if_neg (fun z => e (h1.trans z))]; exact ⟨h1, h2, h3⟩
theorem KT.put {H : Hp} {kvs : List (List Key × V)} {xs : List (List Key × Addr × Value)} (r : KT H kvs xs) (k : List Key) {b : Addr} {y : V} {u : Value} (hb : H b = some (.tup (k.map kV))) (ry : RelV y u) :
    KT H (putK kvs k y) (storedH xs k b u) := by
  have e : (kvs.any fun kv => decide (kv.1 = k)) = (atKey xs k).isSome := by
    rw [valV_any, (r.val k).isSome_eq, Option.isSome_map]
  unfold putK storedH
  rw [e]
  by_cases q : (atKey xs k).isSome = true
  · rw [if_pos q, if_pos q]; exact r.repl k ry
  · rw [if_neg q, if_neg q]; exact Paired.snoc r ⟨rfl, hb, ry⟩
theorem KT.keeps {H H' : Hp} {kvs : List (List Key × V)} {xs : List (List Key × Addr × Value)} (r : KT H kvs xs) (ht : ∀ b ys, H b = some (.tup ys) → H' b = some (.tup ys)) : KT H' kvs xs :=
  Paired.mapP r fun _ _ z => ⟨z.1, ht _ _ z.2.1, z.2.2⟩

section
variable {P : Program} {w : World} {H : Hp} {h : Heap} {a : Addr}
theorem rd_of {u : HO} (ok : HOk P w H h) (e : Rd H a u) : ObjOk P w H h a u := e.ok ok
theorem dk_rd {kvs : List (Key × V)} (ok : HOk P w H h) (e : Rd H a (.dK kvs)) : kvs.length ≤ sizeLine ∧ (a == sysModules) = false ∧ ∃ vs, KV kvs vs ∧ h.DictOf (mixKind P w) a vs :=
  show ObjOk P w H h a (.dK kvs) from rd_of ok e
theorem dk_of {kvs : List (Key × V)} (ok : HOk P w H h) (e : H a = some (.dK kvs)) : kvs.length ≤ sizeLine ∧ (a == sysModules) = false ∧ ∃ vs, KV kvs vs ∧ h.DictOf (mixKind P w) a vs := dk_rd ok (.inl e)
theorem key_of {ks : List Key} (ok : HOk P w H h) (e : H a = some (.tup (ks.map kV))) : (tupleKind (mixKind P w)).is h ks a := by
  obtain ⟨_, its, r, o, h1, h2, n, h3⟩ := (show ObjOk P w H h a (.tup (ks.map kV)) from ok a _ e)
  exact ⟨o, its.toArray, n, h1, h2, h3, by simpa using items_are r⟩
theorem dt_rd {kvs : List (List Key × V)} (ok : HOk P w H h) (e : Rd H a (.dT kvs)) : kvs.length ≤ sizeLine ∧ (a == sysModules) = false ∧
    ∃ xs, KT H kvs xs ∧ h.DictOfH (tupleKind (mixKind P w)) a xs := by
  obtain ⟨z, y, xs, r, o, es, ep, h1, h2, h3, h4, h5⟩ := (show ObjOk P w H h a (.dT kvs) from rd_of ok e)
  refine ⟨z, y, xs, r, o, es, ep, h1, h2, h3, h4, fun x hx => ?_, h5⟩
  have all : ∀ {l : List (List Key × V)} {m : List (List Key × Addr × Value)}, KT H l m → ∀ x ∈ m, (tupleKind (mixKind P w)).is h x.1 x.2.1 := by
    intro l m q
    induction q with
    | nil => intro x hx; exact nomatch hx
    | @cons p q ps qs hq t ih =>
      intro x hx
      rcases List.mem_cons.mp hx with e | hx
      · subst e
        exact key_of ok (by rw [← hq.1]; exact hq.2.1)
      · exact ih x hx
  exact all r x hx
theorem dt_of {kvs : List (List Key × V)} (ok : HOk P w H h) (e : H a = some (.dT kvs)) : kvs.length ≤ sizeLine ∧ (a == sysModules) = false ∧
    ∃ xs, KT H kvs xs ∧ h.DictOfH (tupleKind (mixKind P w)) a xs := dt_rd ok (.inl e)
end

noncomputable def DGet (H : Hp) (a : Addr) (y : V) (r : Option V) : Prop :=
  (∃ kvs k, Rd H a (.dK kvs) ∧ y = kV k ∧ r = valV kvs k) ∨ ∃ kvs k b, Rd H a (.dT kvs) ∧ y = .ref b ∧ H b = some (.tup (k.map kV)) ∧ r = valV kvs k
noncomputable def DPut (H : Hp) (a : Addr) (y v : V) (H' : Hp) : Prop :=
  (∃ kvs k, H a = some (.dK kvs) ∧ y = kV k ∧ kvs.length < sizeLine ∧ H' = upd H a (.dK (putK kvs k v))) ∨
  ∃ kvs k b, H a = some (.dT kvs) ∧ y = .ref b ∧ H b = some (.tup (k.map kV)) ∧ kvs.length < sizeLine ∧ H' = upd H a (.dT (putK kvs k v))
theorem DGet.k {H : Hp} {a : Addr} {kvs : List (Key × V)} {k : Key} (e : H a = some (.dK kvs)) : DGet H a (kV k) (valV kvs k) := .inl ⟨kvs, k, .inl e, rfl, rfl⟩
theorem DGet.t {H : Hp} {a b : Addr} {kvs : List (List Key × V)} {k : List Key} (e : H a = some (.dT kvs)) (eb : H b = some (.tup (k.map kV))) : DGet H a (.ref b) (valV kvs k) := .inr ⟨kvs, k, b, .inl e, rfl, eb, rfl⟩
theorem DPut.k {H : Hp} {a : Addr} {kvs : List (Key × V)} {k : Key} {v : V} (e : H a = some (.dK kvs)) (hl : kvs.length < sizeLine) : DPut H a (kV k) v (upd H a (.dK (putK kvs k v))) := .inl ⟨kvs, k, e, rfl, hl, rfl⟩
theorem DPut.t {H : Hp} {a b : Addr} {kvs : List (List Key × V)} {k : List Key} {v : V} (e : H a = some (.dT kvs)) (eb : H b = some (.tup (k.map kV))) (hl : kvs.length < sizeLine) :
    DPut H a (.ref b) v (upd H a (.dT (putK kvs k v))) := .inr ⟨kvs, k, b, e, rfl, eb, hl, rfl⟩


section
variable {X : Cx} {pins : List (Addr × Obj)} {σ : St} {H : Hp} {s : Shared} {a : Addr} {y v : V} {u r : Value} {o : Option V} {A : Around} {E : Value → Shared → Prop}

theorem Inv.big (I : Inv X pins σ H s) : sysModules < s.heap.objs.size := by
  have h : mainGlobals < s.heap.objs.size := (I.mod.glob.keeps I.bk).lt
  exact Nat.lt_trans (by decide) h

theorem d_getItem {Q : Value → Shared → Prop} (hu : A.units + 1 < cLine) (I : Inv X pins σ H s) (g : DGet H a y (some v)) (ry : RelV y u) (h : ∀ w' s', Inv X pins σ H s' → RelV v w' → Q w' s') :
    wpAny (model X.prog X.w) A (getItem (.ref a) u) Q E s := by
  rcases g with ⟨kvs, k, e, ey, l⟩ | ⟨kvs, k, b, e, ey, eb, l⟩
  · subst ey
    obtain ⟨z, hd, vs, rel, dd⟩ := dk_rd I.hok e
    obtain ⟨w', hw, rw'⟩ := RelO.some_of (v := v) (o := valueAt vs k) (by rw [l]; exact rel.val k)
    exact wpAny_getItem_of (kV_is ry) dd.mapOf hw (h w' _ (I.tok _) rw')
  · subst ey
    cases (show u = Value.ref b from ry)
    obtain ⟨z, hd, xs, rel, dd⟩ := dt_rd I.hok e
    obtain ⟨w', hw, rw'⟩ := RelO.some_of (v := v) (o := (atKey xs k).map (·.2)) (by rw [l]; exact rel.val k)
    obtain ⟨p, hp, hp2⟩ := Option.map_eq_some_iff.mp hw
    refine wpAny_getItem_heap (tupleKind_room_in1 hu) (key_of I.hok eb) dd hp ?_
    rw [hp2]
    exact h w' _ (I.tok _) rw'
theorem d_in {Q : Value → Shared → Prop} (hu : A.units + 1 < cLine) (I : Inv X pins σ H s) (g : DGet H a y o) (ry : RelV y u) (h : ∀ s', Inv X pins σ H s' → Q (.bool o.isSome) s') :
    wpAny (model X.prog X.w) A (compareOp .In u (.ref a)) Q E s := by
  rcases g with ⟨kvs, k, e, ey, l⟩ | ⟨kvs, k, b, e, ey, eb, l⟩
  · subst ey
    obtain ⟨z, hd, vs, rel, dd⟩ := dk_rd I.hok e
    refine wpAny_in_of (kV_is ry) hd dd.mapOf ?_
    rw [← (rel.val k).isSome_eq, ← l]
    exact h _ (I.tok _)
  · subst ey
    cases (show u = Value.ref b from ry)
    obtain ⟨z, hd, xs, rel, dd⟩ := dt_rd I.hok e
    refine wpAny_in_heap (tupleKind_room_in1 hu) (key_of I.hok eb) hd dd ?_
    have q := (rel.val k).isSome_eq
    rw [Option.isSome_map] at q
    rw [← q, ← l]
    exact h _ (I.tok _)
theorem d_notIn {Q : Value → Shared → Prop} (hu : A.units + 1 < cLine) (I : Inv X pins σ H s) (g : DGet H a y o) (ry : RelV y u) (h : ∀ s', Inv X pins σ H s' → Q (.bool (!o.isSome)) s') :
    wpAny (model X.prog X.w) A (compareOp .NotIn u (.ref a)) Q E s := by
  rcases g with ⟨kvs, k, e, ey, l⟩ | ⟨kvs, k, b, e, ey, eb, l⟩
  · subst ey
    obtain ⟨z, hd, vs, rel, dd⟩ := dk_rd I.hok e
    refine wpAny_notIn_of (kV_is ry) hd dd.mapOf ?_
    rw [← (rel.val k).isSome_eq, ← l]
    exact h _ (I.tok _)
  · subst ey
    cases (show u = Value.ref b from ry)
    obtain ⟨z, hd, xs, rel, dd⟩ := dt_rd I.hok e
    refine wpAny_notIn_heap (tupleKind_room_in1 hu) (key_of I.hok eb) hd dd ?_
    have q := (rel.val k).isSome_eq
    rw [Option.isSome_map] at q
    rw [← q, ← l]
    exact h _ (I.tok _)
theorem d_write {h' : Heap} {t' : Nat} {ob : HO} (I : Inv X pins σ H s) (mu : Mut (H a)) (hs : Heap.SameBut a s.heap h') (he : ∃ q, h'.get? a = some q) (new : ObjOk X.prog X.w (upd H a ob) h' a ob) :
    Inv X pins σ (upd H a ob) { s with heap := h', toks := t' } :=
  I.write (x := a) (e := a) mu (.inl rfl) (fun b q hb z => (hs.2 b hb).trans z) he new
theorem dk_new {P : Program} {w : World} {H' : Hp} {h' : Heap} {kvs : List (Key × V)} {vs : List (Key × Value)} (z : kvs.length ≤ sizeLine) (hd : (a == sysModules) = false) (rel : KV kvs vs) (dd : h'.DictOf (mixKind P w) a vs) :
    ObjOk P w H' h' a (.dK kvs) := ⟨z, hd, vs, rel, dd⟩
theorem d_setItem {H' : Hp} {Q : Unit → Shared → Prop} (hu : A.units + 1 < cLine) (I : Inv X pins σ H s) (g : DPut H a y v H') (ry : RelV y u) (rv : RelV v r) (h : ∀ s', Inv X pins σ H' s' → Q () s') :
    wpAny (model X.prog X.w) A (setItem (.ref a) u r) Q E s := by
  rcases g with ⟨kvs, k, e, ey, l, eH⟩ | ⟨kvs, k, b, e, ey, eb, l, eH⟩
  · subst ey eH
    obtain ⟨z, hd, vs, rel, dd⟩ := dk_of I.hok e
    have hz : vs.length ≤ sizeLine := by rw [← rel.length]; exact z
    have hl : (putK kvs k v).length ≤ sizeLine := by have := length_putK kvs k v; omega
    refine wpAny_setItem_pairs (hsz := hz) (kV_is ry) dd fun h' dd' hs => h _ ?_
    have he : ∃ q, h'.get? a = some q := let ⟨q, _, _, hq, _⟩ := dd'; ⟨q, hq⟩
    exact d_write I (by rw [e]; exact True.intro) hs he (dk_new hl hd (rel.put k rv) dd')
  · subst ey eH
    cases (show u = Value.ref b from ry)
    obtain ⟨z, hd, xs, rel, dd⟩ := dt_of I.hok e
    have hz : xs.length ≤ sizeLine := by rw [← Paired.length rel]; exact z
    have hl : (putK kvs k v).length ≤ sizeLine := by have := length_putK kvs k v; omega
    refine wpAny_setItem_heap (hsz := hz) (tupleKind_room_in1 hu) (key_of I.hok eb) dd fun h' dd' hs => h _ ?_
    obtain ⟨q, es, ep, hq, h2, h3, h4, _, h5⟩ := dd'
    refine d_write I (by rw [e]; exact True.intro) hs ⟨q, hq⟩ ⟨hl, hd, _, (rel.put k eb rv).keeps fun c ys ec => ?_, q, es, ep, hq, h2, h3, h4, h5⟩
    rw [upd_ne (ne_of ec e (fun z => nomatch z))]
    exact ec
end

section
variable {X : Cx} {pins : List (Addr × Obj)} {σ : St} {H : Hp} {s : Shared} {a : Addr} {kvs : List (Key × V)} {k : Key} {u : Value} {A : Around} {E : Value → Shared → Prop}
theorem d_pop {v : V} {more : List Value} {Q : Value → Shared → Prop} (I : Inv X pins σ H s) (e : H a = some (.dK kvs)) (ry : RelV (kV k) u) (l : valV kvs k = some v) (hm : more = [] ∨ ∃ x, more = [x])
    (h : ∀ w' s', Inv X pins σ (upd H a (.dK (dropK kvs k))) s' → RelV v w' → Q w' s') : wpAny (model X.prog X.w) A (call (.builtin "dict.pop") (.ref a :: u :: more)) Q E s := by
  obtain ⟨z, hd, vs, rel, dd⟩ := dk_of I.hok e
  obtain ⟨w', hw, rw'⟩ := RelO.some_of (v := v) (o := valueAt vs k) (by rw [← l]; exact rel.val k)
  have hp : (keyPart u).isSome = true := by
    cases k with
    | inl i => obtain ⟨t, q⟩ := (show ∃ t, u = Value.int i t from ry); subst q; rfl
    | inr x => obtain ⟨t, q⟩ := (show ∃ t, u = Value.str x t from ry); subst q; rfl
  have ha : argsOk "dict.pop" ⟨.ref a :: u :: more, []⟩ := by
    rcases hm with q | ⟨x, q⟩
    · subst q; exact PySem.F.args_dict_pop_2 _ _
    · subst q; exact PySem.F.args_dict_pop_3 _ _ _
  refine call_meetsIn PySem.F.slot_dict_pop dd.typeIs PySem.F.entry_dict_pop ha (meets_dict_pop_there (mixKind X.prog X.w) a (kV_is ry) more hm hp)
    ⟨vs, w', dd, by rw [← rel.length]; exact z, hw, fun h' dd' hs => h w' _ ?_ rw'⟩
  have he : ∃ q, h'.get? a = some q := let ⟨q, _, _, hq, _⟩ := dd'; ⟨q, hq⟩
  exact d_write I (by rw [e]; exact True.intro) hs he (dk_new (Nat.le_trans (dropK_le kvs k) z) hd (rel.drop k) dd')
theorem d_len {Q : Value → Shared → Prop} (I : Inv X pins σ H s) (e : Rd H a (.dK kvs)) (h : ∀ t s', Inv X pins σ H s' → Q (.int kvs.length t) s') : wpAny (model X.prog X.w) A (call (.builtin "len") [.ref a]) Q E s := by
  obtain ⟨z, hd, vs, rel, dd⟩ := dk_rd I.hok e
  refine call_len_dict hd dd (by rw [← rel.length]; rw [sizeLine_eq] at z; omega) ?_
  rw [← rel.length]
  exact h _ _ (I.tok _)
end


noncomputable def NoSl (i : Expr) : Prop := ∀ ov iv, subscripted i false ov iv = operate [ov, iv] (getItem ov iv)
theorem subD_of {prog : Program} {w : World} {A : Around} {E : Value → Shared → Prop} {s : Shared} {env : Env} {value slice : Expr} {pos : Pos} {T id : String} {Q : Value → Shared → Prop}
    (hl : typeLookup (.type T) "__getitem__" = pure (some (.builtin id))) (hs : NoSl slice)
    (h : wpAny (model prog w) A (eval value env) (fun o s₁ => wpAny (model prog w) A (eval slice env) (fun i s₂ => s₂.TypeIs o T ∧ wpAny (model prog w) A (getItem o i) Q E s₂) E s₁) E s) :
    wpAny (model prog w) A (eval (.Subscript value slice pos) env) Q E s := by
  refine Subscript_ (wpAny_mono h (fun o s₁ h₁ => wpAny_mono h₁ (fun i s₂ h₂ => ?_) fun _ _ x => x) fun _ _ x => x)
  obtain ⟨hT, h₂⟩ := h₂
  unfold subscriptTail
  refine wpAny_bind ?_
  rw [getitemInPython_of_ne hT.not_modules]
  refine wpAny_bind (wpAny_specialOf hT hl ?_)
  have fin : wpAny (model prog w) A (subscripted slice false o i) (fun r s₃ => wpAny (model prog w) A (letTemporaryGo value o r >>= fun _ => pure r) Q E s₃) E s₂ := by
    rw [hs o i]
    exact wpAny_operating (wpAny_mono h₂ (fun r s₃ h₃ => wpAny_bind (wpAny_letTemporaryGo (wpAny_pure h₃))) fun _ _ x => x)
  first
    | exact wpAny_pure (wpAny_bind fin)
    | exact wpAny_bind (wpAny_pure (wpAny_bind fin))
    | exact wpAny_bind fin

theorem dict_typeIs {X : Cx} {pins : List (Addr × Obj)} {σ : St} {H : Hp} {s : Shared} {a : Addr} {y : V} {o : Option V} (I : Inv X pins σ H s) (g : DGet H a y o) : s.TypeIs (.ref a) "dict" := by
  rcases g with ⟨kvs, k, e, _, _⟩ | ⟨kvs, k, b, e, _, _, _⟩
  · obtain ⟨_, _, vs, _, dd⟩ := dk_rd I.hok e
    exact dd.typeIs
  · obtain ⟨_, _, xs, _, dd⟩ := dt_rd I.hok e
    exact dd.typeIs
noncomputable def tDGet (td ty : TE) : TE := fun σ H Q => td σ H fun x H1 => ty σ H1 fun y H2 => ∃ a v, x = .ref a ∧ DGet H2 a y (some v) ∧ Q v H2
noncomputable def sDPut (td ty tv : TE) : TS := fun D σ H => tv σ H fun v H1 => td σ H1 fun x H2 => ty σ H2 fun y H3 => ∃ a H4, x = .ref a ∧ DPut H3 a y v H4 ∧ D.nx σ H4
section
variable {X : Cx} {o i e value : Expr} {pos pos' tpos : Pos} {td ty tv : TE}
theorem pe_dget (hu : X.A.units + 1 < cLine) (ho : PE X o td) (hi : PE X i ty) (hs : NoSl i) : PE X (.Subscript o i pos) (tDGet td ty) := by
  intro pins s σ H Q I h
  refine subD_of PySem.F.slot_dict_getitem.lookup hs (thn (ho pins s σ H _ I h) fun u s1 ⟨x, H1, I1, rx, q1⟩ => thn (hi pins s1 σ H1 _ I1 q1) fun iv s2 ⟨y, H2, I2, ry, a, v, ex, g, q2⟩ => ?_)
  subst ex
  obtain rfl : u = Value.ref a := rx
  exact ⟨dict_typeIs I2 g, d_getItem hu I2 g ry fun w' s3 I3 rw' => ⟨v, H2, I3, rw', q2⟩⟩
theorem ps_dput (hu : X.A.units + 1 < cLine) (ho : PE X o td) (hi : PE X i ty) (hv : PE X value tv) (hs : swapsWith value (some (.Subscript o i pos')) pos.line X.env = pure false) :
    PS X (.Assign [.Subscript o i pos'] value pos) (sDPut td ty tv) := by
  intro pins s σ H D I h
  refine wpAny_Assign_Subscript (thn (hv pins s σ H _ I h) fun r s1 ⟨v, H1, I1, rv, q1⟩ => thn (ho pins s1 σ H1 _ I1 q1) fun u s2 ⟨x, H2, I2, rx, q2⟩ => thn (hi pins s2 σ H2 _ I2 q2) fun iv s3 ⟨y, H3, I3, ry, a, H4, ex, g, q3⟩ => ?_) hs
  subst ex
  obtain rfl : u = Value.ref a := rx
  exact d_setItem hu I3 g ry rv fun s4 I4 => ⟨σ, H4, I4, q3⟩
end


theorem dk_empty {P : Program} {w : World} {H : Hp} (h : Heap) (hb : sysModules < h.objs.size) : ObjOk P w H (h.push { cls := .type "dict", data := .dict #[] }) h.objs.size (.dK []) :=
  ⟨Nat.zero_le _, beq_eq_false_iff_ne.mpr (Ne.symm (Nat.ne_of_lt hb)), [], .nil, Heap.DictOf.new h⟩
noncomputable def tDNewK : TE := fun _ H Q => ∀ p, H p = none → Q (.ref p) (upd H p (.dK []))
section
variable {X : Cx} {pos : Pos}
theorem pe_dnewK : PE X (.Dict [] [] pos) tDNewK := fun pins s σ H Q I h =>
  wpAny_Dict_empty ⟨.ref s.heap.objs.size, _, I.laid (a := s.heap.objs.size) (o := .dK []) (t' := s.toks) (fun _ _ q => Heap.get?_push_of_some _ q) (Nat.le_refl _) (dk_empty s.heap I.big), rfl, h _ (I.hok.fresh (Nat.le_refl _))⟩
end

noncomputable def tPairs : List (TE × TE) → St → Hp → (List (V × V) → Hp → Prop) → Prop
  | [], _, H, Q => Q [] H
  | (tk, tv) :: r, σ, H, Q => tk σ H fun x H1 => tv σ H1 fun y H2 => tPairs r σ H2 fun ps H3 => Q ((x, y) :: ps) H3
noncomputable abbrev VV : List (V × V) → List (Value × Value) → Prop := Paired fun p q => RelV p.1 q.1 ∧ RelV p.2 q.2
noncomputable def PPs (X : Cx) (pos : Pos) (keys : List (Option Expr)) (values : List Expr) (trs : List (TE × TE)) : Prop :=
  ∀ (pins : List (Addr × Obj)) (s : Shared) (σ : St) (H : Hp) (Q : List (V × V) → Hp → Prop), Inv X pins σ H s → tPairs trs σ H Q →
    wpAny (model X.prog X.w) X.A (evalPairs (pairTrees keys values X.env pos)) (fun vs s' => ∃ ps H', Inv X pins σ H' s' ∧ VV ps vs ∧ Q ps H') X.xe s
theorem pps_nil {X : Cx} {pos : Pos} : PPs X pos [] [] [] := fun pins s σ H Q I h => pairTrees_nil_walk ⟨[], H, I, .nil, h⟩
theorem pps_cons {X : Cx} {pos : Pos} {k v : Expr} {ks : List (Option Expr)} {vs : List Expr} {tk tv : TE} {trs : List (TE × TE)} (hk : PE X k tk) (hv : PE X v tv) (hr : PPs X pos ks vs trs) :
    PPs X pos (some k :: ks) (v :: vs) ((tk, tv) :: trs) := fun pins s σ H Q I h =>
  pairTrees_cons_walk (thn (hk pins s σ H _ I h) fun u s1 ⟨x, H1, I1, rx, q1⟩ => thn (hv pins s1 σ H1 _ I1 q1) fun w2 s2 ⟨y, H2, I2, ry, q2⟩ =>
    thn (hr pins s2 σ H2 _ I2 q2) fun ws s3 ⟨ps, H3, I3, rel, q3⟩ => ⟨(x, y) :: ps, H3, I3, .cons ⟨rx, ry⟩ rel, q3⟩)

noncomputable def mergeK (kvs more : List (Key × V)) : List (Key × V) := more.foldl (fun acc kv => putK acc kv.1 kv.2) kvs
theorem KV.merge : ∀ {more : List (Key × V)} {rs : List (Key × Value)} {kvs : List (Key × V)} {vs : List (Key × Value)}, KV more rs → KV kvs vs → KV (mergeK kvs more) (merged vs rs) := by
  intro more rs kvs vs r
  unfold KV at r
  induction r generalizing kvs vs with
  | nil => intro q; exact q
  | @cons p q ps qs h t ih =>
    intro r0
    have e : KV (putK kvs p.1 p.2) (stored vs q.1 q.2) := by
      have := r0.put p.1 h.2
      rw [← h.1]; exact this
    exact ih e
theorem length_mergeK : ∀ (more kvs : List (Key × V)), (mergeK kvs more).length ≤ kvs.length + more.length
  | [], kvs => by show kvs.length ≤ kvs.length + 0; omega
  | p :: r, kvs => by
    have h1 := length_mergeK r (putK kvs p.1 p.2)
    have h2 := length_putK kvs p.1 p.2
    show (mergeK (putK kvs p.1 p.2) r).length ≤ _
    rw [List.length_cons]; omega
theorem carries_of {P : Program} {w : World} : ∀ {kvs : List (Key × V)} {ws : List (Value × Value)}, VV (kvs.map fun kv => (kV kv.1, kv.2)) ws → ∃ rs, Carries (mixKind P w) ws rs ∧ KV kvs rs
  | [], _, r => by rw [List.map_nil] at r; cases r; exact ⟨[], True.intro, .nil⟩
  | p :: kvs, _, r => by
    rw [List.map_cons] at r
    cases r with
    | @cons a b as bs h t =>
      obtain ⟨rs, c, q⟩ := carries_of (P := P) (w := w) t
      obtain ⟨b1, b2⟩ := b
      exact ⟨(p.1, b2) :: rs, ⟨kV_is h.1, rfl, c⟩, .cons ⟨rfl, h.2⟩ q⟩
noncomputable def tDisp (trs : List (TE × TE)) : TE := fun σ H Q => ∀ p, H p = none → tPairs trs σ (upd H p (.dK [])) fun ps H2 => H2 p = some (.dK []) ∧ ∃ kvs : List (Key × V), ps = kvs.map (fun kv => (kV kv.1, kv.2)) ∧ kvs.length ≤ 15 ∧ Q (.ref p) (upd H2 p (.dK (mergeK [] kvs)))
theorem pe_disp {X : Cx} {pos : Pos} {keys : List (Option Expr)} {values : List Expr} {trs : List (TE × TE)} (h : PPs X pos keys values trs) (hall : keys.all (·.isSome) = true) (hl : keys.length = values.length) (h0 : keys ≠ [])
    (h15 : keys.length ≤ 15) : PE X (.Dict keys values pos) (tDisp trs) := by
  intro pins s σ H Q I q
  have hn := I.hok.fresh (Nat.le_refl s.heap.objs.size)
  have I1 := I.laid (a := s.heap.objs.size) (o := .dK []) (h' := s.heap.push { cls := .type "dict", data := .dict #[] }) (t' := s.toks) (fun _ _ q => Heap.get?_push_of_some _ q) (Nat.le_refl _) (dk_empty s.heap I.big)
  refine wpAny_Dict_walk (knd := mixKind X.prog X.w) hall hl h0 h15 (thn (h pins _ σ _ _ I1 (q _ hn)) fun ws s2 ⟨ps, H2, I2, rel, e, kvs, ep, lk, q2⟩ => ?_)
  subst ep
  obtain ⟨rs, c, rk⟩ := carries_of (P := X.prog) (w := X.w) rel
  obtain ⟨z, hd, vs0, r0, dd⟩ := dk_of I2.hok e
  cases r0
  refine ⟨rs, c, dd, fun h' dd' hs => ⟨.ref s.heap.objs.size, _, ?_, rfl, q2⟩⟩
  have hz : (mergeK [] kvs).length ≤ sizeLine := by
    have h1 := length_mergeK kvs []
    rw [List.length_nil] at h1
    rw [sizeLine_eq]; omega
  have he : ∃ q, h'.get? s.heap.objs.size = some q := let ⟨q, _, _, hq, _⟩ := dd'; ⟨q, hq⟩
  exact d_write I2 (by rw [e]; exact True.intro) hs he (dk_new hz hd (rk.merge .nil) dd')


structure M1 (X : Cx) (o : Expr) (m : Str) (apos : Pos) (e : Expr) (cpos : Pos) : Prop where
  base : attributeBase o m X.env (eval o X.env) = eval o X.env
  few : ((backTo cpos (starEach [e] X.env)).all (fun x => !x.1) && (backToKw cpos (keywordEach [] X.env)).all (fun x => x.1.isSome)
    && decide (([e] : List Expr).length + ([] : List Keyword).length + (if ([] : List Keyword).isEmpty then 0 else 1) < 30)) = true
  line : (apos.endLine == cpos.line) = true
  trees : backTo cpos (starEach [e] X.env) = [(false, eval e X.env)]
structure M2 (X : Cx) (o : Expr) (m : Str) (apos : Pos) (e f : Expr) (cpos : Pos) : Prop where
  base : attributeBase o m X.env (eval o X.env) = eval o X.env
  few : ((backTo cpos (starEach [e, f] X.env)).all (fun x => !x.1) && (backToKw cpos (keywordEach [] X.env)).all (fun x => x.1.isSome)
    && decide (([e, f] : List Expr).length + ([] : List Keyword).length + (if ([] : List Keyword).isEmpty then 0 else 1) < 30)) = true
  line : (apos.endLine == cpos.line) = true
  trees : backTo cpos (starEach [e, f] X.env) = [(false, eval e X.env), (false, eval f X.env)]

noncomputable def IsD (H : Hp) (a : Addr) : Prop := (∃ kvs, Rd H a (.dK kvs)) ∨ ∃ kvs, Rd H a (.dT kvs)
theorem isD_at {X : Cx} {pins : List (Addr × Obj)} {σ : St} {H : Hp} {s : Shared} {a : Addr} (I : Inv X pins σ H s) (d : IsD H a) :
    s.TypeIs (.ref a) "dict" ∧ (∀ b, Value.ref a = .ref b → ∃ ob, s.heap.get? b = some ob ∧ ob.dict = none) ∧ (a == sysModules) = false := by
  rcases d with ⟨kvs, e⟩ | ⟨kvs, e⟩
  · obtain ⟨_, hd, vs, _, dd⟩ := dk_rd I.hok e
    refine ⟨dd.typeIs, fun b q => ?_, hd⟩
    cases q
    obtain ⟨ob, _, _, h1, h2, _⟩ := dd
    exact ⟨ob, h1, h2.2.1⟩
  · obtain ⟨_, hd, xs, _, dd⟩ := dt_rd I.hok e
    refine ⟨dd.typeIs, fun b q => ?_, hd⟩
    cases q
    obtain ⟨ob, _, _, h1, h2, _⟩ := dd
    exact ⟨ob, h1, h2.2.1⟩

section
variable {X : Cx} {pins : List (Addr × Obj)} {σ : St} {H : Hp} {s : Shared} {a : Addr} {y d : V} {u r : Value} {o : Option V} {A : Around} {E : Value → Shared → Prop}
end

noncomputable def tDPop1 (td ty : TE) : TE := fun σ H Q => td σ H fun x H1 => ∃ a, x = .ref a ∧ IsD H1 a ∧ ty σ H1 fun y H2 => ∃ kvs k v, H2 a = some (.dK kvs) ∧ y = kV k ∧ valV kvs k = some v ∧ Q v (upd H2 a (.dK (dropK kvs k)))
section
variable {X : Cx} {o e f : Expr} {apos cpos : Pos} {td ty tx : TE}
theorem pe_dpop1 (ho : PE X o td) (he : PE X e ty) (m : M1 X o "pop" apos e cpos) : PE X (.Call (.Attribute o "pop" apos) [e] [] cpos) (tDPop1 td ty) := by
  intro pins s σ H Q I h
  refine wpAny_Call_method m.base m.few m.line PySem.F.plainAttrs_dict PySem.F.slot_dict_pop PySem.F.type_dict_pop (thn (ho pins s σ H _ I h) fun u s1 ⟨x, H1, I1, rx, a, ex, d, q1⟩ => ?_)
  subst ex
  obtain rfl : u = Value.ref a := rx
  obtain ⟨t1, t2, _⟩ := isD_at I1 d
  refine ⟨t1, t2, ?_⟩
  rw [m.trees]
  refine Calls.callWith_builtin rfl (Calls.evalArgs_plain (Calls.spliced_cons (thn (he pins s1 σ H1 _ I1 q1) fun iv s2 ⟨y, H2, I2, ry, kvs, k, v, ea, ey, l, q2⟩ => Calls.spliced_nil ?_)))
  subst ey
  exact d_pop I2 ea ry l (.inl rfl) fun w' s3 I3 rw' => ⟨v, _, I3, rw', q2⟩
end

section
variable {X : Cx} {pins : List (Addr × Obj)} {σ : St} {H : Hp} {s : Shared} {a : Addr} {kvs : List (Key × V)} {A : Around} {E : Value → Shared → Prop}
end


section
variable {X : Cx} {pins : List (Addr × Obj)} {σ : St} {H : Hp} {s : Shared} {a : Addr} {y : V} {u : Value} {A : Around} {E : Value → Shared → Prop}
end
end L2

namespace Att
open PySem PySem.W PySem.Calls PyProof.Rows

section
variable {prog : Program} {w : World} {A : Around} {E : Value → Shared → Prop} {s : Shared} {K : Frag}

end
end Att

namespace L2
open PySem PySem.Spec PyProof.Rows

end L2

namespace L2
open PySem PySem.Spec PyProof.Rows

end L2

namespace L2
open PySem PySem.Spec PyProof.Rows

section
variable {P : Program} {w : World} {K : PySem.W.Frag} {mg : Str → Option Value} {base : Heap}
end
section
variable {X : Cx}
theorem call_lenD : CallR X (.builtin "len") (fun xs H Q => ∃ a kvs, xs = [V.ref a] ∧ H a = some (.dK kvs) ∧ Q (.int kvs.length) H) := by
  intro pins s σ H xs us Q I r h
  obtain ⟨a, kvs, rfl, ha, q⟩ := h
  obtain ⟨u, rfl, ru⟩ := vals1 r
  cases ru
  exact d_len I (.inl ha) fun t s' I' => ⟨.int kvs.length, H, I', ⟨t, rfl⟩, q⟩
end

section
variable {κ : Type} [DecidableEq κ]
end
end L2


end
section
set_option Elab.async false
set_option linter.all false
set_option maxRecDepth 100000
namespace DL
open PySem PySem.Spec PyProof.Rows L2
section
variable {κ : Type} [DecidableEq κ] (f : D → Option κ)
noncomputable def valD : List (D × D) → D → Option D
  | [], _ => none
  | p :: r, k => if f p.1 = f k then some p.2 else valD r k
noncomputable def hasD (ds : List (D × D)) (k : D) : Bool := ds.any fun p => decide (f p.1 = f k)
noncomputable def putD (ds : List (D × D)) (k v : D) : List (D × D) :=
  if hasD f ds k = true then ds.map (fun p => if f p.1 = f k then (p.1, v) else p) else ds ++ [(k, v)]
noncomputable def dropD (ds : List (D × D)) (k : D) : List (D × D) := ds.filter fun p => decide (f p.1 ≠ f k)
end
noncomputable def RelO' (K : PySem.W.Frag) (O : List Addr) (H : Hp) : Option D → Option V → Prop
  | none, none => True
  | some d, some v => Rep K O H d v
  | _, _ => False
section
variable {κ : Type} [DecidableEq κ] {f : D → Option κ} {K : PySem.W.Frag} {O : List Addr} {H : Hp}
theorem valD_has (k : D) : ∀ ds : List (D × D), hasD f ds k = (valD f ds k).isSome
  | [] => rfl
  | p :: r => by
    unfold hasD
    rw [List.any_cons]
    by_cases e : f p.1 = f k
    · simp [valD, e]
    · rw [decide_eq_false e, Bool.false_or]
      have := valD_has k r
      unfold hasD at this
      rw [this, valD, if_neg e]
theorem kvs_val {k : D} {q : κ} (hk : f k = some q) : ∀ {ds : List (D × D)} {vs : List (κ × V)}, Kvs K f O H ds vs → RelO' K O H (valD f ds k) (valV vs q)
  | [], vs, h => by
    cases (show vs = [] from h)
    exact trivial
  | (a, d) :: ds, vs, h => by
    obtain ⟨qa, v, r, rfl, ha, hr, ht⟩ := (show ∃ q v r, vs = (q, v) :: r ∧ f a = some q ∧ Rep K O H d v ∧ Kvs K f O H ds r from h)
    by_cases e : qa = q
    · have e' : f (a, d).1 = f k := by rw [hk]; show f a = _; rw [ha, e]
      rw [valD, if_pos e', valV_pos (p := (qa, v)) e]
      exact hr
    · have e' : ¬ f (a, d).1 = f k := by
        rw [hk]; show ¬ f a = _; rw [ha]; intro z; exact e (Option.some.inj z)
      rw [valD, if_neg e', valV_neg (p := (qa, v)) e]
      exact kvs_val hk ht
theorem RelO'.isSome {a : Option D} {b : Option V} (h : RelO' K O H a b) : b.isSome = a.isSome := by
  cases a <;> cases b <;> first | rfl | exact h.elim
theorem kvs_len : ∀ {ds : List (D × D)} {vs : List (κ × V)}, Kvs K f O H ds vs → vs.length = ds.length
  | [], vs, h => by
    cases (show vs = [] from h)
    rfl
  | (a, d) :: ds, vs, h => by
    obtain ⟨qa, v, r, rfl, ha, hr, ht⟩ := (show ∃ q v r, vs = (q, v) :: r ∧ f a = some q ∧ Rep K O H d v ∧ Kvs K f O H ds r from h)
    simp [kvs_len ht]
theorem kvs_snoc {k d : D} {q : κ} {v : V} (hk : f k = some q) (hr : Rep K O H d v) : ∀ {ds : List (D × D)} {vs : List (κ × V)}, Kvs K f O H ds vs → Kvs K f O H (ds ++ [(k, d)]) (vs ++ [(q, v)])
  | [], vs, h => by
    cases (show vs = [] from h)
    exact ⟨q, v, [], rfl, hk, hr, rfl⟩
  | (a, d) :: ds, vs, h => by
    obtain ⟨qa, w, r, rfl, ha, hw, ht⟩ := (show ∃ q v r, vs = (q, v) :: r ∧ f a = some q ∧ Rep K O H d v ∧ Kvs K f O H ds r from h)
    exact ⟨qa, w, r ++ [(q, v)], rfl, ha, hw, kvs_snoc hk hr ht⟩
theorem kvs_map {k d : D} {q : κ} {v : V} (hk : f k = some q) (hr : Rep K O H d v) : ∀ {ds : List (D × D)} {vs : List (κ × V)}, Kvs K f O H ds vs →
    Kvs K f O H (ds.map fun p => if f p.1 = f k then (p.1, d) else p) (vs.map fun kv => if kv.1 = q then (kv.1, v) else kv)
  | [], vs, h => by
    cases (show vs = [] from h)
    exact rfl
  | (a, e) :: ds, vs, h => by
    obtain ⟨qa, w, r, rfl, ha, hw, ht⟩ := (show ∃ q v r, vs = (q, v) :: r ∧ f a = some q ∧ Rep K O H e v ∧ Kvs K f O H ds r from h)
    have ih := kvs_map hk hr ht
    rw [List.map_cons, List.map_cons]
    by_cases z : qa = q
    · have z' : f (a, e).1 = f k := by rw [hk]; show f a = _; rw [ha, z]
      rw [if_pos z', if_pos (show (qa, w).1 = q from z)]
      exact ⟨qa, v, _, rfl, ha, hr, ih⟩
    · have z' : ¬ f (a, e).1 = f k := by
        rw [hk]; show ¬ f a = _; rw [ha]; intro y; exact z (Option.some.inj y)
      rw [if_neg z', if_neg (show ¬ (qa, w).1 = q from z)]
      exact ⟨qa, w, _, rfl, ha, hw, ih⟩
theorem kvs_put {k d : D} {q : κ} {v : V} (hk : f k = some q) (hr : Rep K O H d v) {ds : List (D × D)} {vs : List (κ × V)} (h : Kvs K f O H ds vs) : Kvs K f O H (putD f ds k d) (putK vs q v) := by
  unfold putD putK
  rw [valD_has, valV_any, (kvs_val hk h).isSome]
  split
  · exact kvs_map hk hr h
  · exact kvs_snoc hk hr h
theorem kvs_drop {k : D} {q : κ} (hk : f k = some q) : ∀ {ds : List (D × D)} {vs : List (κ × V)}, Kvs K f O H ds vs → Kvs K f O H (dropD f ds k) (dropK vs q)
  | [], vs, h => by
    cases (show vs = [] from h)
    exact rfl
  | (a, e) :: ds, vs, h => by
    obtain ⟨qa, w, r, rfl, ha, hw, ht⟩ := (show ∃ q v r, vs = (q, v) :: r ∧ f a = some q ∧ Rep K O H e v ∧ Kvs K f O H ds r from h)
    have ih := kvs_drop hk ht
    unfold dropD dropK at ih ⊢
    rw [List.filter_cons, List.filter_cons]
    by_cases z : qa = q
    · have z' : f (a, e).1 = f k := by rw [hk]; show f a = _; rw [ha, z]
      rw [if_neg (by simp [z']), if_neg (by simp [z])]
      exact ih
    · have z' : ¬ f (a, e).1 = f k := by
        rw [hk]; show ¬ f a = _; rw [ha]; intro y; exact z (Option.some.inj y)
      rw [if_pos (by simpa using z'), if_pos (by simpa using z)]
      exact ⟨qa, w, _, rfl, ha, hw, ih⟩
end
theorem key_rep {K : PySem.W.Frag} {O : List Addr} {H : Hp} {d : D} {q : Key} {v : V} (h : keyD d = some q) (r : Rep K O H d v) : v = kV q := by
  cases d with
  | int i =>
    cases (show some (Sum.inl i) = some q from h)
    exact Rep.int_i.mp r
  | str x =>
    cases (show some (Sum.inr x) = some q from h)
    exact Rep.str_i.mp r
  | _ => cases h
theorem keys_rep {K : PySem.W.Frag} {O : List Addr} {H : Hp} : ∀ {ds : List D} {qs : List Key} {vs : List V}, keyDs ds = some qs → Reps K O H ds vs → vs = qs.map kV
  | [], qs, vs, h, r => by
    cases (show some [] = some qs from h)
    exact (by unfold Reps at r; exact r)
  | d :: ds, qs, vs, h, r => by
    unfold keyDs at h
    unfold Reps at r
    obtain ⟨v, w, rfl, hv, hw⟩ := r
    split at h
    · rename_i k ks h1 h2
      cases h
      rw [key_rep h1 hv, keys_rep h2 hw]
      rfl
    · cases h
theorem keyT_rep {K : PySem.W.Frag} {O : List Addr} {H : Hp} {d : D} {q : List Key} {v : V} (h : keyT d = some q) (r : Rep K O H d v) : ∃ b, v = .ref b ∧ H b = some (.tup (q.map kV)) := by
  cases d with
  | tup ds =>
    rw [Rep.tup_i] at r
    obtain ⟨a, vs, rfl, e, rs⟩ := r
    have h' : keyDs ds = some q := h
    rw [keys_rep h' rs] at e
    exact ⟨a, rfl, e⟩
  | _ => cases h
noncomputable def dAt (st : Sto) (d k : D) : Option (Option D) := match d with
  | .res i => match st[i]? with
    | some (.dct ds) => if (keyD k).isSome = true then some (valD keyD ds k) else none
    | some (.dtt ds) => if (keyT k).isSome = true then some (valD keyT ds k) else none
    | _ => none
  | _ => none
theorem dAt_ok {K : PySem.W.Frag} {O : List Addr} {H : Hp} {st : Sto} {d k : D} {o : Option D} {x y : V} (W : WR K O H st) (h : dAt st d k = some o) (rx : Rep K O H d x) (ry : Rep K O H k y) :
    ∃ a ov, x = .ref a ∧ DGet H a y ov ∧ RelO' K O H o ov := by
  cases d with
  | res i =>
    rw [Rep.res_i] at rx
    obtain ⟨a, rfl, q⟩ := rx
    unfold dAt at h
    dsimp only at h
    cases e : st[i]? with
    | none => rw [e] at h; cases h
    | some s =>
      rw [e] at h
      cases s with
      | lst xs => cases h
      | ins C fs => cases h
      | dct ds =>
        obtain ⟨vs, e2, kv⟩ := W.at_ _ _ _ q e
        dsimp only at h
        cases hk : keyD k with
        | none => rw [hk] at h; cases h
        | some c =>
          rw [hk] at h
          cases h
          cases key_rep hk ry
          exact ⟨a, _, rfl, DGet.k e2, kvs_val hk kv⟩
      | dtt ds =>
        obtain ⟨vs, e2, kv⟩ := W.at_ _ _ _ q e
        dsimp only at h
        cases hk : keyT k with
        | none => rw [hk] at h; cases h
        | some c =>
          rw [hk] at h
          cases h
          obtain ⟨b, rfl, hb⟩ := keyT_rep hk ry
          exact ⟨a, _, rfl, DGet.t e2 hb, kvs_val hk kv⟩
  | _ => cases h
noncomputable def dPutAt (st : Sto) (d k v : D) : Option Sto := match d with
  | .res i => match st[i]? with
    | some (.dct ds) => if (keyD k).isSome = true ∧ ds.length < small then some (st.set i (.dct (putD keyD ds k v))) else none
    | some (.dtt ds) => if (keyT k).isSome = true ∧ ds.length < small then some (st.set i (.dtt (putD keyT ds k v))) else none
    | _ => none
  | _ => none
theorem dPut_ok {K : PySem.W.Frag} {O : List Addr} {H : Hp} {st st' : Sto} {d k z : D} {x y w : V} (W : WR K O H st) (h : dPutAt st d k z = some st') (rx : Rep K O H d x) (ry : Rep K O H k y) (rw' : Rep K O H z w) :
    ∃ a H', x = .ref a ∧ DPut H a y w H' ∧ Keep K O H O H' ∧ WR K O H' st' := by
  cases d with
  | res i =>
    rw [Rep.res_i] at rx
    obtain ⟨a, rfl, q⟩ := rx
    unfold dPutAt at h
    dsimp only at h
    cases e : st[i]? with
    | none => rw [e] at h; cases h
    | some s =>
      rw [e] at h
      cases s with
      | lst xs => cases h
      | ins C fs => cases h
      | dct ds =>
        obtain ⟨vs, e2, kv⟩ := W.at_ _ _ _ q e
        dsimp only at h
        split at h
        · rename_i hc
          cases hk : keyD k with
          | none => rw [hk] at hc; cases hc.1
          | some c =>
            cases h
            cases key_rep hk ry
            refine ⟨a, _, rfl, DPut.k e2 (by rw [kvs_len kv]; exact Nat.lt_of_lt_of_le hc.2 small_le), Keep.write W q, W.write q ?_⟩
            exact ⟨_, upd_same, Kvs.mono (Keep.write W q) _ _ (kvs_put hk rw' kv)⟩
        · cases h
      | dtt ds =>
        obtain ⟨vs, e2, kv⟩ := W.at_ _ _ _ q e
        dsimp only at h
        split at h
        · rename_i hc
          cases hk : keyT k with
          | none => rw [hk] at hc; cases hc.1
          | some c =>
            cases h
            obtain ⟨b, rfl, hb⟩ := keyT_rep hk ry
            refine ⟨a, _, rfl, DPut.t e2 hb (by rw [kvs_len kv]; exact Nat.lt_of_lt_of_le hc.2 small_le), Keep.write W q, W.write q ?_⟩
            exact ⟨_, upd_same, Kvs.mono (Keep.write W q) _ _ (kvs_put hk rw' kv)⟩
        · cases h
  | _ => cases h
noncomputable def getDd (fo fi : DE) : DE := fun ρ st => (fo ρ st).bind fun d st1 => (fi ρ st1).bind fun k st2 => match dAt st2 d k with
  | some (some v) => .ok v st2
  | _ => .bad
noncomputable def inDd : D → D → Sto → Out D := fun k d st => match dAt st d k with
  | some o => .ok (.bl o.isSome) st
  | _ => .bad
noncomputable def notInDd : D → D → Sto → Out D := fun k d st => match dAt st d k with
  | some o => .ok (.bl (!o.isSome)) st
  | _ => .bad
noncomputable def dNewK : DE := fun _ st => .ok (.res st.length) (st ++ [.dct []])
noncomputable def dNewT : DE := fun _ st => .ok (.res st.length) (st ++ [.dtt []])
noncomputable def sPutD (fo fi fv : DE) : DS := fun ρ st => (fv ρ st).to fun v st1 => (fo ρ st1).to fun d st2 => (fi ρ st2).to fun k st3 => match dPutAt st3 d k v with
  | some st4 => .nx ρ st4
  | _ => .bad
section
variable {X : Cx} {EX : EXT} {a b c e o i : Expr} {fa fb fc fo fi fv : DE} {pos p p2 apos cpos : Pos}
theorem pd_dget (hu : X.A.units + 64 < cLine) (ho : PD X EX o fo) (hi : PD X EX i fi) (hs : NoSl i := by intro _ _; rfl) : PD X EX (.Subscript o i pos) (getDd fo fi) := by
  refine PE.mono (pe_dget (by omega) ho hi hs) ?_
  rintro σ H Q ⟨O, ρ, st, W, E, R⟩
  refine ⟨O, ρ, st, W, E, R.bind.mono fun d st1 O1 H1 k1 W1 R1 x rx => ?_⟩
  refine ⟨O1, ρ, st1, W1, E.mono k1, R1.bind.mono fun k st2 O2 H2 k2 W2 R2 y ry => ?_⟩
  split at R2
  · rename_i v hv
    obtain ⟨a, ov, rfl, g, rel⟩ := dAt_ok W2 hv (Rep.mono k2 _ _ rx) ry
    cases ov with
    | none => exact rel.elim
    | some w => exact ⟨a, w, rfl, g, Run.now (k := Val X.K Q) R2 W2 _ rel⟩
  · exact R2.elim
theorem op_inDd (hu : X.A.units + 64 < cLine) : OpD X EX (compareOp .In) inDd := by
  intro pins s σ H x y v u Q I rx ry h
  obtain ⟨O, k, d, st, W, rk, rd, R⟩ := h
  unfold inDd at R
  split at R
  · rename_i o ho
    obtain ⟨a, ov, rfl, g, rel⟩ := dAt_ok W ho rd rk
    cases (show u = Value.ref a from ry)
    refine d_in (by omega) I g rx fun s' I' => ⟨.bl ov.isSome, H, I', rfl, ?_⟩
    rw [rel.isSome]
    exact Run.now (k := Val X.K Q) R W _ (Rep.bl_i.mpr rfl)
  · exact R.elim
theorem op_notInDd (hu : X.A.units + 64 < cLine) : OpD X EX (compareOp .NotIn) notInDd := by
  intro pins s σ H x y v u Q I rx ry h
  obtain ⟨O, k, d, st, W, rk, rd, R⟩ := h
  unfold notInDd at R
  split at R
  · rename_i o ho
    obtain ⟨a, ov, rfl, g, rel⟩ := dAt_ok W ho rd rk
    cases (show u = Value.ref a from ry)
    refine d_notIn (by omega) I g rx fun s' I' => ⟨.bl (!ov.isSome), H, I', rfl, ?_⟩
    rw [rel.isSome]
    exact Run.now (k := Val X.K Q) R W _ (Rep.bl_i.mpr rfl)
  · exact R.elim
theorem pd_dnewK : PD X EX (.Dict [] [] pos) dNewK := by
  refine PE.mono pe_dnewK ?_
  rintro σ H Q ⟨O, ρ, st, W, E, R⟩ p hp
  exact R (O ++ [p]) _ (Keep.push hp) (W.push' hp ⟨[], upd_same, rfl⟩) _ (Rep.res_i.mpr ⟨p, rfl, by rw [← W.len]; simp⟩)
theorem pd_dput (hu : X.A.units + 64 < cLine) (ho : PD X EX o fo) (hi : PD X EX i fi) (hv : PD X EX e fv) (hs : swapsWith e (some (.Subscript o i p)) pos.line X.env = pure false := by rfl) :
    PDs X EX (.Assign [.Subscript o i p] e pos) (sPutD fo fi fv) := by
  refine PS.mono (ps_dput (by omega) ho hi hv hs) ?_
  rintro Dn σ H ⟨O, ρ, st, W, E, R⟩
  refine ⟨O, ρ, st, W, E, R.to.mono fun w st1 O1 H1 k1 W1 R1 v r => ?_⟩
  refine ⟨O1, ρ, st1, W1, E.mono k1, R1.to.mono fun d st2 O2 H2 k2 W2 R2 u r2 => ?_⟩
  refine ⟨O2, ρ, st2, W2, E.mono (k1.trans k2), R2.to.mono fun j st3 O3 H3 k3 W3 R3 z r3 => ?_⟩
  split at R3
  · rename_i st4 h4
    obtain ⟨a, H4, rfl, g, kp, W4⟩ := dPut_ok W3 h4 (Rep.mono k3 _ _ r2) r3 (Rep.mono (k2.trans k3) _ _ r)
    exact ⟨a, H4, rfl, g, R3 O3 H4 σ kp W4 (E.mono (k1.trans (k2.trans (k3.trans kp))))⟩
  · exact R3.elim
noncomputable def dPopD (fo fi : DE) : DE := fun ρ st => (fo ρ st).bind fun d st1 => match d with
  | .res r => match st1[r]? with
    | some (.dct _) => (fi ρ st1).bind fun k st2 => match st2[r]? with
      | some (.dct ds) => match keyD k, valD keyD ds k with
        | some _, some v => .ok v (st2.set r (.dct (dropD keyD ds k)))
        | _, _ => .bad
      | _ => .bad
    | _ => .bad
  | _ => .bad
theorem pd_dpop (ho : PD X EX o fo) (hi : PD X EX i fi) (m : M1 X o "pop" apos i cpos := by exact ⟨rfl, rfl, rfl, rfl⟩) : PD X EX (.Call (.Attribute o "pop" apos) [i] [] cpos) (dPopD fo fi) := by
  refine PE.mono (pe_dpop1 ho hi m) ?_
  rintro σ H Q ⟨O, ρ, st, W, E, R⟩
  refine ⟨O, ρ, st, W, E, R.bind.mono fun d st1 O1 H1 k1 W1 R1 x rx => ?_⟩
  split at R1
  · rename_i r
    split at R1
    · rename_i ds0 hd0
      rw [Rep.res_i] at rx
      obtain ⟨a, rfl, q⟩ := rx
      obtain ⟨vs0, e0, kv0⟩ := W1.at_ _ _ _ q hd0
      refine ⟨a, rfl, .inl ⟨vs0, .inl e0⟩, ?_⟩
      refine ⟨O1, ρ, st1, W1, E.mono k1, R1.bind.mono fun k st2 O2 H2 k2 W2 R2 y ry => ?_⟩
      split at R2
      · rename_i ds hd
        have q2 := k2.pre _ _ q
        obtain ⟨vs, e2, kv⟩ := W2.at_ _ _ _ q2 hd
        split at R2
        · rename_i c v hk hv
          have hk' := key_rep hk ry
          have rel := kvs_val hk kv
          rw [hv] at rel
          cases hw : valV vs c with
          | none => rw [hw] at rel; exact rel.elim
          | some w =>
            rw [hw] at rel
            refine ⟨vs, c, w, e2, hk', hw, ?_⟩
            have kw : Keep X.K O2 H2 O2 (upd H2 a (.dK (dropK vs c))) := Keep.write W2 q2
            exact R2 O2 _ kw (W2.write q2 ⟨_, upd_same, Kvs.mono kw _ _ (kvs_drop hk kv)⟩) _ (Rep.mono kw _ _ rel)
        · exact R2.elim
      · exact R2.elim
    · exact R1.elim
  · exact R1.elim
end
section
variable {X : Cx} {EX : EXT} {e o : Expr} {fa fo : DE} {pos : Pos} {C : Addr} {x : Str}
noncomputable def sFldSub (C : Addr) (x : Str) (fo fv : DE) : DS := fun ρ st => (fo ρ st).to fun d st1 => match insAt C st1 d with
  | some (i, fs) => match fs.lookup x with
    | some (.int z) => (fv ρ st1).to fun v st2 => match v with
      | .int y => match insAt C st2 d with
        | some (j, fs') => if fs'.length < 900 then .nx ρ (st2.set j (.ins C (putFD x (.int (z - y)) fs'))) else .bad
        | none => .bad
      | _ => .bad
    | _ => .bad
  | none => .bad
theorem pd_fldSub {tpos : Pos} (ha : PD X EX o fo) (hv : PD X EX e fa) (c : Cls X.K C) (na : NoAttr X.K C x) : PDs X EX (.AugAssign (.Attribute o x tpos) .Sub e pos) (sFldSub C x fo fa) := by
  refine PS.mono (ps_fldaug ha hv in_sub) ?_
  rintro Dn σ H ⟨O, ρ, st, W, E, R⟩
  refine ⟨O, ρ, st, W, E, R.to.mono fun d st1 O1 H1 k1 W1 R1 u r => ?_⟩
  cases e : insAt C st1 d with
  | none => rw [e] at R1; exact R1.elim
  | some q =>
    obtain ⟨i, fs⟩ := q
    rw [e] at R1
    dsimp only at R1
    obtain ⟨rfl, a, dx, vfs, rfl, ho, hH, hf⟩ := insAt_rd W1 r e
    cases hl : fs.lookup x with
    | none => rw [hl] at R1; exact R1.elim
    | some w =>
      rw [hl] at R1
      cases w with
      | int z =>
        dsimp only at R1
        obtain ⟨v, h1, h2⟩ := hf.look.2 _ hl
        rw [Rep.int_i] at h2
        subst h2
        refine ⟨a, C, dx, vfs, _, rfl, hH, c, na, h1, O1, ρ, st1, W1, E.mono k1, R1.to.mono fun y st2 O2 H2 k2 W2 R2 vy ry => ?_⟩
        cases y with
        | int y =>
          rw [Rep.int_i] at ry
          subst ry
          refine ⟨z, y, rfl, rfl, ?_⟩
          dsimp only at R2
          cases e2 : insAt C st2 (.res i) with
          | none => rw [e2] at R2; exact R2.elim
          | some q =>
            obtain ⟨j, fs'⟩ := q
            rw [e2] at R2
            dsimp only at R2
            obtain ⟨ej, a', dx', vfs', ea, ho', hH', hf'⟩ := insAt_rd W2 (Rep.mono k2 _ _ r) e2
            cases ej
            cases ea
            by_cases hl2 : fs'.length < 900
            · rw [if_pos hl2] at R2
              refine ⟨dx', vfs', hH', by rw [← hf'.length]; omega, ?_⟩
              have kw : Keep X.K O2 H2 O2 (upd H2 a (.ins C dx' (putF x (.int (z - y)) vfs'))) := Keep.write W2 ho'
              exact R2 O2 _ σ kw (W2.write ho' ⟨dx', _, upd_same, Flds.mono kw _ _ (hf'.put (Rep.int_i.mpr rfl))⟩) (E.mono (k1.trans (k2.trans kw)))
            · rw [if_neg hl2] at R2; exact R2.elim
        | _ => exact R2.elim
      | _ => exact R1.elim
end
section
variable {fo fi fv : DE} {ρ : Ev} {st : Sto} {C : Addr} {x : Str}
theorem z_getDd : getDd fo fi ρ st = (fo ρ st).bind fun d st1 => (fi ρ st1).bind fun k st2 => match dAt st2 d k with
  | some (some v) => .ok v st2
  | _ => .bad := rfl
theorem z_sPutD : sPutD fo fi fv ρ st = (fv ρ st).to fun v st1 => (fo ρ st1).to fun d st2 => (fi ρ st2).to fun k st3 => match dPutAt st3 d k v with
  | some st4 => .nx ρ st4
  | _ => .bad := rfl
theorem z_sFldSub : sFldSub C x fo fv ρ st = (fo ρ st).to fun d st1 => match insAt C st1 d with
  | some (i, fs) => match fs.lookup x with
    | some (.int z) => (fv ρ st1).to fun v st2 => match v with
      | .int y => match insAt C st2 d with
        | some (j, fs') => if fs'.length < 900 then .nx ρ (st2.set j (.ins C (putFD x (.int (z - y)) fs'))) else .bad
        | none => .bad
      | _ => .bad
    | _ => .bad
  | none => .bad := rfl
theorem z_dPopD : dPopD fo fi ρ st = (fo ρ st).bind fun d st1 => match d with
  | .res r => match st1[r]? with
    | some (.dct _) => (fi ρ st1).bind fun k st2 => match st2[r]? with
      | some (.dct ds) => match keyD k, valD keyD ds k with
        | some _, some v => .ok v (st2.set r (.dct (dropD keyD ds k)))
        | _, _ => .bad
      | _ => .bad
    | _ => .bad
  | _ => .bad := rfl
@[simp] theorem z_dNewK : dNewK ρ st = .ok (.res st.length) (st ++ [.dct []]) := rfl
@[simp] theorem z_dNewT : dNewT ρ st = .ok (.res st.length) (st ++ [.dtt []]) := rfl
end
end DL

end
section
set_option Elab.async false
set_option linter.all false
set_option maxRecDepth 100000
set_option maxHeartbeats 2000000
namespace SO
open PySem PySem.W PyProof.Rows
section
variable {prog : Program} {w : World} {A : Around} {E : Value → Shared → Prop} {s : Shared}
theorem sorted_src {T : String} {r d : Addr} {n : Nat} {P : Nat → Value → Prop} {OK : Heap → Prop} {κ : SortKind} {lt : Nat → Nat → Bool} {Q : Value → Shared → Prop} (src : KdlSrc prog w T r d n P OK) (hh : A.handled = none) (ok : OK s.heap) (h64 : n < 64)
    (C : ∀ vs a h' tk, ItemsOf P vs n → Cmp prog w { s with heap := h', toks := tk } a vs.toList κ lt) (O : Ord n lt)
    (k : ∀ vs, ItemsOf P vs n → ∀ p : List Nat, p.Perm (List.range n) → p.Pairwise (fun i j => lt i j = true) → ∀ (h1 : Heap) a (h' : Heap) tk c, (∀ b o, s.heap.get? b = some o → h1.get? b = some o) → h1.objs.size ≤ a → (∀ b o, h1.get? b = some o → h'.get? b = some o) →
      h'.get? a = some (seqObj "list" (p.map fun i => vs.toList.getD i .none).toArray c) → Q (.ref a) { s with heap := h', toks := tk }) :
    wpAny (model prog w) A (call (.builtin "sorted") [.ref r]) Q E s := by
  refine Calls.call_function_entry kind_sorted plain_sorted entry_sorted (args_sorted1 _) ?_
  unfold Builtin.«sorted»
  refine wpAny_bind (m := checkCount "sorted" 1 1 _) (wpAny_pure ?_)
  refine wpAny_bind (kdu_collect src hh ok (by rw [sizeLine_eq]; omega) fun h1 tk acc k1 hI => ?_)
  have hlen : acc.toList.length = n := by rw [Array.length_toList]; exact hI.1
  refine wpAny_bind (wpAny_newList ?_ (by rw [sizeLine_eq, hlen]; omega))
  have hoL : (h1.push (seqObj "list" acc.toList.toArray 0)).get? h1.objs.size = some (seqObj "list" acc.toList.toArray 0) := Heap.get?_push_size _ rfl
  have keep : ∀ b o, h1.get? b = some o → (h1.push (seqObj "list" acc.toList.toArray 0)).get? b = some o := fun b o q => Heap.get?_push_of_some _ q
  show wpAny _ _ _ _ _ { s with heap := h1.push (seqObj "list" acc.toList.toArray 0), toks := tk }
  generalize h1.push (seqObj "list" acc.toList.toArray 0) = g at hoL keep
  refine wpAny_bind (wpAny_holding (wpAny_call_entry slot_list_sort ⟨_, hoL, rfl⟩ entry_list_sort ?body (args_list_sort _)))
  case body =>
    refine list_sort_keep (s := { s with heap := g, toks := tk }) hoL (by omega) (C acc _ g tk hI) (by rw [hlen]; exact O) fun p hp hpw h' c hb hc => ?_
    refine ⟨_, rfl, wpAny_pure ⟨_, rfl, ?_⟩⟩
    rw [hlen] at hp
    exact k acc hI p hp hpw h1 _ h' tk c k1 (Nat.le_refl _) (fun b o e => hb b o (Nat.ne_of_lt (Heap.lt_size e)) (keep b o e)) hc
noncomputable def tltB (a b : Str) : Bool := decide (a.cps.toList < b.cps.toList)
noncomputable def tleB (a b : Str) : Bool := decide (a.cps.toList ≤ b.cps.toList)
theorem str_cps {a b : Str} (h : a.cps.toList = b.cps.toList) : a = b := by
  cases a; cases b
  simp only at h
  congr 1
  exact Array.toList_inj.mp h
theorem str_cmp {a : Addr} {vs : List Value} {ss : List Str} (h : StrsAre vs ss) : Cmp prog w s a vs oneType' (fun i j => tltB (ss.getD i default) (ss.getD j default)) := by
  refine ⟨fun h2 g A E Q hg hQ => ?_, fun h2 g A E Q i j hg hi hj hQ => ?_⟩
  · match vs, h, h2 with
    | [], _, h2 => simp at h2
    | [_], _, h2 => simp at h2
    | v1 :: v2 :: vs, h, _ =>
      rw [keyKind_strs h]
      exact wpAny_pure hQ
  · have hl := h.length
    obtain ⟨t, h1⟩ := h.at (j := i) (y := ss.getD i default) (by rw [List.getD_eq_getElem?_getD, List.getElem?_eq_getElem (by omega)]; rfl)
    obtain ⟨u, h3⟩ := h.at (j := j) (y := ss.getD j default) (by rw [List.getD_eq_getElem?_getD, List.getElem?_eq_getElem (by omega)]; rfl)
    rw [List.getD_eq_getElem?_getD (l := vs), List.getD_eq_getElem?_getD (l := vs), h1, h3, keyLt'_oneType]
    exact oneLt_str hQ
theorem str_ord {ss : List Str} (hn : ss.Nodup) : Ord ss.length (fun i j => tltB (ss.getD i default) (ss.getD j default)) := by
  have apart : ∀ i j, i < ss.length → j < ss.length → i ≠ j → (ss.getD i default).cps.toList ≠ (ss.getD j default).cps.toList := fun i j hi hj ne e => by
    have e' := str_cps e
    rw [List.getD_eq_getElem?_getD, List.getD_eq_getElem?_getD, List.getElem?_eq_getElem hi, List.getElem?_eq_getElem hj] at e'
    exact ne ((List.getElem_inj hn).mp e')
  refine ⟨fun i j hi hj ne h => ?_, fun i j hi hj h => ?_, fun i j k hi hj hk h1 h2 => ?_⟩
  · have ha := apart i j hi hj ne
    simp only [tltB, decide_eq_true_eq, decide_eq_false_iff_not] at *
    have h1 := List.not_lt.mp h
    by_cases h2 : (ss.getD j default).cps.toList < (ss.getD i default).cps.toList
    · exact h2
    · exact absurd (List.le_antisymm (List.not_lt.mp h2) h1) ha
  · simp only [tltB, decide_eq_true_eq, decide_eq_false_iff_not] at *
    exact fun h2 => List.lt_irrefl _ (List.lt_trans h h2)
  · simp only [tltB, decide_eq_true_eq] at *
    exact List.lt_trans h1 h2
noncomputable def srtS (ss : List Str) : List Str := ss.mergeSort tleB
theorem srtS_perm (ss : List Str) : (srtS ss).Perm ss := List.mergeSort_perm _ _
theorem srtS_pw (ss : List Str) : (srtS ss).Pairwise (fun a b => tleB a b = true) := by
  refine List.pairwise_mergeSort (fun a b c h1 h2 => ?_) (fun a b => ?_) ss
  · simp only [tleB, decide_eq_true_eq] at *
    exact List.le_trans h1 h2
  · simp only [tleB, Bool.or_eq_true, decide_eq_true_eq]
    exact List.le_total _ _
theorem srtS_uniq {ss qs : List Str} (hp : qs.Perm ss) (hw : qs.Pairwise (fun a b => tltB a b = true)) : qs = srtS ss := by
  refine List.Perm.eq_of_pairwise (le := fun a b => tleB a b = true) (fun a b _ _ h1 h2 => ?_) (hw.imp fun {a b} h => ?_) (srtS_pw ss) (hp.trans (srtS_perm ss).symm)
  · simp only [tleB, decide_eq_true_eq] at h1 h2
    exact str_cps (List.le_antisymm h1 h2)
  · simp only [tleB, tltB, decide_eq_true_eq] at *
    exact List.not_lt.mp fun h2 => List.lt_irrefl _ (List.lt_trans h h2)
end
end SO
namespace DL
open PySem PySem.Spec PyProof.Rows L2 PySem.W SO
noncomputable def strsD : List D → Option (List Str)
  | [] => some []
  | .str x :: ds => (strsD ds).map (x :: ·)
  | _ :: _ => none
theorem strsD_eq : ∀ {ds : List D} {ss : List Str}, strsD ds = some ss → ds = ss.map D.str
  | [], ss, e => by cases e; rfl
  | d :: ds, ss, e => by
    unfold strsD at e
    split at e
    · rename_i h; cases h
    · rename_i x r h
      cases h
      obtain ⟨qs, h1, rfl⟩ := Option.map_eq_some_iff.mp e
      rw [strsD_eq h1]; rfl
    · cases e
theorem strsD_map : ∀ (ss : List Str), strsD (ss.map D.str) = some ss
  | [] => rfl
  | x :: ss => by
    show (strsD (ss.map D.str)).map (x :: ·) = _
    rw [strsD_map ss]; rfl
noncomputable def sortDF : List D → Sto → Out (List D)
  | [.res i], st => match st[i]? with
    | some (.dct ds) => match strsD (ds.map (·.1)) with
      | some ss => if ss.length < 64 then .ok ((srtS ss).map D.str) st else .bad
      | none => .bad
    | _ => .bad
  | _, _ => .bad
theorem isStr_inv {x : Str} {v : Value} (h : Value.isStrOf x v = true) : ∃ t, v = .str x t := by
  unfold Value.isStrOf at h
  split at h
  · rename_i y t
    exact ⟨t, by rw [eq_of_beq h]⟩
  · cases h
theorem kvs_keys {K : PySem.W.Frag} {O : List Addr} {H : Hp} : ∀ {ds : List (D × D)} {vs : List (Key × V)} {ss : List Str}, Kvs K keyD O H ds vs → ds.map (·.1) = ss.map D.str → vs.map (·.1) = ss.map Sum.inr
  | [], vs, ss, h, e => by
    cases (show vs = [] from h)
    cases ss with
    | nil => rfl
    | cons a b => cases e
  | (k, d) :: ds, vs, ss, h, e => by
    obtain ⟨q, v, r, rfl, hk, hr, ht⟩ := (show ∃ q v r, vs = (q, v) :: r ∧ keyD k = some q ∧ Rep K O H d v ∧ Kvs K keyD O H ds r from h)
    cases ss with
    | nil => cases e
    | cons a b =>
      rw [List.map_cons, List.map_cons] at e
      obtain ⟨e1, e2⟩ := List.cons.inj e
      have e1' : k = D.str a := e1
      subst e1'
      cases (show some (Sum.inr a) = some q from hk)
      rw [List.map_cons, List.map_cons, kvs_keys ht e2]
theorem strsAre_of : ∀ {vs : List Value} {ss : List Str}, vs.length = ss.length → (∀ (i : Nat) (v : Value) (x : Str), vs[i]? = some v → ss[i]? = some x → ∃ t, v = .str x t) → StrsAre vs ss
  | [], [], _, _ => .nil
  | [], _ :: _, h, _ => by cases h
  | _ :: _, [], h, _ => by cases h
  | v :: vs, x :: ss, h, k => by
    obtain ⟨t, rfl⟩ := k 0 v x rfl rfl
    exact .cons x t (strsAre_of (by simpa using h) fun i v' x' h1 h2 => k (i + 1) v' x' (by simpa using h1) (by simpa using h2))
section
variable {X : Cx} {EX : EXT}
theorem str_new {pins : List (Addr × Obj)} {s : Shared} {σ : L2.St} {H : Hp} {O : List Addr} {st : Sto} {Q : VK} {its : List Value} {ss : List Str} {ix : List Nat} {a : Addr} {h1 h' : Heap} {tk c : Nat} (I : Inv X pins σ H s) (W : WR X.K O H st) (hs : StrsAre its ss)
    (R : Run X.K EX O H (.ok ((srtS ss).map D.str) st) (New X.K Q)) (hp : ix.Perm (List.range ss.length)) (hw : ix.Pairwise (fun i j => tltB (ss.getD i default) (ss.getD j default) = true)) (h64 : ss.length < 64)
    (k1 : ∀ b o, s.heap.get? b = some o → h1.get? b = some o) (ha : h1.objs.size ≤ a) (hk : ∀ b o, h1.get? b = some o → h'.get? b = some o) (hg : h'.get? a = some (seqObj "list" (ix.map fun i => its.getD i .none).toArray c)) :
    ∃ v H', Inv X pins σ H' { s with heap := h', toks := tk } ∧ RelV v (.ref a) ∧ Q v H' := by
  have hl := hs.length
  have hix : ix.map (fun i => ss.getD i default) = srtS ss := by
    refine srtS_uniq ?_ (List.pairwise_map.mpr hw)
    refine (hp.map (fun i => ss.getD i default)).trans (List.Perm.of_eq ?_)
    refine List.ext_getElem (by simp) fun i h1 h2 => ?_
    simp [List.getD_eq_getElem?_getD, List.getElem?_eq_getElem h2]
  have hb : ∀ i ∈ ix, i < ss.length := fun i hi => by
    have := hp.mem_iff.mp hi
    simpa using this
  have I1 : Inv X pins σ H { s with heap := h1, toks := tk } := I.kept k1
  refine ⟨.ref a, upd H a (.lst (ix.map fun i => V.str (ss.getD i default))), I1.laid hk ha ⟨?_, ix.map (fun i => its.getD i .none), c, ?_, hg⟩, rfl, ?_⟩
  · have h0 := hp.length_eq
    simp only [List.length_map, List.length_range] at h0 ⊢
    rw [sizeLine_eq]
    omega
  · refine vals_map ix fun i hi => ?_
    have := hb i hi
    obtain ⟨t, h3⟩ := hs.at (j := i) (y := ss.getD i default) (by rw [List.getD_eq_getElem?_getD, List.getElem?_eq_getElem this]; rfl)
    rw [List.getD_eq_getElem?_getD (l := its), h3]
    exact ⟨t, rfl⟩
  · refine Run.now (k := New X.K Q) R W a _ ?_ (I1.hok.fresh ha)
    rw [← hix, List.map_map]
    exact reps_map ix fun i hi => Rep.str_i.mpr rfl
theorem call_sortDF (hc : X.calm = true) : CallF X EX (.builtin "sorted") sortDF := by
  intro pins s σ H xs us Q I rx h
  obtain ⟨O, ds, st, W, r, R⟩ := h
  unfold sortDF at R
  split at R
  · rename_i i
    obtain ⟨v, rfl, rv⟩ := r.one_of
    rw [Rep.res_i] at rv
    obtain ⟨a, rfl, q⟩ := rv
    split at R
    · rename_i kvs hk
      obtain ⟨vs, e2, kv⟩ := W.at_ _ _ _ q hk
      split at R
      · rename_i ss hss
        have hkeys := kvs_keys kv (strsD_eq hss)
        by_cases h64 : ss.length < 64
        · rw [if_pos h64] at R
          cases rx with
          | cons r0 rt =>
            cases rt
            cases r0
            obtain ⟨z, hd, ws, rel, o, es, ep, g1, g2, g3, g4, g5, g6⟩ := dk_rd I.hok (.inl e2)
            have hwk : ws.map (·.1) = ss.map Sum.inr := by rw [← rel.keys]; exact hkeys
            have hlen : ws.length = ss.length := by
              have := congrArg List.length hwk
              simpa using this
            have hnd : ss.Nodup := by
              rw [hwk] at g6
              exact (List.pairwise_map.mp g6).imp fun h e => h (by rw [e])
            have src := kdl_dict (knd := mixKind X.prog X.w) (d := a) (kvs := ws) (ep := ep) hd
            have sAll : ∀ acc : Array Value, ItemsOf (fun i v => ∃ k x, ws[i]? = some (k, x) ∧ (mixKind X.prog X.w).is k v = true) acc ws.length → StrsAre acc.toList ss := by
              intro acc hI
              refine strsAre_of (by rw [Array.length_toList, hI.1, hlen]) fun i v x h1 h2 => ?_
              obtain ⟨k, y, h3, h4⟩ := hI.2 i v (by simpa using h1)
              have h5 : (ws.map (·.1))[i]? = some k := by rw [List.getElem?_map, h3]; rfl
              rw [hwk, List.getElem?_map, h2] at h5
              cases h5
              exact isStr_inv h4
            refine sorted_src (κ := oneType') (lt := fun i j => tltB (ss.getD i default) (ss.getD j default)) src (I.ok.hd hc) ⟨o, es, g1, g2, g3, g4, g5, g6⟩ (by omega) (fun vs a h' tk hI => str_cmp (sAll vs hI)) (by rw [hlen]; exact str_ord hnd) fun acc hI ix hp hw h1 b h' tk c k1 hb hk hg => ?_
            rw [hlen] at hp
            exact str_new I W (sAll acc hI) R hp hw h64 k1 hb hk hg
        · rw [if_neg h64] at R; exact R.elim
      · exact R.elim
    · exact R.elim
  · exact R.elim
end
end DL

end
section
set_option Elab.async false
set_option linter.all false
set_option maxRecDepth 100000
set_option maxHeartbeats 2000000
namespace DL
open PySem PySem.Spec PyProof.Rows L2
noncomputable def dPairs : List (DE × DE) → Ev → Sto → Out (List (D × D))
  | [], _, st => .ok [] st
  | (fk, fv) :: r, ρ, st => (fk ρ st).bind fun k st1 => (fv ρ st1).bind fun v st2 => (dPairs r ρ st2).bind fun ps st3 => .ok ((k, v) :: ps) st3
noncomputable def keysOk : List (D × D) → Bool
  | [] => true
  | p :: r => (keyD p.1).isSome && keysOk r
noncomputable def mergeD (ds more : List (D × D)) : List (D × D) := more.foldl (fun acc p => putD keyD acc p.1 p.2) ds
noncomputable def dDisp (ps : List (DE × DE)) : DE := fun ρ st => (dPairs ps ρ (st ++ [.dct []])).bind fun kvs st1 => match st1[st.length]? with
  | some (.dct []) => if keysOk kvs = true ∧ kvs.length ≤ 15 then .ok (.res st.length) (st1.set st.length (.dct (mergeD [] kvs))) else .bad
  | _ => .bad
section
variable {K : PySem.W.Frag} {O : List Addr} {H : Hp}
theorem kvs_merge : ∀ {more : List (D × D)} {ks : List (Key × V)} {ds : List (D × D)} {vs : List (Key × V)}, Kvs K keyD O H more ks → Kvs K keyD O H ds vs → Kvs K keyD O H (mergeD ds more) (mergeK vs ks)
  | [], ks, ds, vs, h, hd => by
    cases (show ks = [] from h)
    exact hd
  | (k, d) :: more, ks, ds, vs, h, hd => by
    obtain ⟨q, v, r, rfl, hk, hr, ht⟩ := (show ∃ q v r, ks = (q, v) :: r ∧ keyD k = some q ∧ Rep K O H d v ∧ Kvs K keyD O H more r from h)
    show Kvs K keyD O H (mergeD (putD keyD ds k d) more) (mergeK (putK vs q v) r)
    exact kvs_merge ht (kvs_put hk hr hd)
noncomputable def RPs (K : PySem.W.Frag) (O : List Addr) (H : Hp) : List (D × D) → List (V × V) → Prop
  | [], vs => vs = []
  | p :: ps, vs => ∃ x y r, vs = (x, y) :: r ∧ Rep K O H p.1 x ∧ Rep K O H p.2 y ∧ RPs K O H ps r
theorem rps_keys : ∀ {ps : List (D × D)} {vs : List (V × V)}, RPs K O H ps vs → keysOk ps = true → ∃ kvs : List (Key × V), vs = kvs.map (fun kv => (kV kv.1, kv.2)) ∧ kvs.length = ps.length ∧ Kvs K keyD O H ps kvs
  | [], vs, h, _ => by
    cases (show vs = [] from h)
    exact ⟨[], rfl, rfl, rfl⟩
  | p :: ps, vs, h, hk => by
    obtain ⟨x, y, r, rfl, hx, hy, ht⟩ := (show ∃ x y r, vs = (x, y) :: r ∧ Rep K O H p.1 x ∧ Rep K O H p.2 y ∧ RPs K O H ps r from h)
    have hk' : ((keyD p.1).isSome && keysOk ps) = true := hk
    rw [Bool.and_eq_true] at hk'
    obtain ⟨q, hq⟩ := Option.isSome_iff_exists.mp hk'.1
    obtain ⟨kvs, rfl, hl, hkv⟩ := rps_keys ht hk'.2
    refine ⟨(q, y) :: kvs, by rw [List.map_cons, ← key_rep hq hx], by simp [hl], ?_⟩
    exact ⟨q, y, kvs, rfl, hq, hy, hkv⟩
theorem RPs.mono {O' : List Addr} {H' : Hp} (k : Keep K O H O' H') : ∀ {ps : List (D × D)} {vs : List (V × V)}, RPs K O H ps vs → RPs K O' H' ps vs
  | [], vs, h => h
  | p :: ps, vs, h => by
    obtain ⟨x, y, r, e, hx, hy, ht⟩ := (show ∃ x y r, vs = (x, y) :: r ∧ Rep K O H p.1 x ∧ Rep K O H p.2 y ∧ RPs K O H ps r from h)
    exact ⟨x, y, r, e, Rep.mono k _ _ hx, Rep.mono k _ _ hy, RPs.mono k ht⟩
end
section
variable {X : Cx} {EX : EXT} {e o i : Expr} {fo fi fe : DE} {pos apos cpos : Pos}
theorem pairs_imp {ps : List (DE × DE)} : ∀ {σ : L2.St} {H : Hp} {O : List Addr} {ρ : Ev} {st : Sto} {Q : List (V × V) → Hp → Prop}, WR X.K O H st → REnv X.K O H ρ σ →
    Run X.K EX O H (dPairs ps ρ st) (fun kvs st' O' H' => ∀ vs, RPs X.K O' H' kvs vs → Q vs H') → tPairs (ps.map fun p => (tD X.K EX p.1, tD X.K EX p.2)) σ H Q := by
  induction ps with
  | nil =>
    intro σ H O ρ st Q W E R
    exact R O H Keep.refl W [] rfl
  | cons p ps ih =>
    intro σ H O ρ st Q W E R
    obtain ⟨fk, fv⟩ := p
    refine ⟨O, ρ, st, W, E, Run.bind (g := fun k st1 => (fv ρ st1).bind fun v st2 => (dPairs ps ρ st2).bind fun ps st3 => .ok ((k, v) :: ps) st3) R |>.mono fun k st1 O1 H1 k1 W1 R1 x rx => ?_⟩
    refine ⟨O1, ρ, st1, W1, E.mono k1, R1.bind.mono fun v st2 O2 H2 k2 W2 R2 y ry => ?_⟩
    refine ih W2 (E.mono (k1.trans k2)) (R2.bind.mono fun qs st3 O3 H3 k3 W3 R3 vs hvs => ?_)
    exact R3 O3 H3 Keep.refl W3 _ ⟨x, y, vs, rfl, Rep.mono (k2.trans k3) _ _ rx, Rep.mono k3 _ _ ry, hvs⟩
noncomputable def PDPs (X : Cx) (EX : EXT) (pos : Pos) (keys : List (Option Expr)) (values : List Expr) (ps : List (DE × DE)) : Prop := PPs X pos keys values (ps.map fun p => (tD X.K EX p.1, tD X.K EX p.2))
theorem pdp_nil : PDPs X EX pos [] [] [] := pps_nil
theorem pdp_cons {k v : Expr} {ks : List (Option Expr)} {vs : List Expr} {fk fv : DE} {ps : List (DE × DE)} (hk : PD X EX k fk) (hv : PD X EX v fv) (hr : PDPs X EX pos ks vs ps) : PDPs X EX pos (some k :: ks) (v :: vs) ((fk, fv) :: ps) := pps_cons hk hv hr
theorem pd_disp {keys : List (Option Expr)} {values : List Expr} {ps : List (DE × DE)} (h : PDPs X EX pos keys values ps) (hall : keys.all (·.isSome) = true := by rfl) (hl : keys.length = values.length := by rfl) (h0 : keys ≠ [] := by exact List.cons_ne_nil _ _)
    (h15 : keys.length ≤ 15 := by decide) : PD X EX (.Dict keys values pos) (dDisp ps) := by
  refine PE.mono (pe_disp h hall hl h0 h15) ?_
  rintro σ H Q ⟨O, ρ, st, W, E, R⟩ p hp
  have kp : Keep X.K O H (O ++ [p]) (upd H p (.dK [])) := Keep.push hp
  have W1 : WR X.K (O ++ [p]) (upd H p (.dK [])) (st ++ [.dct []]) := W.push' hp ⟨[], upd_same, rfl⟩
  have R1 := Run.later R kp
  have hq : (O ++ [p])[st.length]? = some p := by rw [← W.len]; simp
  refine pairs_imp W1 (E.mono kp) (R1.bind.mono fun kvs st1 O1 H1 k1 W2 R2 vs hvs => ?_)
  have hq1 := k1.pre _ _ hq
  split at R2
  · rename_i hd
    by_cases hc : keysOk kvs = true ∧ kvs.length ≤ 15
    · rw [if_pos hc] at R2
      obtain ⟨ks, rfl, hlk, hkv⟩ := rps_keys hvs hc.1
      obtain ⟨us, e2, hk0⟩ := W2.at_ _ _ _ hq1 hd
      cases (show us = [] from hk0)
      refine ⟨e2, ks, rfl, by omega, ?_⟩
      have kw : Keep X.K O1 H1 O1 (upd H1 p (.dK (mergeK [] ks))) := Keep.write W2 hq1
      exact R2 O1 _ kw (W2.write hq1 ⟨_, upd_same, Kvs.mono kw _ _ (kvs_merge hkv (show Kvs X.K keyD O1 H1 [] [] from rfl))⟩) _ (Rep.res_i.mpr ⟨p, rfl, hq1⟩)
    · rw [if_neg hc] at R2; exact R2.elim
  · exact R2.elim
end
section
variable {fo fi fe : DE} {ρ : Ev} {st : Sto}
theorem z_dDisp {ps : List (DE × DE)} : dDisp ps ρ st = (dPairs ps ρ (st ++ [.dct []])).bind fun kvs st1 => match st1[st.length]? with
  | some (.dct []) => if keysOk kvs = true ∧ kvs.length ≤ 15 then .ok (.res st.length) (st1.set st.length (.dct (mergeD [] kvs))) else .bad
  | _ => .bad := rfl
end
end DL

end
section
set_option Elab.async false
set_option linter.all false
set_option maxRecDepth 100000
namespace DL
open PySem PySem.Spec PyProof.Rows L2
mutual
noncomputable def nice : Nat → D → Bool
  | 0, _ => false
  | _ + 1, .non => true
  | _ + 1, .int _ => true
  | _ + 1, .str _ => true
  | n + 1, .tup xs => niceL n xs
  | n + 1, .lst xs => niceL n xs
  | _ + 1, _ => false
noncomputable def niceL : Nat → List D → Bool
  | _, [] => true
  | n, x :: xs => nice n x && niceL n xs
end
theorem niceL_all (n : Nat) : ∀ xs : List D, niceL n xs = true ↔ ∀ x ∈ xs, nice n x = true
  | [] => by simp [niceL]
  | x :: xs => by simp [niceL, niceL_all n xs]
open Classical in
theorem eqItems_nice {f : D → D → Option Bool} : ∀ (xs ys : List D), (∀ x ∈ xs, ∀ y ∈ ys, f x y = some (decide (x = y))) → eqItems f xs ys = some (decide (xs = ys))
  | [], [], _ => by simp [eqItems]
  | [], y :: ys, _ => by simp [eqItems]
  | x :: xs, [], _ => by simp [eqItems]
  | x :: xs, y :: ys, h => by
    unfold eqItems
    rw [h x List.mem_cons_self y List.mem_cons_self, eqItems_nice xs ys fun a ha b hb => h a (List.mem_cons_of_mem _ ha) b (List.mem_cons_of_mem _ hb)]
    by_cases h1 : x = y <;> by_cases h2 : xs = ys <;> simp [h1, h2]
open Classical in
theorem eqN_nice (st : Sto) : ∀ (n : Nat) (a b : D), nice n a = true → nice n b = true → eqN st n a b = some (decide (a = b))
  | 0, a, b, h, _ => by cases a <;> simp [nice] at h
  | n + 1, a, b, ha, hb => by
    unfold eqN
    cases a <;> cases b <;> simp only [nice, Bool.false_eq_true] at ha hb <;> simp only [kd]
    case tup.tup xs ys =>
      rw [eqItems_nice xs ys fun x hx y hy => eqN_nice st n x y ((niceL_all n xs).mp ha x hx) ((niceL_all n ys).mp hb y hy)]
      simp
    case lst.lst xs ys =>
      rw [eqItems_nice xs ys fun x hx y hy => eqN_nice st n x y ((niceL_all n xs).mp ha x hx) ((niceL_all n ys).mp hb y hy)]
      simp
    all_goals simp [Bool.beq_eq_decide_eq]
open Classical in
theorem eqD_nice {a b : D} {st : Sto} (ha : nice depth a = true) (hb : nice depth b = true) : eqD a b st = .ok (.bl (decide (a = b))) st := by
  unfold eqD; rw [eqN_nice st depth a b ha hb]
open Classical in
theorem neD_nice {a b : D} {st : Sto} (ha : nice depth a = true) (hb : nice depth b = true) : neD a b st = .ok (.bl (!decide (a = b))) st := by
  unfold neD; rw [eqN_nice st depth a b ha hb]
noncomputable def pl (ws : List Str) : D := .tup (ws.map .str)
theorem niceL_str (n : Nat) (ws : List Str) : niceL (n + 1) (ws.map .str) = true := by
  rw [niceL_all]
  intro x hx
  obtain ⟨w, _, rfl⟩ := List.mem_map.mp hx
  rfl
theorem nice_pl (n : Nat) (ws : List Str) : nice (n + 2) (pl ws) = true := niceL_str n ws
theorem nice_pl' (ws : List Str) : nice depth (pl ws) = true := nice_pl 48 ws
theorem cutL_to {α : Type} (xs : List α) (n : Nat) : cutL xs none (some (n : Int)) = xs.take n := by
  unfold cutL
  rw [HT.sIx_none, HT.sIx_nat, List.drop_zero, Nat.sub_zero]
  by_cases h : n ≤ xs.length
  · rw [Nat.min_eq_left h]
  · rw [Nat.min_eq_right (by omega), List.take_length, List.take_of_length_le (by omega)]
theorem tuple_lst (xs : List D) (st : Sto) : tupleD [.lst xs] st = .ok (.tup xs) st := rfl
theorem compD_map {chk : Sto → Prop} {t : TgD} {fe : DE} {st : Sto} (IE : Ev → Prop) (h : D → D) (hc : chk st) : ∀ (xs : List D) (ρ : Ev) (acc : List D), IE ρ → acc.length + xs.length ≤ small →
    (∀ x ∈ xs, ∀ ρ, IE ρ → ∃ ρ1, t x ρ = some ρ1 ∧ IE ρ1 ∧ fe ρ1 st = .ok (h x) st) → compD chk t dTrue fe xs ρ st acc = .ok (acc ++ xs.map h) st
  | [], ρ, acc, _, _, _ => by simp [compD, hc]
  | x :: xs, ρ, acc, hI, hl, hx => by
    obtain ⟨ρ1, e1, h1, e2⟩ := hx x List.mem_cons_self ρ hI
    unfold compD
    rw [if_pos ⟨hc, by simp at hl; omega⟩, e1]
    dsimp only [dTrue]
    rw [e2]
    dsimp only
    rw [compD_map IE h hc xs ρ1 (acc ++ [h x]) h1 (by simp at hl ⊢; omega) fun y hy => hx y (List.mem_cons_of_mem _ hy)]
    simp
theorem loop_nil {chk : Sto → Prop} {t : TgD} {g : DS} {ρ : Ev} {st : Sto} (hc : chk st) : loopD chk t g [] ρ st = .nx ρ st := by
  unfold loopD; rw [if_pos hc]
theorem loop_nx {chk : Sto → Prop} {t : TgD} {g : DS} {x : D} {xs : List D} {ρ ρ1 ρ2 : Ev} {st st2 : Sto} (hc : chk st) (ht : t x ρ = some ρ1) (hg : g ρ1 st = .nx ρ2 st2) : loopD chk t g (x :: xs) ρ st = loopD chk t g xs ρ2 st2 := by
  rw [loopD, if_pos hc, ht]; dsimp only; rw [hg]
theorem mulOk_r (i j : Int) (h1 : -(2 ^ 64) < j) (h2 : j < 2 ^ 64) : mulOk i j = true := by
  unfold mulOk
  rw [decide_eq_true h1, decide_eq_true h2]
  simp
theorem mulOk_l (i j : Int) (h1 : -(2 ^ 64) < i) (h2 : i < 2 ^ 64) : mulOk i j = true := by
  unfold mulOk
  rw [decide_eq_true h1, decide_eq_true h2]
  simp
theorem mul2_int (i j : Int) (st : Sto) (h : mulOk i j = true) : mul2D (.int i) (.int j) st = .ok (.int (i * j)) st := by
  simp [mul2D, mulD, intOp, h]
theorem mod_int (i j : Int) (st : Sto) (h : 0 < j) : modD (.int i) (.int j) st = .ok (.int (i % j)) st := by
  simp [modD, intOp, h]
theorem fdiv_int (i j : Int) (st : Sto) (h : 0 < j) (h2 : j < 1073741824) : fdivD (.int i) (.int j) st = .ok (.int (i / j)) st := by
  have e : divOk i j = true := @decide_eq_true (0 < j ∧ j < 1073741824) (Classical.propDecidable _) ⟨h, h2⟩
  simp [fdivD, intOp, e]
theorem addD_int (a b : Int) (st : Sto) : addD (.int a) (.int b) st = .ok (.int (a + b)) st := rfl
theorem subD_int (a b : Int) (st : Sto) : subD (.int a) (.int b) st = .ok (.int (a - b)) st := rfl
theorem law_sp {K : PySem.W.Frag} {F : FD} (hF : ∀ ns : List Int, ns.length ≤ 63 → ∃ st, F [.scr (ns.map .int)] [] = .ok (.bl true) st) (H : Hp) (a : Addr) (ns : List Int) (hl : ns.length ≤ 63) (ho : Only H) (hs : SqL K H a (ns.map V.int)) :
    spD K F [.ref a] H (fun v _ => v = .bl true) fun _ _ _ => False := by
  obtain ⟨st, e⟩ := hF ns hl
  refine ⟨[], [.scr (ns.map .int)], [], ⟨rfl, List.nodup_nil, fun i a s h => by simp at h⟩, Reps.one (Rep.scr_i.mpr ⟨a, _, rfl, SqF.of hs ?_, ?_⟩), ?_⟩
  · rcases ho a with h | ⟨o, xs, h⟩ <;> rw [h] <;> intro z <;> cases z
  · have : ∀ (ms : List Int), Reps K [] H (ms.map D.int) (ms.map V.int) := by
      intro ms
      induction ms with
      | nil => exact Reps.nil_i.mpr rfl
      | cons m ms ih => exact Reps.cons_i.mpr ⟨_, _, rfl, Rep.int_i.mpr rfl, ih⟩
    exact this ns
  · rw [e]
    exact fun O' H' _ _ v r => Rep.bl_i.mp r
section
variable {α β : Type} {ρ : Ev} {st : Sto} {f fa fb fc fo : DE} {ta tb t : DT} {g g' : DS} {da : DA} {i : Nat} {G : D → D → Sto → Out D} {H : D → D → Sto → Out (List D)}
@[simp] theorem z_bind_ok (a : α) (st : Sto) (k : α → Sto → Out β) : (Out.ok a st).bind k = k a st := rfl
@[simp] theorem z_bind_bad (k : α → Sto → Out β) : (Out.bad : Out α).bind k = .bad := rfl
@[simp] theorem z_to_ok (a : α) (st : Sto) (k : α → Sto → OutS) : (Out.ok a st).to k = k a st := rfl
@[simp] theorem z_var : dVar i ρ st = match ρ[i]? with
  | some (some d) => .ok d st
  | _ => .bad := rfl
@[simp] theorem z_C (d : D) : dC d ρ st = .ok d st := rfl
@[simp] theorem z_bin : dBin G fa fb ρ st = (fa ρ st).bind fun x st1 => (fb ρ st1).bind fun y st2 => G x y st2 := rfl
@[simp] theorem z_binF : dBinF H fa fb ρ st = (fa ρ st).bind fun x st1 => (fb ρ st1).bind fun y st2 => H x y st2 := rfl
@[simp] theorem z_B : dB f ρ st = (f ρ st).bind asB := rfl
@[simp] theorem z_asB (b : Bool) : asB (.bl b) st = .ok b st := rfl
@[simp] theorem z_asInt (b : Int) : asInt (.int b) st = .ok (some b) st := rfl
@[simp] theorem z_and : dAnd ta tb ρ st = (ta ρ st).bind fun x st1 => if x = true then tb ρ st1 else .ok false st1 := rfl
@[simp] theorem z_or : dOr ta tb ρ st = (ta ρ st).bind fun x st1 => if x = true then .ok true st1 else tb ρ st1 := rfl
@[simp] theorem z_not : dNot ta ρ st = (ta ρ st).bind fun x st1 => .ok (!x) st1 := rfl
@[simp] theorem z_andV : dAndV fa fb ρ st = (fa ρ st).bind fun d st1 => (asB d st1).bind fun x st2 => if x = true then fb ρ st2 else .ok (.bl false) st2 := rfl
@[simp] theorem z_orV : dOrV fa fb ρ st = (fa ρ st).bind fun d st1 => (asB d st1).bind fun x st2 => if x = true then .ok (.bl true) st2 else fb ρ st2 := rfl
@[simp] theorem z_notV : dNotV fa ρ st = (fa ρ st).bind fun d st1 => (asB d st1).bind fun x st2 => .ok (.bl (!x)) st2 := rfl
@[simp] theorem z_if : dIf t fa fb ρ st = (t ρ st).bind fun x st1 => if x = true then fa ρ st1 else fb ρ st1 := rfl
@[simp] theorem z_chain {G' : D → D → Sto → Out D} : dChain G G' fa fb fc ρ st = (fa ρ st).bind fun x st1 => (fb ρ st1).bind fun y st2 => (G x y st2).bind fun z st3 => (asB z st3).bind fun k st4 =>
  if k = true then (fc ρ st4).bind fun w st5 => G' y w st5 else .ok (.bl false) st4 := rfl
@[simp] theorem z_nil : dNil ρ st = .ok [] st := rfl
@[simp] theorem z_cons : dCons f da ρ st = (f ρ st).bind fun x st1 => (da ρ st1).bind fun xs st2 => .ok (x :: xs) st2 := rfl
@[simp] theorem z_tup : dTup da ρ st = (da ρ st).bind fun xs st1 => if xs.length ≤ small then .ok (.tup xs) st1 else .bad := rfl
@[simp] theorem z_lst : dLst da ρ st = (da ρ st).bind fun xs st1 => if xs.length ≤ small then .ok xs st1 else .bad := rfl
@[simp] theorem z_F : dF da ρ st = (da ρ st).bind fun xs st1 => .ok (.lst xs) st1 := rfl
@[simp] theorem z_sl {γ : D → Option Int → Option Int → Sto → Out α} {l h : DO} : dSl γ f l h ρ st = (f ρ st).bind fun x st1 => (l ρ st1).bind fun lo st2 => (h ρ st2).bind fun hi st3 => γ x lo hi st3 := rfl
@[simp] theorem z_noPart : dNoPart ρ st = .ok none st := rfl
@[simp] theorem z_part : dPart f ρ st = (f ρ st).bind asInt := rfl
@[simp] theorem z_call {γ : List D → Sto → Out α} : dCall γ da ρ st = (da ρ st).bind γ := rfl
@[simp] theorem z_comp {caps : List Nat} {nT : Nat} {fi : DI} {tg : TgD} : dComp caps nT fi tg t f ρ st = (fi ρ st).bind fun q st1 => compD q.2 tg t f q.1 (capEv ρ caps nT) st1 [] := rfl
@[simp] theorem z_seq : dSeq f ρ st = (f ρ st).bind fun d st1 => match itemsOf st1 d with
  | some xs => .ok (xs, fun st => itemsOf st d = some xs) st1
  | none => .bad := rfl
@[simp] theorem z_inst {T : String} : dInst T f ρ st = (f ρ st).bind fun d st1 => match tyName d with
  | some t => .ok (.bl (subTy t T)) st1
  | none => .bad := rfl
@[simp] theorem z_neg : dNeg f ρ st = (f ρ st).bind fun d st1 => match d with
  | .int i => .ok (.int (-i)) st1
  | _ => .bad := rfl
@[simp] theorem z_BM {γ : D → List D → Sto → Out D} : dBM γ fo da ρ st = (fo ρ st).bind fun d st1 => match d with
  | .str z => (da ρ st1).bind fun ds st2 => γ (.str z) ds st2
  | _ => .bad := rfl
@[simp] theorem z_sNext : sNext ρ st = .nx ρ st := rfl
@[simp] theorem z_sBreak : sBreak ρ st = .bk ρ st := rfl
@[simp] theorem z_sCont : sCont ρ st = .ct ρ st := rfl
@[simp] theorem z_sSeq : sSeq g g' ρ st = match g ρ st with
  | .nx ρ' st' => g' ρ' st'
  | r => r := rfl
@[simp] theorem z_sExpr : sExpr f ρ st = (f ρ st).to fun _ st1 => .nx ρ st1 := rfl
@[simp] theorem z_sRet : sRet f ρ st = (f ρ st).to fun d st1 => .rt d st1 := rfl
@[simp] theorem z_sRetN : sRetN ρ st = .rt .non st := rfl
@[simp] theorem z_sIf : sIf t g g' ρ st = (t ρ st).to fun x st1 => if x = true then g ρ st1 else g' ρ st1 := rfl
@[simp] theorem z_sSet : sSet i f ρ st = (f ρ st).to fun d st1 => .nx (ρ.set i (some d)) st1 := rfl
@[simp] theorem z_sSetF : sSetF i da ρ st = (da ρ st).to fun ds st1 => .nx (ρ.set i (some (.res st1.length))) (st1 ++ [.lst ds]) := rfl
@[simp] theorem z_sAsg {tg : TgD} : sAsg tg f ρ st = (f ρ st).to fun d st1 => match tg d ρ with
  | some ρ' => .nx ρ' st1
  | none => .bad := rfl
@[simp] theorem z_sFor {fi : DI} {tg : TgD} : sFor fi tg g ρ st = (fi ρ st).to fun q st1 => loopD q.2 tg g q.1 ρ st1 := rfl
@[simp] theorem z_sAdd : sAdd i f ρ st = match ρ[i]? with
  | some (some (.int z)) => (f ρ st).to fun v st1 => match v with
    | .int y => .nx (ρ.set i (some (.int (z + y)))) st1
    | _ => .bad
  | _ => .bad := rfl
@[simp] theorem z_runF {N n : Nat} {ds : List D} : runF N n g ds st = if ds.length = n then (match g (ds.map some ++ List.replicate (N - n) none) st with
  | .nx _ st' => .ok .non st'
  | .rt d st' => .ok d st'
  | _ => .bad) else .bad := rfl
@[simp] theorem z_addD (a b : Int) (st : Sto) : addD (.int a) (.int b) st = .ok (.int (a + b)) st := rfl
@[simp] theorem z_subD (a b : Int) (st : Sto) : subD (.int a) (.int b) st = .ok (.int (a - b)) st := rfl
theorem small_ge {n : Nat} (h : n ≤ 1000) : n ≤ small := Nat.le_trans h (by decide)
@[simp] theorem z_small0 : (0 : Nat) ≤ small := Nat.zero_le _
@[simp] theorem z_small1 : (1 : Nat) ≤ small := by decide
@[simp] theorem z_small2 : (2 : Nat) ≤ small := by decide
@[simp] theorem z_small3 : (3 : Nat) ≤ small := by decide
@[simp] theorem z_small4 : (4 : Nat) ≤ small := by decide
@[simp] theorem z_small5 : (5 : Nat) ≤ small := by decide
@[simp] theorem z_small6 : (6 : Nat) ≤ small := by decide
end
end DL

end
section
set_option Elab.async false
set_option linter.all false
set_option maxRecDepth 100000
namespace K40
open PySem L2 DL
noncomputable def top (i : Nat) : Stmt := PySem.Challenge.pw_cardplaces_k40_panes.main.body.getD i (.Pass ⟨0, 0, 0, 0⟩)
noncomputable def apart (cv : Nat → Addr) : Prop := cv 11 ≠ cv 12 ∧ cv 11 ≠ cv 13 ∧ cv 12 ≠ cv 13
noncomputable abbrev szPanes___init__ : Stmt := inClass (top 8) 0
theorem sczPanes___init__ : FnScope ["self"] ["self"] (defScope szPanes___init__) := ⟨rfl, rfl, rfl, by decide +kernel, rfl, by decide +kernel, by decide +kernel⟩
noncomputable def gzPanes___init__ (cv : Nat → Addr) : DS := (sSeq (sFldS (cv 3) "shown" (dVar 0) dNewK) (sSeq (sFldF (cv 3) "row" (dVar 0) (dLst dNil)) (sFldS (cv 3) "made" (dVar 0) (dC (.int 0)))))
noncomputable def FzPanes___init__ (cv : Nat → Addr) : FD := runF 1 1 (gzPanes___init__ cv)
noncomputable abbrev sz_law_cell : Stmt := top 10
theorem scz_law_cell : FnScope ["_law_script", "_law_k"] ["_law_script", "_law_k"] (defScope sz_law_cell) := ⟨rfl, rfl, rfl, by decide +kernel, rfl, by decide +kernel, by decide +kernel⟩
noncomputable def gz_law_cell : DS := (sSeq (sIf (dB (dBin eqD (dVar 0) (dF (dLst dNil)))) (sRet (dBin mul2D (dC (.int 7)) (dVar 1))) sNext) (sRet (dBin addD (dBin ixD (dVar 0) (dBin modD (dVar 1) (dCall lenD (dCons (dVar 0) dNil)))) (dBin mul2D (dC (.int 6553)) (dBin fdivD (dVar 1) (dCall lenD (dCons (dVar 0) dNil)))))))
noncomputable def Fz_law_cell : FD := runF 2 2 (gz_law_cell)
noncomputable abbrev sz_law_drawn : Stmt := top 11
theorem scz_law_drawn : FnScope ["_law_script", "_law_k", "_law_many", "_law_cell_here"] ["_law_script", "_law_k", "_law_many"] (defScope sz_law_drawn) := ⟨rfl, rfl, rfl, by decide +kernel, rfl, by decide +kernel, by decide +kernel⟩
noncomputable def gz_law_drawn : DS := (sSeq (sSet 3 (dBin modD (dBin addD (dBin mul2D (dBin modD (dCall Fz_law_cell (dCons (dVar 0) (dCons (dVar 1) dNil))) (dC (.int 2147483563))) (dC (.int 69069))) (dBin mul2D (dC (.int 104723)) (dBin addD (dVar 1) (dC (.int 1))))) (dC (.int 2147483563)))) (sSeq (sSet 3 (dBin modD (dBin addD (dBin mul2D (dVar 3) (dVar 3)) (dBin fdivD (dVar 3) (dC (.int 3)))) (dC (.int 2147483399)))) (sRet (dBin modD (dBin fdivD (dBin modD (dBin addD (dBin mul2D (dVar 3) (dVar 3)) (dBin fdivD (dVar 3) (dC (.int 7)))) (dC (.int 2147483647))) (dC (.int 11))) (dVar 2)))))
noncomputable def Fz_law_drawn : FD := runF 4 3 (gz_law_drawn)
noncomputable abbrev sz_law_place : Stmt := top 12
theorem scz_law_place : FnScope ["_law_script", "_law_at"] ["_law_script", "_law_at"] (defScope sz_law_place) := ⟨rfl, rfl, rfl, by decide +kernel, rfl, by decide +kernel, by decide +kernel⟩
noncomputable def Ez_law_place_1 : DE := (dBin ixD (dC (.str "abc")) (dCall Fz_law_drawn (dCons (dVar 1) (dCons (dBin addD (dBin addD (dVar 2) (dC (.int 1))) (dVar 0)) (dCons (dC (.int 3)) dNil)))))
noncomputable def gz_law_place : DS := (sRet (dCall tupleD (dCons (dF (dComp [0, 1] 1 (dRng1 (dCons (dCall Fz_law_drawn (dCons (dVar 0) (dCons (dVar 1) (dCons (dC (.int 4)) dNil)))) dNil)) (tgName 0) dTrue Ez_law_place_1)) dNil)))
noncomputable def Fz_law_place : FD := runF 2 2 (gz_law_place)
noncomputable abbrev szPanes_add : Stmt := inClass (top 8) 1
theorem sczPanes_add : FnScope ["self", "name", "place"] ["self", "name", "place"] (defScope szPanes_add) := ⟨rfl, rfl, rfl, by decide +kernel, rfl, by decide +kernel, by decide +kernel⟩
noncomputable def gzPanes_add (cv : Nat → Addr) : DS := (sSeq (sIf (dB (dBin inDd (dVar 1) (dFld (cv 3) "shown" (dVar 0)))) (sRaise (cv 13) (dCons (dC (.str "a pane has this name")) dNil)) sNext) (sPutD (dFld (cv 3) "shown" (dVar 0)) (dVar 1) (dVar 2)))
noncomputable def FzPanes_add (cv : Nat → Addr) : FD := runX 3 3 (gzPanes_add cv)
noncomputable abbrev szPanes_check_name : Stmt := inClass (top 8) 12
theorem sczPanes_check_name : FnScope ["self", "name"] ["self", "name"] (defScope szPanes_check_name) := ⟨rfl, rfl, rfl, by decide +kernel, rfl, by decide +kernel, by decide +kernel⟩
noncomputable def gzPanes_check_name (cv : Nat → Addr) : DS := (sIf (dB (dBin notInDd (dVar 1) (dFld (cv 3) "shown" (dVar 0)))) (sRaise (cv 12) (dCons (dC (.str "no pane has this name")) dNil)) sNext)
noncomputable def FzPanes_check_name (cv : Nat → Addr) : FD := runX 2 2 (gzPanes_check_name cv)
noncomputable abbrev szPanes_place : Stmt := inClass (top 8) 2
theorem sczPanes_place : FnScope ["self", "name"] ["self", "name"] (defScope szPanes_place) := ⟨rfl, rfl, rfl, by decide +kernel, rfl, by decide +kernel, by decide +kernel⟩
noncomputable def gzPanes_place (cv : Nat → Addr) : DS := (sSeq (sExpr (dMeth (cv 3) "check_name" (FzPanes_check_name cv) (dVar 0) (dCons (dVar 1) dNil))) (sRet (getDd (dFld (cv 3) "shown" (dVar 0)) (dVar 1))))
noncomputable def FzPanes_place (cv : Nat → Addr) : FD := runX 2 2 (gzPanes_place cv)
noncomputable abbrev szPanes_visit : Stmt := inClass (top 8) 4
theorem sczPanes_visit : FnScope ["self", "name", "place", "step"] ["self", "name", "place"] (defScope szPanes_visit) := ⟨rfl, rfl, rfl, by decide +kernel, rfl, by decide +kernel, by decide +kernel⟩
noncomputable def gzPanes_visit (cv : Nat → Addr) : DS := (sSeq (sSet 3 (dTup (dCons (dVar 1) (dCons (dMeth (cv 3) "place" (FzPanes_place cv) (dVar 0) (dCons (dVar 1) dNil)) (dCons (dVar 2) dNil))))) (sSeq (sFldF (cv 3) "row" (dVar 0) (dBinF catL (dF (dSl cutF (dFld (cv 3) "row" (dVar 0)) dNoPart (dPart (dFld (cv 3) "made" (dVar 0))))) (dF (dLst (dCons (dVar 3) dNil))))) (sSeq (sFldAdd (cv 3) "made" (dVar 0) (dC (.int 1))) (sPutD (dFld (cv 3) "shown" (dVar 0)) (dVar 1) (dVar 2)))))
noncomputable def FzPanes_visit (cv : Nat → Addr) : FD := runX 4 3 (gzPanes_visit cv)
noncomputable abbrev szPanes_back : Stmt := inClass (top 8) 5
theorem sczPanes_back : FnScope ["self", "step"] ["self"] (defScope szPanes_back) := ⟨rfl, rfl, rfl, by decide +kernel, rfl, by decide +kernel, by decide +kernel⟩
noncomputable def gzPanes_back (cv : Nat → Addr) : DS := (sSeq (sIf (dB (dBin eqD (dFld (cv 3) "made" (dVar 0)) (dC (.int 0)))) (sRaise (cv 11) (dCons (dC (.str "no step is done")) dNil)) sNext) (sSeq (sFldSub (cv 3) "made" (dVar 0) (dC (.int 1))) (sSeq (sSet 1 (dBin ixD (dFld (cv 3) "row" (dVar 0)) (dFld (cv 3) "made" (dVar 0)))) (sSeq (sPutD (dFld (cv 3) "shown" (dVar 0)) (dBin ixD (dVar 1) (dC (.int 0))) (dBin ixD (dVar 1) (dC (.int 1)))) (sRet (dBin ixD (dVar 1) (dC (.int 0))))))))
noncomputable def FzPanes_back (cv : Nat → Addr) : FD := runX 2 1 (gzPanes_back cv)
noncomputable abbrev szPanes_forth : Stmt := inClass (top 8) 6
theorem sczPanes_forth : FnScope ["self", "step"] ["self"] (defScope szPanes_forth) := ⟨rfl, rfl, rfl, by decide +kernel, rfl, by decide +kernel, by decide +kernel⟩
noncomputable def gzPanes_forth (cv : Nat → Addr) : DS := (sSeq (sIf (dB (dBin eqD (dFld (cv 3) "made" (dVar 0)) (dCall lenD (dCons (dFld (cv 3) "row" (dVar 0)) dNil)))) (sRaise (cv 11) (dCons (dC (.str "no step is undone")) dNil)) sNext) (sSeq (sSet 1 (dBin ixD (dFld (cv 3) "row" (dVar 0)) (dFld (cv 3) "made" (dVar 0)))) (sSeq (sFldAdd (cv 3) "made" (dVar 0) (dC (.int 1))) (sSeq (sPutD (dFld (cv 3) "shown" (dVar 0)) (dBin ixD (dVar 1) (dC (.int 0))) (dBin ixD (dVar 1) (dC (.int 2)))) (sRet (dBin ixD (dVar 1) (dC (.int 0))))))))
noncomputable def FzPanes_forth (cv : Nat → Addr) : FD := runX 2 1 (gzPanes_forth cv)
noncomputable abbrev szPanes_back_in : Stmt := inClass (top 8) 9
theorem sczPanes_back_in : FnScope ["self", "name", "many"] ["self", "name"] (defScope szPanes_back_in) := ⟨rfl, rfl, rfl, by decide +kernel, rfl, by decide +kernel, by decide +kernel⟩
noncomputable def EzPanes_back_in_1 : DE := (dBin ixD (dVar 0) (dC (.int 0)))
noncomputable def WzPanes_back_in_1 : DS := (sAdd 2 (dC (.int 1)))
noncomputable def VzPanes_back_in_1 (cv : Nat → Addr) : DT := (dB (dBin neD (dMeth (cv 3) "back" (FzPanes_back cv) (dVar 0) dNil) (dVar 1)))
noncomputable def gzPanes_back_in (cv : Nat → Addr) : DS := (sSeq (sExpr (dMeth (cv 3) "check_name" (FzPanes_check_name cv) (dVar 0) (dCons (dVar 1) dNil))) (sSeq (sIf (dB (dBin notInD (dVar 1) (dF (dComp [] 1 (dSeq (dF (dSl cutF (dFld (cv 3) "row" (dVar 0)) dNoPart (dPart (dFld (cv 3) "made" (dVar 0)))))) (tgName 0) dTrue EzPanes_back_in_1)))) (sRaise (cv 11) (dCons (dC (.str "no step of this pane is done")) dNil)) sNext) (sSeq (sSet 2 (dC (.int 1))) (sSeq (whileD 100 (VzPanes_back_in_1 cv) WzPanes_back_in_1) (sRet (dVar 2))))))
noncomputable def FzPanes_back_in (cv : Nat → Addr) : FD := runX 3 2 (gzPanes_back_in cv)
noncomputable abbrev szsteps_of_others : Stmt := top 7
theorem sczsteps_of_others : FnScope ["steps", "name"] ["steps", "name"] (defScope szsteps_of_others) := ⟨rfl, rfl, rfl, by decide +kernel, rfl, by decide +kernel, by decide +kernel⟩
noncomputable def Ezsteps_of_others_1 : DE := (dVar 0)
noncomputable def Czsteps_of_others_1 : DT := (dB (dBin neD (dBin ixD (dVar 0) (dC (.int 0))) (dVar 1)))
noncomputable def gzsteps_of_others : DS := (sRetF (dComp [1] 1 (dSeq (dVar 0)) (tgName 0) Czsteps_of_others_1 Ezsteps_of_others_1))
noncomputable def Fzsteps_of_others : FD := runF 2 2 (gzsteps_of_others)
noncomputable abbrev szPanes_close : Stmt := inClass (top 8) 10
theorem sczPanes_close : FnScope ["self", "name", "many"] ["self", "name"] (defScope szPanes_close) := ⟨rfl, rfl, rfl, by decide +kernel, rfl, by decide +kernel, by decide +kernel⟩
noncomputable def gzPanes_close (cv : Nat → Addr) : DS := (sSeq (sExpr (dMeth (cv 3) "check_name" (FzPanes_check_name cv) (dVar 0) (dCons (dVar 1) dNil))) (sSeq (sSet 2 (dCall lenD (dCons (dFld (cv 3) "row" (dVar 0)) dNil))) (sSeq (sFldS (cv 3) "made" (dVar 0) (dCall lenD (dCons (dCall Fzsteps_of_others (dCons (dF (dSl cutF (dFld (cv 3) "row" (dVar 0)) dNoPart (dPart (dFld (cv 3) "made" (dVar 0))))) (dCons (dVar 1) dNil))) dNil))) (sSeq (sFldS (cv 3) "row" (dVar 0) (dCall Fzsteps_of_others (dCons (dFld (cv 3) "row" (dVar 0)) (dCons (dVar 1) dNil)))) (sSeq (sExpr (dPopD (dFld (cv 3) "shown" (dVar 0)) (dVar 1))) (sRet (dBin subD (dVar 2) (dCall lenD (dCons (dFld (cv 3) "row" (dVar 0)) dNil)))))))))
noncomputable def FzPanes_close (cv : Nat → Addr) : FD := runX 3 2 (gzPanes_close cv)
noncomputable abbrev sz_law_refused : Stmt := top 13
theorem scz_law_refused : FnScope ["_law_e", "_law_flags"] ["_law_e"] (defScope sz_law_refused) := ⟨rfl, rfl, rfl, by decide +kernel, rfl, by decide +kernel, by decide +kernel⟩
noncomputable def gz_law_refused (cv : Nat → Addr) : DS := (sSeq (sSet 1 (dF (dLst (dCons (dInstX [((cv 12), false), ((cv 11), true), ((cv 13), false)] (dVar 0)) (dCons (dInstX [((cv 12), true), ((cv 11), false), ((cv 13), false)] (dVar 0)) (dCons (dInstX [((cv 12), false), ((cv 11), false), ((cv 13), true)] (dVar 0)) dNil)))))) (sSeq (sSet 1 (dF (dBinF catL (dVar 1) (dF (dLst (dCons (dInstX [((cv 12), false), ((cv 11), false), ((cv 13), false)] (dVar 0)) dNil)))))) (sSeq (sIf (dOr (dB (dBin neD (dLM countD (dVar 1) (dCons (dC (.bl true)) dNil)) (dC (.int 1)))) (dNot (dB (dInstX [((cv 12), true), ((cv 11), true), ((cv 13), true)] (dVar 0))))) (sRet (dTup (dCons (dC (.str "refused")) (dCons (dNeg (dC (.int 1))) dNil)))) sNext) (sRet (dTup (dCons (dC (.str "refused")) (dCons (dLM indexD (dVar 1) (dCons (dC (.bl true)) dNil)) dNil)))))))
noncomputable def Fz_law_refused (cv : Nat → Addr) : FD := runF 2 1 (gz_law_refused cv)
noncomputable abbrev sz_law_told : Stmt := top 14
theorem scz_law_told : FnScope ["_law_panes", "_law_way", "_law_name", "_law_place_here", "_law_e"] ["_law_panes", "_law_way", "_law_name", "_law_place_here"] (defScope sz_law_told) := ⟨rfl, rfl, rfl, by decide +kernel, rfl, by decide +kernel, by decide +kernel⟩
noncomputable def Tz_law_told_1 (cv : Nat → Addr) : DS := (sSeq (sIf (dB (dBin eqD (dVar 1) (dC (.int 0)))) (sRet (dMeth (cv 3) "add" (FzPanes_add cv) (dVar 0) (dCons (dVar 2) (dCons (dVar 3) dNil)))) sNext) (sSeq (sIf (dB (dBin eqD (dVar 1) (dC (.int 1)))) (sRet (dMeth (cv 3) "visit" (FzPanes_visit cv) (dVar 0) (dCons (dVar 2) (dCons (dVar 3) dNil)))) sNext) (sSeq (sIf (dB (dBin eqD (dVar 1) (dC (.int 2)))) (sRet (dMeth (cv 3) "back" (FzPanes_back cv) (dVar 0) dNil)) sNext) (sSeq (sIf (dB (dBin eqD (dVar 1) (dC (.int 3)))) (sRet (dMeth (cv 3) "forth" (FzPanes_forth cv) (dVar 0) dNil)) sNext) (sRet (dIf (dB (dBin eqD (dVar 1) (dC (.int 4)))) (dMeth (cv 3) "back_in" (FzPanes_back_in cv) (dVar 0) (dCons (dVar 2) dNil)) (dMeth (cv 3) "close" (FzPanes_close cv) (dVar 0) (dCons (dVar 2) dNil))))))))
noncomputable def Hz_law_told_1 (cv : Nat → Addr) : DS := (sRet (dCall (Fz_law_refused cv) (dCons (dVar 4) dNil)))
noncomputable def gz_law_told (cv : Nat → Addr) : DS := (sTry [(cv 12), (cv 11), (cv 13)] (handAs 5 4 (Hz_law_told_1 cv)) (Tz_law_told_1 cv))
noncomputable def Fz_law_told (cv : Nat → Addr) : FD := runF 5 4 (gz_law_told cv)
noncomputable abbrev sz_law_back : Stmt := top 15
theorem scz_law_back : FnScope ["_law_mine", "_law_row"] ["_law_mine"] (defScope sz_law_back) := ⟨rfl, rfl, rfl, by decide +kernel, rfl, by decide +kernel, by decide +kernel⟩
noncomputable def gz_law_back : DS := (sSeq (sPutD (dVar 0) (dC (.str "at")) (dBin subD (getDd (dVar 0) (dC (.str "at"))) (dC (.int 1)))) (sSeq (sSet 1 (dBin ixD (getDd (dVar 0) (dC (.str "rows"))) (getDd (dVar 0) (dC (.str "at"))))) (sSeq (sPutD (getDd (dVar 0) (dC (.str "here"))) (dBin ixD (dVar 1) (dC (.int 0))) (dBin ixD (dVar 1) (dC (.int 1)))) (sRet (dBin ixD (dVar 1) (dC (.int 0)))))))
noncomputable def Fz_law_back : FD := runF 2 1 (gz_law_back)
noncomputable abbrev sz_law_done : Stmt := top 16
theorem scz_law_done : FnScope ["_law_mine", "_law_way", "_law_name", "_law_place_here", "_law_rows", "_law_some"] ["_law_mine", "_law_way", "_law_name", "_law_place_here"] (defScope sz_law_done) := ⟨rfl, rfl, rfl, by decide +kernel, rfl, by decide +kernel, by decide +kernel⟩
noncomputable def stz_law_done_p1 : Stmt := (defBody sz_law_done).getD 0 (.Pass ⟨0, 0, 0, 0⟩)
noncomputable def stz_law_done_p2 : Stmt := (defBody sz_law_done).getD 1 (.Pass ⟨0, 0, 0, 0⟩)
noncomputable def stz_law_done_p3 : Stmt := (defBody sz_law_done).getD 2 (.Pass ⟨0, 0, 0, 0⟩)
noncomputable def stz_law_done_p4 : Stmt := (ifElse stz_law_done_p3).getD 0 (.Pass ⟨0, 0, 0, 0⟩)
noncomputable def stz_law_done_p5 : Stmt := (ifElse stz_law_done_p4).getD 0 (.Pass ⟨0, 0, 0, 0⟩)
noncomputable def stz_law_done_p6 : Stmt := (ifElse stz_law_done_p5).getD 0 (.Pass ⟨0, 0, 0, 0⟩)
noncomputable def stz_law_done_p7 : Stmt := (ifBody stz_law_done_p6).getD 0 (.Pass ⟨0, 0, 0, 0⟩)
noncomputable def stz_law_done_p8 : Stmt := (ifBody stz_law_done_p6).getD 1 (.Pass ⟨0, 0, 0, 0⟩)
noncomputable def stz_law_done_p9 : Stmt := (ifBody stz_law_done_p6).getD 2 (.Pass ⟨0, 0, 0, 0⟩)
noncomputable def stz_law_done_p10 : Stmt := (ifBody stz_law_done_p6).getD 3 (.Pass ⟨0, 0, 0, 0⟩)
noncomputable def stz_law_done_p11 : Stmt := (ifElse stz_law_done_p6).getD 0 (.Pass ⟨0, 0, 0, 0⟩)
noncomputable def stz_law_done_p12 : Stmt := (ifElse stz_law_done_p11).getD 0 (.Pass ⟨0, 0, 0, 0⟩)
noncomputable def stz_law_done_p13 : Stmt := (ifElse stz_law_done_p11).getD 1 (.Pass ⟨0, 0, 0, 0⟩)
noncomputable def stz_law_done_p14 : Stmt := (ifElse stz_law_done_p11).getD 2 (.Pass ⟨0, 0, 0, 0⟩)
noncomputable def stz_law_done_p15 : Stmt := (ifElse stz_law_done_p11).getD 3 (.Pass ⟨0, 0, 0, 0⟩)
noncomputable def stz_law_done_p16 : Stmt := (defBody sz_law_done).getD 3 (.Pass ⟨0, 0, 0, 0⟩)
noncomputable def Pz_law_done_p1 : DS := (sSet 4 (getDd (dVar 0) (dC (.str "rows"))))
noncomputable def Pz_law_done_p2 : DS := (sIf (dAnd (dB (dBin inD (dVar 1) (dTup (dCons (dC (.int 1)) (dCons (dC (.int 4)) (dCons (dC (.int 5)) dNil)))))) (dB (dBin notInDd (dVar 2) (getDd (dVar 0) (dC (.str "here")))))) (sRet (dTup (dCons (dC (.str "refused")) (dCons (dC (.int 1)) dNil)))) sNext)
noncomputable def Pz_law_done_p7 : DS := (sIf (dB (dBin eqD (getDd (dVar 0) (dC (.str "at"))) (dCall lenD (dCons (dVar 4) dNil)))) (sRet (dTup (dCons (dC (.str "refused")) (dCons (dC (.int 0)) dNil)))) sNext)
noncomputable def Pz_law_done_p8 : DS := (sPutD (dVar 0) (dC (.str "at")) (dBin addD (getDd (dVar 0) (dC (.str "at"))) (dC (.int 1))))
noncomputable def Pz_law_done_p9 : DS := (sPutD (getDd (dVar 0) (dC (.str "here"))) (dBin ixD (dBin ixD (dVar 4) (dBin subD (getDd (dVar 0) (dC (.str "at"))) (dC (.int 1)))) (dC (.int 0))) (dBin ixD (dBin ixD (dVar 4) (dBin subD (getDd (dVar 0) (dC (.str "at"))) (dC (.int 1)))) (dC (.int 2))))
noncomputable def Pz_law_done_p10 : DS := (sRet (dBin ixD (dBin ixD (dVar 4) (dBin subD (getDd (dVar 0) (dC (.str "at"))) (dC (.int 1)))) (dC (.int 0))))
noncomputable def Ez_law_done_1 : DE := (dVar 0)
noncomputable def Cz_law_done_1 : DT := (dB (dBin eqD (dBin ixD (dBin ixD (dVar 2) (dVar 0)) (dC (.int 0))) (dVar 1)))
noncomputable def Ez_law_done_2 : DE := (dCall Fz_law_back (dCons (dVar 1) dNil))
noncomputable def Ez_law_done_3 : DE := (dVar 0)
noncomputable def Cz_law_done_2 : DT := (dB (dBin neD (dBin ixD (dVar 0) (dC (.int 0))) (dVar 1)))
noncomputable def Pz_law_done_p12 : DS := (sPutD (dVar 0) (dC (.str "at")) (dCall lenD (dCons (dF (dComp [2] 1 (dSeq (dF (dSl cutF (dVar 4) dNoPart (dPart (getDd (dVar 0) (dC (.str "at"))))))) (tgName 0) Cz_law_done_2 Ez_law_done_3)) dNil)))
noncomputable def Ez_law_done_4 : DE := (dVar 0)
noncomputable def Cz_law_done_3 : DT := (dB (dBin neD (dBin ixD (dVar 0) (dC (.int 0))) (dVar 1)))
noncomputable def Pz_law_done_p13 : DS := (sPutD (dVar 0) (dC (.str "rows")) (dF (dComp [2] 1 (dSeq (dVar 4)) (tgName 0) Cz_law_done_3 Ez_law_done_4)))
noncomputable def Pz_law_done_p14 : DS := (sExpr (dPopD (getDd (dVar 0) (dC (.str "here"))) (dVar 2)))
noncomputable def Pz_law_done_p15 : DS := (sRet (dBin subD (dCall lenD (dCons (dVar 4) dNil)) (dCall lenD (dCons (getDd (dVar 0) (dC (.str "rows"))) dNil))))
noncomputable def Pz_law_done_p11 : DS := (sIf (dB (dBin eqD (dVar 1) (dC (.int 4)))) (sSeq (sSet 5 (dF (dComp [2, 4] 1 (dRng1 (dCons (getDd (dVar 0) (dC (.str "at"))) dNil)) (tgName 0) Cz_law_done_1 Ez_law_done_1))) (sSeq (sIf (dB (dBin eqD (dVar 5) (dF (dLst dNil)))) (sRet (dTup (dCons (dC (.str "refused")) (dCons (dC (.int 0)) dNil)))) sNext) (sRet (dCall lenD (dCons (dF (dComp [0] 1 (dRng1 (dCons (dBin subD (getDd (dVar 0) (dC (.str "at"))) (dBin ixD (dVar 5) (dNeg (dC (.int 1))))) dNil)) (tgName 0) dTrue Ez_law_done_2)) dNil))))) (sSeq Pz_law_done_p12 (sSeq Pz_law_done_p13 (sSeq Pz_law_done_p14 Pz_law_done_p15))))
noncomputable def Pz_law_done_p6 : DS := (sIf (dB (dBin eqD (dVar 1) (dC (.int 3)))) (sSeq Pz_law_done_p7 (sSeq Pz_law_done_p8 (sSeq Pz_law_done_p9 Pz_law_done_p10))) Pz_law_done_p11)
noncomputable def Pz_law_done_p5 : DS := (sIf (dB (dBin eqD (dVar 1) (dC (.int 2)))) (sRet (dIf (dB (dBin gtD (getDd (dVar 0) (dC (.str "at"))) (dC (.int 0)))) (dCall Fz_law_back (dCons (dVar 0) dNil)) (dTup (dCons (dC (.str "refused")) (dCons (dC (.int 0)) dNil))))) Pz_law_done_p6)
noncomputable def Pz_law_done_p4 : DS := (sIf (dB (dBin eqD (dVar 1) (dC (.int 1)))) (sSeq (sPutD (dVar 0) (dC (.str "rows")) (dF (dBinF catL (dF (dSl cutF (dVar 4) dNoPart (dPart (getDd (dVar 0) (dC (.str "at")))))) (dF (dLst (dCons (dTup (dCons (dVar 2) (dCons (getDd (getDd (dVar 0) (dC (.str "here"))) (dVar 2)) (dCons (dVar 3) dNil)))) dNil)))))) (sSeq (sPutD (dVar 0) (dC (.str "at")) (dBin addD (getDd (dVar 0) (dC (.str "at"))) (dC (.int 1)))) (sPutD (getDd (dVar 0) (dC (.str "here"))) (dVar 2) (dVar 3)))) Pz_law_done_p5)
noncomputable def Pz_law_done_p3 : DS := (sIf (dB (dBin eqD (dVar 1) (dC (.int 0)))) (sSeq (sIf (dB (dBin inDd (dVar 2) (getDd (dVar 0) (dC (.str "here"))))) (sRet (dTup (dCons (dC (.str "refused")) (dCons (dC (.int 2)) dNil)))) sNext) (sPutD (getDd (dVar 0) (dC (.str "here"))) (dVar 2) (dVar 3))) Pz_law_done_p4)
noncomputable def Pz_law_done_p16 : DS := (sRet (dC .non))
noncomputable def gz_law_done : DS := (sSeq Pz_law_done_p1 (sSeq Pz_law_done_p2 (sSeq Pz_law_done_p3 Pz_law_done_p16)))
noncomputable def Fz_law_done : FD := runF 6 4 (gz_law_done)
noncomputable abbrev szPanes_names : Stmt := inClass (top 8) 3
theorem sczPanes_names : FnScope ["self"] ["self"] (defScope szPanes_names) := ⟨rfl, rfl, rfl, by decide +kernel, rfl, by decide +kernel, by decide +kernel⟩
noncomputable def gzPanes_names (cv : Nat → Addr) : DS := (sRet (dF (dCall sortDF (dCons (dFld (cv 3) "shown" (dVar 0)) dNil))))
noncomputable def FzPanes_names (cv : Nat → Addr) : FD := runF 1 1 (gzPanes_names cv)
noncomputable abbrev szPanes_steps : Stmt := inClass (top 8) 7
theorem sczPanes_steps : FnScope ["self"] ["self"] (defScope szPanes_steps) := ⟨rfl, rfl, rfl, by decide +kernel, rfl, by decide +kernel, by decide +kernel⟩
noncomputable def gzPanes_steps (cv : Nat → Addr) : DS := (sRetF (dCall listF (dCons (dFld (cv 3) "row" (dVar 0)) dNil)))
noncomputable def FzPanes_steps (cv : Nat → Addr) : FD := runF 1 1 (gzPanes_steps cv)
noncomputable abbrev szPanes_done : Stmt := inClass (top 8) 8
theorem sczPanes_done : FnScope ["self"] ["self"] (defScope szPanes_done) := ⟨rfl, rfl, rfl, by decide +kernel, rfl, by decide +kernel, by decide +kernel⟩
noncomputable def gzPanes_done (cv : Nat → Addr) : DS := (sRet (dFld (cv 3) "made" (dVar 0)))
noncomputable def FzPanes_done (cv : Nat → Addr) : FD := runF 1 1 (gzPanes_done cv)
noncomputable abbrev szPanes_seen : Stmt := inClass (top 8) 11
theorem sczPanes_seen : FnScope ["self", "name", "shown", "steps"] ["self", "name"] (defScope szPanes_seen) := ⟨rfl, rfl, rfl, by decide +kernel, rfl, by decide +kernel, by decide +kernel⟩
noncomputable def EzPanes_seen_1 : DE := (dVar 0)
noncomputable def CzPanes_seen_1 : DT := (dB (dBin eqD (dBin ixD (dVar 0) (dC (.int 0))) (dVar 1)))
noncomputable def EzPanes_seen_2 : DE := (dBin ixD (dVar 0) (dC (.int 2)))
noncomputable def gzPanes_seen (cv : Nat → Addr) : DS := (sSeq (sSet 2 (dMeth (cv 3) "place" (FzPanes_place cv) (dVar 0) (dCons (dVar 1) dNil))) (sSeq (sSet 3 (dF (dComp [1] 1 (dSeq (dFld (cv 3) "row" (dVar 0))) (tgName 0) CzPanes_seen_1 EzPanes_seen_1))) (sSeq (sIf (dB (dBin eqD (dCall lenD (dCons (dVar 3) dNil)) (dC (.int 0)))) (sRet (dF (dLst (dCons (dVar 2) dNil)))) sNext) (sRet (dF (dBinF catL (dF (dLst (dCons (dBin ixD (dBin ixD (dVar 3) (dC (.int 0))) (dC (.int 1))) dNil))) (dF (dComp [] 1 (dSeq (dVar 3)) (tgName 0) dTrue EzPanes_seen_2))))))))
noncomputable def FzPanes_seen (cv : Nat → Addr) : FD := runX 4 2 (gzPanes_seen cv)
noncomputable abbrev szlaw : Stmt := top 17
theorem sczlaw : FnScope ["_law_script", "_law_panes", "_law_other", "_law_mine", "_law_k", "_law_here", "_law_way", "_law_name", "_law_place_here", "_law_one", "_law_own", "_law_seen"] ["_law_script"] (defScope szlaw) := ⟨rfl, rfl, rfl, by decide +kernel, rfl, by decide +kernel, by decide +kernel⟩
noncomputable def stzlaw_p1 : Stmt := (defBody szlaw).getD 0 (.Pass ⟨0, 0, 0, 0⟩)
noncomputable def stzlaw_p2 : Stmt := (defBody szlaw).getD 1 (.Pass ⟨0, 0, 0, 0⟩)
noncomputable def stzlaw_p3 : Stmt := (defBody szlaw).getD 2 (.Pass ⟨0, 0, 0, 0⟩)
noncomputable def stzlaw_p4 : Stmt := (defBody szlaw).getD 3 (.Pass ⟨0, 0, 0, 0⟩)
noncomputable def stzlaw_p5 : Stmt := (forBody stzlaw_p4).getD 0 (.Pass ⟨0, 0, 0, 0⟩)
noncomputable def stzlaw_p6 : Stmt := (forBody stzlaw_p4).getD 1 (.Pass ⟨0, 0, 0, 0⟩)
noncomputable def stzlaw_p7 : Stmt := (forBody stzlaw_p4).getD 2 (.Pass ⟨0, 0, 0, 0⟩)
noncomputable def stzlaw_p8 : Stmt := (forBody stzlaw_p4).getD 3 (.Pass ⟨0, 0, 0, 0⟩)
noncomputable def stzlaw_p9 : Stmt := (forBody stzlaw_p4).getD 4 (.Pass ⟨0, 0, 0, 0⟩)
noncomputable def stzlaw_p10 : Stmt := (forBody stzlaw_p4).getD 5 (.Pass ⟨0, 0, 0, 0⟩)
noncomputable def stzlaw_p11 : Stmt := (forBody stzlaw_p4).getD 6 (.Pass ⟨0, 0, 0, 0⟩)
noncomputable def stzlaw_p12 : Stmt := (forBody stzlaw_p11).getD 0 (.Pass ⟨0, 0, 0, 0⟩)
noncomputable def stzlaw_p13 : Stmt := (forBody stzlaw_p11).getD 1 (.Pass ⟨0, 0, 0, 0⟩)
noncomputable def stzlaw_p14 : Stmt := (forBody stzlaw_p11).getD 2 (.Pass ⟨0, 0, 0, 0⟩)
noncomputable def stzlaw_p15 : Stmt := (defBody szlaw).getD 4 (.Pass ⟨0, 0, 0, 0⟩)
noncomputable def stzlaw_p16 : Stmt := (defBody szlaw).getD 5 (.Pass ⟨0, 0, 0, 0⟩)
noncomputable def Pzlaw_p1 (cv : Nat → Addr) : DS := (sSet 1 (dMake (cv 3) (FzPanes___init__ cv) dNil))
noncomputable def Pzlaw_p2 (cv : Nat → Addr) : DS := (sSet 2 (dMake (cv 3) (FzPanes___init__ cv) dNil))
noncomputable def Pzlaw_p3 : DS := (sSet 3 (dDisp [((dC (.str "rows")), (dF (dLst dNil))), ((dC (.str "at")), (dC (.int 0))), ((dC (.str "here")), dNewK)]))
noncomputable def Pzlaw_p5 : DS := (sSet 5 (dBin addD (dC (.int 20)) (dBin mul2D (dC (.int 12)) (dVar 4))))
noncomputable def Pzlaw_p6 : DS := (sSet 6 (dBin ixD (dF (dLst (dCons (dC (.int 0)) (dCons (dC (.int 0)) (dCons (dC (.int 1)) (dCons (dC (.int 1)) (dCons (dC (.int 1)) (dCons (dC (.int 1)) (dCons (dC (.int 2)) (dCons (dC (.int 2)) (dCons (dC (.int 3)) (dCons (dC (.int 4)) (dCons (dC (.int 5)) dNil))))))))))))) (dCall Fz_law_drawn (dCons (dVar 0) (dCons (dVar 5) (dCons (dC (.int 11)) dNil))))))
noncomputable def Pzlaw_p7 : DS := (sSet 7 (dBin ixD (dC (.str "pqrs")) (dCall Fz_law_drawn (dCons (dVar 0) (dCons (dBin addD (dVar 5) (dC (.int 1))) (dCons (dC (.int 4)) dNil))))))
noncomputable def Pzlaw_p8 : DS := (sSet 8 (dCall Fz_law_place (dCons (dVar 0) (dCons (dBin addD (dVar 5) (dC (.int 2))) dNil))))
noncomputable def Pzlaw_p9 (cv : Nat → Addr) : DS := (sIf (dB (dBin neD (dCall (Fz_law_told cv) (dCons (dVar 1) (dCons (dVar 6) (dCons (dVar 7) (dCons (dVar 8) dNil))))) (dCall Fz_law_done (dCons (dVar 3) (dCons (dVar 6) (dCons (dVar 7) (dCons (dVar 8) dNil))))))) (sRet (dC (.bl false))) sNext)
noncomputable def Pzlaw_p10 (cv : Nat → Addr) : DS := (sIf (dOr (dB (dBin neD (dMeth (cv 3) "names" (FzPanes_names cv) (dVar 1) dNil) (dF (dCall sortDF (dCons (getDd (dVar 3) (dC (.str "here"))) dNil))))) (dOr (dB (dBin neD (dMeth (cv 3) "steps" (FzPanes_steps cv) (dVar 1) dNil) (getDd (dVar 3) (dC (.str "rows"))))) (dB (dBin neD (dMeth (cv 3) "done" (FzPanes_done cv) (dVar 1) dNil) (getDd (dVar 3) (dC (.str "at"))))))) (sRet (dC (.bl false))) sNext)
noncomputable def Ezlaw_1 : DE := (dVar 0)
noncomputable def Czlaw_1 : DT := (dB (dBin eqD (dBin ixD (dVar 0) (dC (.int 0))) (dVar 1)))
noncomputable def Pzlaw_p12 : DS := (sSet 10 (dF (dComp [9] 1 (dSeq (getDd (dVar 3) (dC (.str "rows")))) (tgName 0) Czlaw_1 Ezlaw_1)))
noncomputable def Ezlaw_2 : DE := (dBin ixD (dVar 0) (dC (.int 1)))
noncomputable def Ezlaw_3 : DE := (dBin ixD (dVar 0) (dC (.int 2)))
noncomputable def Pzlaw_p13 : DS := (sSet 11 (dF (dBinF catL (dF (dComp [] 1 (dSeq (dF (dSl cutF (dVar 10) dNoPart (dPart (dC (.int 1)))))) (tgName 0) dTrue Ezlaw_2)) (dF (dComp [] 1 (dSeq (dVar 10)) (tgName 0) dTrue Ezlaw_3)))))
noncomputable def Pzlaw_p14 (cv : Nat → Addr) : DS := (sIf (dOr (dB (dBin neD (dMeth (cv 3) "place" (FzPanes_place cv) (dVar 1) (dCons (dVar 9) dNil)) (getDd (getDd (dVar 3) (dC (.str "here"))) (dVar 9)))) (dB (dBin neD (dMeth (cv 3) "seen" (FzPanes_seen cv) (dVar 1) (dCons (dVar 9) dNil)) (dIf (dB (dBin neD (dVar 10) (dF (dLst dNil)))) (dVar 11) (dF (dLst (dCons (getDd (getDd (dVar 3) (dC (.str "here"))) (dVar 9)) dNil))))))) (sRet (dC (.bl false))) sNext)
noncomputable def Bzlaw_1 (cv : Nat → Addr) : DS := (sSeq Pzlaw_p12 (sSeq Pzlaw_p13 (Pzlaw_p14 cv)))
noncomputable def Pzlaw_p11 (cv : Nat → Addr) : DS := (sFor (dSeq (dF (dCall sortDF (dCons (getDd (dVar 3) (dC (.str "here"))) dNil)))) (tgName 9) (Bzlaw_1 cv))
noncomputable def Bzlaw_2 (cv : Nat → Addr) : DS := (sSeq Pzlaw_p5 (sSeq Pzlaw_p6 (sSeq Pzlaw_p7 (sSeq Pzlaw_p8 (sSeq (Pzlaw_p9 cv) (sSeq (Pzlaw_p10 cv) (Pzlaw_p11 cv)))))))
noncomputable def Pzlaw_p4 (cv : Nat → Addr) : DS := (sFor (dRng1 (dCons (dCall max2D (dCons (dC (.int 1)) (dCons (dCall min2D (dCons (dC (.int 12)) (dCons (dCall lenD (dCons (dVar 0) dNil)) dNil))) dNil))) dNil)) (tgName 4) (Bzlaw_2 cv))
noncomputable def Pzlaw_p15 (cv : Nat → Addr) : DS := (sExpr (dAppend (dMeth (cv 3) "steps" (FzPanes_steps cv) (dVar 1) dNil) (dC .non)))
noncomputable def Pzlaw_p16 (cv : Nat → Addr) : DS := (sRet (dAndV (dBin eqD (dMeth (cv 3) "steps" (FzPanes_steps cv) (dVar 1) dNil) (getDd (dVar 3) (dC (.str "rows")))) (dAndV (dBin eqD (dMeth (cv 3) "names" (FzPanes_names cv) (dVar 2) dNil) (dF (dLst dNil))) (dBin eqD (dMeth (cv 3) "steps" (FzPanes_steps cv) (dVar 2) dNil) (dF (dLst dNil))))))
noncomputable def gzlaw (cv : Nat → Addr) : DS := (sSeq (Pzlaw_p1 cv) (sSeq (Pzlaw_p2 cv) (sSeq Pzlaw_p3 (sSeq (Pzlaw_p4 cv) (sSeq (Pzlaw_p15 cv) (Pzlaw_p16 cv))))))
noncomputable def Fzlaw (cv : Nat → Addr) : FD := runF 12 1 (gzlaw cv)
section
variable {P : Program} {w : World} {K : PySem.W.Frag} {mg : Str → Option Value} {base : Heap} {cv : Nat → Addr}
set_option maxHeartbeats 4000000 in
theorem okzPanes___init__ {f : Addr} {fd : FuncData} (F : Fun K "__init__" "Panes.__init__" szPanes___init__ f fd) (hm : Mk K (cv 3) f) (hb : Binds K fd ["self"] []) (hx : mg "Panes" = some (.ref (cv 3)))   (cl_Panes : Cls K (cv 3)) (na_Panes_made : NoAttr K (cv 3) "made") (na_Panes_row : NoAttr K (cv 3) "row") (na_Panes_shown : NoAttr K (cv 3) "shown")  : MkAt P w K mg base "Panes" (cv 3) 1 (FzPanes___init__ cv) :=
  mkAt (k := 0) F sczPanes___init__ hm hb hx fun cdv A outer s H E hr => (pds_cons (pd_fldS (pd_var 0) pd_dnewK cl_Panes na_Panes_shown) (pds_cons (pd_fldF (pd_var 0) (pdf_lst pda_nil) cl_Panes na_Panes_row) (pds_one (pd_fldS (pd_var 0) pd_int cl_Panes na_Panes_made))))
set_option maxHeartbeats 4000000 in
theorem okz_law_cell {f : Addr} {fd : FuncData} (F : Fun K "_law_cell" "_law_cell" sz_law_cell f fd) (hm : mg "_law_cell" = some (.ref f)) (hb : Binds K fd ["_law_script", "_law_k"] []) (b_len : mg "len" = none)    : FnAt P w K mg base "_law_cell" 1 Fz_law_cell :=
  fnAt (k := 0) F scz_law_cell hm hb fun cdv A outer s H E hr => (pds_cons (pd_if (pdt_cmp (op_eqD hr.units) (pd_var 0) (pd_F (pdf_lst pda_nil))) (pds_one (pd_ret (pd_op op_mul2D pd_int (pd_var 1)))) pds_nil) (pds_one (pd_ret (pd_op op_addD (pd_ix (pd_var 0) (pd_op op_modD (pd_var 1) (pd_callB call_lenD rfl b_len PySem.boot_len (pda_cons (pd_var 0) pda_nil)))) (pd_op op_mul2D pd_int (pd_op op_fdivD (pd_var 1) (pd_callB call_lenD rfl b_len PySem.boot_len (pda_cons (pd_var 0) pda_nil))))))))
set_option maxHeartbeats 4000000 in
theorem okz_law_drawn {f : Addr} {fd : FuncData} (F : Fun K "_law_drawn" "_law_drawn" sz_law_drawn f fd) (hm : mg "_law_drawn" = some (.ref f)) (hb : Binds K fd ["_law_script", "_law_k", "_law_many"] [])    (hz_law_cell : FnAt P w K mg base "_law_cell" 1 Fz_law_cell) : FnAt P w K mg base "_law_drawn" 2 Fz_law_drawn :=
  fnAt (k := 1) F scz_law_drawn hm hb fun cdv A outer s H E hr => (pds_cons (pd_set 3 scz_law_drawn.nd rfl (by first | exact Or.inl rfl | exact Or.inr rfl) (pd_op op_modD (pd_op op_addD (pd_op op_mul2D (pd_op op_modD (pd_fn hz_law_cell hr (by decide) rfl (pda_cons (pd_var 0) (pda_cons (pd_var 1) pda_nil))) pd_int) pd_int) (pd_op op_mul2D pd_int (pd_op op_addD (pd_var 1) pd_int))) pd_int)) (pds_cons (pd_set 3 scz_law_drawn.nd rfl (by first | exact Or.inl rfl | exact Or.inr rfl) (pd_op op_modD (pd_op op_addD (pd_op op_mul2D (pd_var 3) (pd_var 3)) (pd_op op_fdivD (pd_var 3) pd_int)) pd_int)) (pds_one (pd_ret (pd_op op_modD (pd_op op_fdivD (pd_op op_modD (pd_op op_addD (pd_op op_mul2D (pd_var 3) (pd_var 3)) (pd_op op_fdivD (pd_var 3) pd_int)) pd_int) pd_int) (pd_var 2))))))
set_option maxHeartbeats 4000000 in
theorem okz_law_place {f : Addr} {fd : FuncData} (F : Fun K "_law_place" "_law_place" sz_law_place f fd) (hm : mg "_law_place" = some (.ref f)) (hb : Binds K fd ["_law_script", "_law_at"] []) (b_range : mg "range" = none) (b_tuple : mg "tuple" = none)   (hz_law_drawn : FnAt P w K mg base "_law_drawn" 2 Fz_law_drawn) : FnAt P w K mg base "_law_place" 3 Fz_law_place :=
  fnAt (k := 2) F scz_law_place hm hb fun cdv A outer s H E hr => (pds_one (pd_ret (pd_callTy call_tupleD rfl b_tuple PyProof.Rows.boot_tuple (pda_cons (pd_F (pdf_lc rfl ⟨Blk.of (N := ["_law_k", "_law_script", "_law_at"]) (caps := [0, 1]) (nT := 1) (by show blkB (defScope sz_law_place) _ ["_law_script", "_law_at"] _ _ _ = true; decide +kernel), fun _ _ _ _ => (pgd_name 0 (by show (["_law_k", "_law_script", "_law_at"] : List Str).Nodup; decide +kernel) rfl (by first | exact Or.inl rfl | exact Or.inr rfl)), fun _ _ _ _ => pts_nil, fun _ _ _ _ => (pd_ix pd_str (pd_fn hz_law_drawn hr (by decide) rfl (pda_cons (pd_var 1) (pda_cons (pd_op op_addD (pd_op op_addD (pd_var 2) pd_int) (pd_var 0)) (pda_cons pd_int pda_nil)))))⟩ (pid_range1 rfl b_range (pda_cons (pd_fn hz_law_drawn hr (by decide) rfl (pda_cons (pd_var 0) (pda_cons (pd_var 1) (pda_cons pd_int pda_nil)))) pda_nil)))) pda_nil))))
set_option maxHeartbeats 4000000 in
theorem okzPanes_add {f : Addr} {fd : FuncData} (F : Fun K "add" "Panes.add" szPanes_add f fd) (hm : Meth K (cv 3) "add" f) (hb : Binds K fd ["self", "name", "place"] [])   (cl_Panes : Cls K (cv 3)) (mg_Taken : mg "Taken" = some (.ref (cv 13))) (na_Panes_shown : NoAttr K (cv 3) "shown") (xc_Taken : PySem.W.excIn K (cv 13) [.type "ValueError", .type "Exception", .type "BaseException", .type "object"] "ValueError.__new__" = true)  : MtX P w K mg base (cv 3) "add" 1 (FzPanes_add cv) :=
  mtXAt (k := 0) F sczPanes_add hm hb fun cdv A outer s H E hr hx hxr => (pds_cons (pd_if (pdt_cmp (op_inDd hr.units) (pd_var 1) (pd_fld (pd_var 0) cl_Panes na_Panes_shown)) (pds_one (pd_raise hxr rfl rfl mg_Taken xc_Taken PySem.F.excBase_ValueError (pda_cons pd_str pda_nil))) pds_nil) (pds_one (pd_dput hr.units (pd_fld (pd_var 0) cl_Panes na_Panes_shown) (pd_var 1) (pd_var 2))))
set_option maxHeartbeats 4000000 in
theorem okzPanes_check_name {f : Addr} {fd : FuncData} (F : Fun K "check_name" "Panes.check_name" szPanes_check_name f fd) (hm : Meth K (cv 3) "check_name" f) (hb : Binds K fd ["self", "name"] [])   (cl_Panes : Cls K (cv 3)) (mg_NoPane : mg "NoPane" = some (.ref (cv 12))) (na_Panes_shown : NoAttr K (cv 3) "shown") (xc_NoPane : PySem.W.excIn K (cv 12) [.type "ValueError", .type "Exception", .type "BaseException", .type "object"] "ValueError.__new__" = true)  : MtX P w K mg base (cv 3) "check_name" 1 (FzPanes_check_name cv) :=
  mtXAt (k := 0) F sczPanes_check_name hm hb fun cdv A outer s H E hr hx hxr => (pds_one (pd_if (pdt_cmp (op_notInDd hr.units) (pd_var 1) (pd_fld (pd_var 0) cl_Panes na_Panes_shown)) (pds_one (pd_raise hxr rfl rfl mg_NoPane xc_NoPane PySem.F.excBase_ValueError (pda_cons pd_str pda_nil))) pds_nil))
set_option maxHeartbeats 4000000 in
theorem okzPanes_place {f : Addr} {fd : FuncData} (F : Fun K "place" "Panes.place" szPanes_place f fd) (hm : Meth K (cv 3) "place" f) (hb : Binds K fd ["self", "name"] [])   (cl_Panes : Cls K (cv 3)) (na_Panes_shown : NoAttr K (cv 3) "shown") (hzPanes_check_name : MtX P w K mg base (cv 3) "check_name" 1 (FzPanes_check_name cv)) : MtX P w K mg base (cv 3) "place" 2 (FzPanes_place cv) :=
  mtXAt (k := 1) F sczPanes_place hm hb fun cdv A outer s H E hr hx hxr => (pds_cons (pd_expr (pd_mtX hzPanes_check_name hx cl_Panes hr (by decide) (pd_var 0) (pda_cons (pd_var 1) pda_nil))) (pds_one (pd_ret (pd_dget hr.units (pd_fld (pd_var 0) cl_Panes na_Panes_shown) (pd_var 1)))))
set_option maxHeartbeats 4000000 in
theorem okzPanes_visit {f : Addr} {fd : FuncData} (F : Fun K "visit" "Panes.visit" szPanes_visit f fd) (hm : Meth K (cv 3) "visit" f) (hb : Binds K fd ["self", "name", "place"] [])   (cl_Panes : Cls K (cv 3)) (na_Panes_made : NoAttr K (cv 3) "made") (na_Panes_row : NoAttr K (cv 3) "row") (na_Panes_shown : NoAttr K (cv 3) "shown") (hzPanes_place : MtX P w K mg base (cv 3) "place" 2 (FzPanes_place cv)) : MtX P w K mg base (cv 3) "visit" 3 (FzPanes_visit cv) :=
  mtXAt (k := 2) F sczPanes_visit hm hb fun cdv A outer s H E hr hx hxr => (pds_cons (pd_set 3 sczPanes_visit.nd rfl (by first | exact Or.inl rfl | exact Or.inr rfl) (pd_tup (pda_cons (pd_var 1) (pda_cons (pd_mtX hzPanes_place hx cl_Panes hr (by decide) (pd_var 0) (pda_cons (pd_var 1) pda_nil)) (pda_cons (pd_var 2) pda_nil))))) (pds_cons (pd_fldF (pd_var 0) (pdf_op op_catL (pd_F (pdf_slice sl_F (pd_fld (pd_var 0) cl_Panes na_Panes_row) pdo_none (pdo_some (pd_fld (pd_var 0) cl_Panes na_Panes_made)))) (pd_F (pdf_lst (pda_cons (pd_var 3) pda_nil)))) cl_Panes na_Panes_row) (pds_cons (pd_fldAdd (pd_var 0) pd_int cl_Panes na_Panes_made) (pds_one (pd_dput hr.units (pd_fld (pd_var 0) cl_Panes na_Panes_shown) (pd_var 1) (pd_var 2))))))
set_option maxHeartbeats 4000000 in
theorem okzPanes_back {f : Addr} {fd : FuncData} (F : Fun K "back" "Panes.back" szPanes_back f fd) (hm : Meth K (cv 3) "back" f) (hb : Binds K fd ["self"] [])   (cl_Panes : Cls K (cv 3)) (mg_NoPlace : mg "NoPlace" = some (.ref (cv 11))) (na_Panes_made : NoAttr K (cv 3) "made") (na_Panes_row : NoAttr K (cv 3) "row") (na_Panes_shown : NoAttr K (cv 3) "shown") (xc_NoPlace : PySem.W.excIn K (cv 11) [.type "ValueError", .type "Exception", .type "BaseException", .type "object"] "ValueError.__new__" = true)  : MtX P w K mg base (cv 3) "back" 1 (FzPanes_back cv) :=
  mtXAt (k := 0) F sczPanes_back hm hb fun cdv A outer s H E hr hx hxr => (pds_cons (pd_if (pdt_cmp (op_eqD hr.units) (pd_fld (pd_var 0) cl_Panes na_Panes_made) pd_int) (pds_one (pd_raise hxr rfl rfl mg_NoPlace xc_NoPlace PySem.F.excBase_ValueError (pda_cons pd_str pda_nil))) pds_nil) (pds_cons (pd_fldSub (pd_var 0) pd_int cl_Panes na_Panes_made) (pds_cons (pd_set 1 sczPanes_back.nd rfl (by first | exact Or.inl rfl | exact Or.inr rfl) (pd_ix (pd_fld (pd_var 0) cl_Panes na_Panes_row) (pd_fld (pd_var 0) cl_Panes na_Panes_made))) (pds_cons (pd_dput hr.units (pd_fld (pd_var 0) cl_Panes na_Panes_shown) (pd_ix (pd_var 1) pd_int) (pd_ix (pd_var 1) pd_int)) (pds_one (pd_ret (pd_ix (pd_var 1) pd_int)))))))
set_option maxHeartbeats 4000000 in
theorem okzPanes_forth {f : Addr} {fd : FuncData} (F : Fun K "forth" "Panes.forth" szPanes_forth f fd) (hm : Meth K (cv 3) "forth" f) (hb : Binds K fd ["self"] []) (b_len : mg "len" = none)  (cl_Panes : Cls K (cv 3)) (mg_NoPlace : mg "NoPlace" = some (.ref (cv 11))) (na_Panes_made : NoAttr K (cv 3) "made") (na_Panes_row : NoAttr K (cv 3) "row") (na_Panes_shown : NoAttr K (cv 3) "shown") (xc_NoPlace : PySem.W.excIn K (cv 11) [.type "ValueError", .type "Exception", .type "BaseException", .type "object"] "ValueError.__new__" = true)  : MtX P w K mg base (cv 3) "forth" 1 (FzPanes_forth cv) :=
  mtXAt (k := 0) F sczPanes_forth hm hb fun cdv A outer s H E hr hx hxr => (pds_cons (pd_if (pdt_cmp (op_eqD hr.units) (pd_fld (pd_var 0) cl_Panes na_Panes_made) (pd_callB call_lenD rfl b_len PySem.boot_len (pda_cons (pd_fld (pd_var 0) cl_Panes na_Panes_row) pda_nil))) (pds_one (pd_raise hxr rfl rfl mg_NoPlace xc_NoPlace PySem.F.excBase_ValueError (pda_cons pd_str pda_nil))) pds_nil) (pds_cons (pd_set 1 sczPanes_forth.nd rfl (by first | exact Or.inl rfl | exact Or.inr rfl) (pd_ix (pd_fld (pd_var 0) cl_Panes na_Panes_row) (pd_fld (pd_var 0) cl_Panes na_Panes_made))) (pds_cons (pd_fldAdd (pd_var 0) pd_int cl_Panes na_Panes_made) (pds_cons (pd_dput hr.units (pd_fld (pd_var 0) cl_Panes na_Panes_shown) (pd_ix (pd_var 1) pd_int) (pd_ix (pd_var 1) pd_int)) (pds_one (pd_ret (pd_ix (pd_var 1) pd_int)))))))
set_option maxHeartbeats 4000000 in
theorem okzPanes_back_in {f : Addr} {fd : FuncData} (F : Fun K "back_in" "Panes.back_in" szPanes_back_in f fd) (hm : Meth K (cv 3) "back_in" f) (hb : Binds K fd ["self", "name"] [])   (cl_Panes : Cls K (cv 3)) (mg_NoPlace : mg "NoPlace" = some (.ref (cv 11))) (na_Panes_made : NoAttr K (cv 3) "made") (na_Panes_row : NoAttr K (cv 3) "row") (xc_NoPlace : PySem.W.excIn K (cv 11) [.type "ValueError", .type "Exception", .type "BaseException", .type "object"] "ValueError.__new__" = true) (hzPanes_back : MtX P w K mg base (cv 3) "back" 1 (FzPanes_back cv)) (hzPanes_check_name : MtX P w K mg base (cv 3) "check_name" 1 (FzPanes_check_name cv)) : MtX P w K mg base (cv 3) "back_in" 2 (FzPanes_back_in cv) :=
  mtXAt (k := 1) F sczPanes_back_in hm hb fun cdv A outer s H E hr hx hxr => (pds_cons (pd_expr (pd_mtX hzPanes_check_name hx cl_Panes hr (by decide) (pd_var 0) (pda_cons (pd_var 1) pda_nil))) (pds_cons (pd_if (pdt_cmp (op_notInD hr.units) (pd_var 1) (pd_F (pdf_lc rfl ⟨Blk.of (N := ["step"]) (caps := []) (nT := 1) (by show blkB (defScope szPanes_back_in) _ ["self", "name", "many"] _ _ _ = true; decide +kernel), fun _ _ _ _ => (pgd_name 0 (by show (["step"] : List Str).Nodup; decide +kernel) rfl (by first | exact Or.inl rfl | exact Or.inr rfl)), fun _ _ _ _ => pts_nil, fun _ _ _ _ => (pd_ix (pd_var 0) pd_int)⟩ (pid_seq (pd_F (pdf_slice sl_F (pd_fld (pd_var 0) cl_Panes na_Panes_row) pdo_none (pdo_some (pd_fld (pd_var 0) cl_Panes na_Panes_made)))))))) (pds_one (pd_raise hxr rfl rfl mg_NoPlace xc_NoPlace PySem.F.excBase_ValueError (pda_cons pd_str pda_nil))) pds_nil) (pds_cons (pd_set 2 sczPanes_back_in.nd rfl (by first | exact Or.inl rfl | exact Or.inr rfl) pd_int) (pds_cons (pd_while 100 hx.own (pdt_cmp (op_neD hr.units) (pd_mtX0 hzPanes_back hx cl_Panes hr (by decide) (pd_var 0)) (pd_var 1)) (pds_one (pd_add 2 sczPanes_back_in.nd rfl (by first | exact Or.inl rfl | exact Or.inr rfl) pd_int))) (pds_one (pd_ret (pd_var 2)))))))
set_option maxHeartbeats 4000000 in
theorem okzsteps_of_others {f : Addr} {fd : FuncData} (F : Fun K "steps_of_others" "steps_of_others" szsteps_of_others f fd) (hm : mg "steps_of_others" = some (.ref f)) (hb : Binds K fd ["steps", "name"] [])     : FnAt P w K mg base "steps_of_others" 1 Fzsteps_of_others :=
  fnAt (k := 0) F sczsteps_of_others hm hb fun cdv A outer s H E hr => (pds_one (pd_retF (pdf_lc rfl ⟨Blk.of (N := ["step", "name"]) (caps := [1]) (nT := 1) (by show blkB (defScope szsteps_of_others) _ ["steps", "name"] _ _ _ = true; decide +kernel), fun _ _ _ _ => (pgd_name 0 (by show (["step", "name"] : List Str).Nodup; decide +kernel) rfl (by first | exact Or.inl rfl | exact Or.inr rfl)), fun _ _ _ _ => pts_one (pdt_cmp (op_neD hr.units) (pd_ix (pd_var 0) pd_int) (pd_var 1)), fun _ _ _ _ => (pd_var 0)⟩ (pid_seq (pd_var 0)))))
set_option maxHeartbeats 4000000 in
theorem okzPanes_close {f : Addr} {fd : FuncData} (F : Fun K "close" "Panes.close" szPanes_close f fd) (hm : Meth K (cv 3) "close" f) (hb : Binds K fd ["self", "name"] []) (b_len : mg "len" = none)  (cl_Panes : Cls K (cv 3)) (na_Panes_made : NoAttr K (cv 3) "made") (na_Panes_row : NoAttr K (cv 3) "row") (na_Panes_shown : NoAttr K (cv 3) "shown") (hzPanes_check_name : MtX P w K mg base (cv 3) "check_name" 1 (FzPanes_check_name cv)) (hzsteps_of_others : FnAt P w K mg base "steps_of_others" 1 Fzsteps_of_others) : MtX P w K mg base (cv 3) "close" 2 (FzPanes_close cv) :=
  mtXAt (k := 1) F sczPanes_close hm hb fun cdv A outer s H E hr hx hxr => (pds_cons (pd_expr (pd_mtX hzPanes_check_name hx cl_Panes hr (by decide) (pd_var 0) (pda_cons (pd_var 1) pda_nil))) (pds_cons (pd_set 2 sczPanes_close.nd rfl (by first | exact Or.inl rfl | exact Or.inr rfl) (pd_callB call_lenD rfl b_len PySem.boot_len (pda_cons (pd_fld (pd_var 0) cl_Panes na_Panes_row) pda_nil))) (pds_cons (pd_fldS (pd_var 0) (pd_callB call_lenD rfl b_len PySem.boot_len (pda_cons (pd_fn hzsteps_of_others hr (by decide) rfl (pda_cons (pd_F (pdf_slice sl_F (pd_fld (pd_var 0) cl_Panes na_Panes_row) pdo_none (pdo_some (pd_fld (pd_var 0) cl_Panes na_Panes_made)))) (pda_cons (pd_var 1) pda_nil))) pda_nil)) cl_Panes na_Panes_made) (pds_cons (pd_fldS (pd_var 0) (pd_fn hzsteps_of_others hr (by decide) rfl (pda_cons (pd_fld (pd_var 0) cl_Panes na_Panes_row) (pda_cons (pd_var 1) pda_nil))) cl_Panes na_Panes_row) (pds_cons (pd_expr (pd_dpop (pd_fld (pd_var 0) cl_Panes na_Panes_shown) (pd_var 1))) (pds_one (pd_ret (pd_op op_subD (pd_var 2) (pd_callB call_lenD rfl b_len PySem.boot_len (pda_cons (pd_fld (pd_var 0) cl_Panes na_Panes_row) pda_nil))))))))))
set_option maxHeartbeats 4000000 in
theorem okz_law_refused {f : Addr} {fd : FuncData} (F : Fun K "_law_refused" "_law_refused" sz_law_refused f fd) (hm : mg "_law_refused" = some (.ref f)) (hb : Binds K fd ["_law_e"] []) (b_ValueError : mg "ValueError" = none) (b_isinstance : mg "isinstance" = none)  (ec_NoPane : ExcC K (cv 12)) (ec_NoPlace : ExcC K (cv 11)) (ec_Taken : ExcC K (cv 13)) (ki_NoPane_NoPane_true : PySem.W.kitOne K (.ref (cv 12)) (.ref (cv 12)) = some true) (ki_NoPane_NoPlace_false : PySem.W.kitOne K (.ref (cv 12)) (.ref (cv 11)) = some false) (ki_NoPane_Round_false : PySem.W.kitOne K (.ref (cv 12)) (.ref (cv 14)) = some false) (ki_NoPane_Taken_false : PySem.W.kitOne K (.ref (cv 12)) (.ref (cv 13)) = some false) (ki_NoPlace_NoPane_false : PySem.W.kitOne K (.ref (cv 11)) (.ref (cv 12)) = some false) (ki_NoPlace_NoPlace_true : PySem.W.kitOne K (.ref (cv 11)) (.ref (cv 11)) = some true) (ki_NoPlace_Round_false : PySem.W.kitOne K (.ref (cv 11)) (.ref (cv 14)) = some false) (ki_NoPlace_Taken_false : PySem.W.kitOne K (.ref (cv 11)) (.ref (cv 13)) = some false) (ki_Taken_NoPane_false : PySem.W.kitOne K (.ref (cv 13)) (.ref (cv 12)) = some false) (ki_Taken_NoPlace_false : PySem.W.kitOne K (.ref (cv 13)) (.ref (cv 11)) = some false) (ki_Taken_Round_false : PySem.W.kitOne K (.ref (cv 13)) (.ref (cv 14)) = some false) (ki_Taken_Taken_true : PySem.W.kitOne K (.ref (cv 13)) (.ref (cv 13)) = some true) (kt_NoPane_ValueError_true : PySem.W.kitOne K (.ref (cv 12)) (.type "ValueError") = some true) (kt_NoPlace_ValueError_true : PySem.W.kitOne K (.ref (cv 11)) (.type "ValueError") = some true) (kt_Taken_ValueError_true : PySem.W.kitOne K (.ref (cv 13)) (.type "ValueError") = some true) (mg_NoPane : mg "NoPane" = some (.ref (cv 12))) (mg_NoPlace : mg "NoPlace" = some (.ref (cv 11))) (mg_Round : mg "Round" = some (.ref (cv 14))) (mg_Taken : mg "Taken" = some (.ref (cv 13)))  : FnHAt P w K mg base "_law_refused" 1 (Fz_law_refused cv) :=
  fnHAt (k := 0) F scz_law_refused hm hb fun cdv A outer s H hr => (pds_cons (pd_set 1 scz_law_refused.nd rfl (by first | exact Or.inl rfl | exact Or.inr rfl) (pd_F (pdf_lst (pda_cons (pd_instX (v := .ref (cv 11)) (fun _ h => h) (pd_var 0) (pe_glob rfl mg_NoPlace rfl) (tab_cons ec_NoPane ki_NoPane_NoPlace_false (tab_cons ec_NoPlace ki_NoPlace_NoPlace_true (tab_cons ec_Taken ki_Taken_NoPlace_false tab_nil))) rfl b_isinstance) (pda_cons (pd_instX (v := .ref (cv 12)) (fun _ h => h) (pd_var 0) (pe_glob rfl mg_NoPane rfl) (tab_cons ec_NoPane ki_NoPane_NoPane_true (tab_cons ec_NoPlace ki_NoPlace_NoPane_false (tab_cons ec_Taken ki_Taken_NoPane_false tab_nil))) rfl b_isinstance) (pda_cons (pd_instX (v := .ref (cv 13)) (fun _ h => h) (pd_var 0) (pe_glob rfl mg_Taken rfl) (tab_cons ec_NoPane ki_NoPane_Taken_false (tab_cons ec_NoPlace ki_NoPlace_Taken_false (tab_cons ec_Taken ki_Taken_Taken_true tab_nil))) rfl b_isinstance) pda_nil)))))) (pds_cons (pd_set 1 scz_law_refused.nd rfl (by first | exact Or.inl rfl | exact Or.inr rfl) (pd_F (pdf_op op_catL (pd_var 1) (pd_F (pdf_lst (pda_cons (pd_instX (v := .ref (cv 14)) (fun _ h => h) (pd_var 0) (pe_glob rfl mg_Round rfl) (tab_cons ec_NoPane ki_NoPane_Round_false (tab_cons ec_NoPlace ki_NoPlace_Round_false (tab_cons ec_Taken ki_Taken_Round_false tab_nil))) rfl b_isinstance) pda_nil)))))) (pds_cons (pd_if (PDW.pt (pdw_or (pdt_cmp (op_neD hr.units) (pd_lm PySem.F.slot_list_count PySem.F.type_list_count (mt_countD hr.units) (pd_var 1) (pda_cons pd_bl pda_nil)) pd_int) (pdw_or1 (pdt_not (pdt_val (pd_instX (v := .ty "ValueError") (fun _ h => h) (pd_var 0) (pe_bltn rfl b_ValueError PyProof.Rows.Boot.«ValueError» rfl) (tab_cons ec_NoPane kt_NoPane_ValueError_true (tab_cons ec_NoPlace kt_NoPlace_ValueError_true (tab_cons ec_Taken kt_Taken_ValueError_true tab_nil))) rfl b_isinstance)))))) (pds_one (pd_ret (pd_tup (pda_cons pd_str (pda_cons (pd_neg pd_int) pda_nil))))) pds_nil) (pds_one (pd_ret (pd_tup (pda_cons pd_str (pda_cons (pd_lm PySem.F.slot_list_index PySem.F.type_list_index (mt_indexD hr.units) (pd_var 1) (pda_cons pd_bl pda_nil)) pda_nil))))))))
set_option maxHeartbeats 4000000 in
theorem okz_law_told {f : Addr} {fd : FuncData} (F : Fun K "_law_told" "_law_told" sz_law_told f fd) (hm : mg "_law_told" = some (.ref f)) (hb : Binds K fd ["_law_panes", "_law_way", "_law_name", "_law_place_here"] [])   (cl_Panes : Cls K (cv 3)) (ek_BookError : ExcK K (cv 10)) (mg_BookError : mg "BookError" = some (.ref (cv 10))) (sb_NoPane_BookError : PySem.W.subIn K (.ref (cv 12)) (.ref (cv 10)) = some true) (sb_NoPlace_BookError : PySem.W.subIn K (.ref (cv 11)) (.ref (cv 10)) = some true) (sb_Taken_BookError : PySem.W.subIn K (.ref (cv 13)) (.ref (cv 10)) = some true) (hzPanes_add : MtX P w K mg base (cv 3) "add" 1 (FzPanes_add cv)) (hzPanes_back : MtX P w K mg base (cv 3) "back" 1 (FzPanes_back cv)) (hzPanes_back_in : MtX P w K mg base (cv 3) "back_in" 2 (FzPanes_back_in cv)) (hzPanes_close : MtX P w K mg base (cv 3) "close" 2 (FzPanes_close cv)) (hzPanes_forth : MtX P w K mg base (cv 3) "forth" 1 (FzPanes_forth cv)) (hzPanes_visit : MtX P w K mg base (cv 3) "visit" 3 (FzPanes_visit cv)) (hz_law_refused : FnHAt P w K mg base "_law_refused" 1 (Fz_law_refused cv)) : FnAt P w K mg base "_law_told" 4 (Fz_law_told cv) :=
  fnAt (k := 3) F scz_law_told hm hb fun cdv A outer s H E hr => (pds_one (pd_tryAs 4 rfl rfl scz_law_told.nd rfl rfl rfl mg_BookError ek_BookError (List.forall_mem_cons.mpr ⟨sb_NoPane_BookError, (List.forall_mem_cons.mpr ⟨sb_NoPlace_BookError, (List.forall_mem_cons.mpr ⟨sb_Taken_BookError, (fun _ h => absurd h List.not_mem_nil)⟩)⟩)⟩) (fun pn E' EX' hx => (pds_cons (pd_if (pdt_cmp (op_eqD hr.units) (pd_var 1) pd_int) (pds_one (pd_ret (pd_mtX hzPanes_add hx cl_Panes hr (by decide) (pd_var 0) (pda_cons (pd_var 2) (pda_cons (pd_var 3) pda_nil))))) pds_nil) (pds_cons (pd_if (pdt_cmp (op_eqD hr.units) (pd_var 1) pd_int) (pds_one (pd_ret (pd_mtX hzPanes_visit hx cl_Panes hr (by decide) (pd_var 0) (pda_cons (pd_var 2) (pda_cons (pd_var 3) pda_nil))))) pds_nil) (pds_cons (pd_if (pdt_cmp (op_eqD hr.units) (pd_var 1) pd_int) (pds_one (pd_ret (pd_mtX0 hzPanes_back hx cl_Panes hr (by decide) (pd_var 0)))) pds_nil) (pds_cons (pd_if (pdt_cmp (op_eqD hr.units) (pd_var 1) pd_int) (pds_one (pd_ret (pd_mtX0 hzPanes_forth hx cl_Panes hr (by decide) (pd_var 0)))) pds_nil) (pds_one (pd_ret (pd_ifExp (pdt_cmp (op_eqD hr.units) (pd_var 1) pd_int) (pd_mtX hzPanes_back_in hx cl_Panes hr (by decide) (pd_var 0) (pda_cons (pd_var 2) pda_nil)) (pd_mtX hzPanes_close hx cl_Panes hr (by decide) (pd_var 0) (pda_cons (pd_var 2) pda_nil)))))))))) (fun pn ea => (pds_one (pd_ret (pd_fnH hz_law_refused (RoomH.of hr _) (by decide) rfl (pda_cons (pd_var 4) pda_nil)))))))
set_option maxHeartbeats 4000000 in
theorem okz_law_back {f : Addr} {fd : FuncData} (F : Fun K "_law_back" "_law_back" sz_law_back f fd) (hm : mg "_law_back" = some (.ref f)) (hb : Binds K fd ["_law_mine"] [])     : FnAt P w K mg base "_law_back" 1 Fz_law_back :=
  fnAt (k := 0) F scz_law_back hm hb fun cdv A outer s H E hr => (pds_cons (pd_dput hr.units (pd_var 0) pd_str (pd_op op_subD (pd_dget hr.units (pd_var 0) pd_str) pd_int)) (pds_cons (pd_set 1 scz_law_back.nd rfl (by first | exact Or.inl rfl | exact Or.inr rfl) (pd_ix (pd_dget hr.units (pd_var 0) pd_str) (pd_dget hr.units (pd_var 0) pd_str))) (pds_cons (pd_dput hr.units (pd_dget hr.units (pd_var 0) pd_str) (pd_ix (pd_var 1) pd_int) (pd_ix (pd_var 1) pd_int)) (pds_one (pd_ret (pd_ix (pd_var 1) pd_int))))))
set_option maxHeartbeats 4000000 in
theorem okz_law_done_p1 (b_len : mg "len" = none) (b_range : mg "range" = none)   (hz_law_back : FnAt P w K mg base "_law_back" 1 Fz_law_back) (fA : Addr) (cdv : Value) (A : Around) (outer : List Env) (s : Shared) (H : Hp) (E : XK) (hr : Room 1 (A.deeper (PyProof.Rows.envOfC "_law_done" (defScope sz_law_done) s.heap.objs.size fA cdv))) : PDs (cxOf CX0 P w K mg base ["_law_mine", "_law_way", "_law_name", "_law_place_here", "_law_rows", "_law_some"] "_law_done" (defScope sz_law_done) fA cdv A outer s H E).nox EX0 stz_law_done_p1 Pz_law_done_p1 := (pd_set 4 scz_law_done.nd rfl (by first | exact Or.inl rfl | exact Or.inr rfl) (pd_dget hr.units (pd_var 0) pd_str))
set_option maxHeartbeats 4000000 in
theorem okz_law_done_p2 (b_len : mg "len" = none) (b_range : mg "range" = none)   (hz_law_back : FnAt P w K mg base "_law_back" 1 Fz_law_back) (fA : Addr) (cdv : Value) (A : Around) (outer : List Env) (s : Shared) (H : Hp) (E : XK) (hr : Room 1 (A.deeper (PyProof.Rows.envOfC "_law_done" (defScope sz_law_done) s.heap.objs.size fA cdv))) : PDs (cxOf CX0 P w K mg base ["_law_mine", "_law_way", "_law_name", "_law_place_here", "_law_rows", "_law_some"] "_law_done" (defScope sz_law_done) fA cdv A outer s H E).nox EX0 stz_law_done_p2 Pz_law_done_p2 := (pd_if (PDW.pt (pdw_and (pdt_cmp (op_inD hr.units) (pd_var 1) (pd_tup (pda_cons pd_int (pda_cons pd_int (pda_cons pd_int pda_nil))))) (pdw_and1 (pdt_cmp (op_notInDd hr.units) (pd_var 2) (pd_dget hr.units (pd_var 0) pd_str))))) (pds_one (pd_ret (pd_tup (pda_cons pd_str (pda_cons pd_int pda_nil))))) pds_nil)
set_option maxHeartbeats 4000000 in
theorem okz_law_done_p7 (b_len : mg "len" = none) (b_range : mg "range" = none)   (hz_law_back : FnAt P w K mg base "_law_back" 1 Fz_law_back) (fA : Addr) (cdv : Value) (A : Around) (outer : List Env) (s : Shared) (H : Hp) (E : XK) (hr : Room 1 (A.deeper (PyProof.Rows.envOfC "_law_done" (defScope sz_law_done) s.heap.objs.size fA cdv))) : PDs (cxOf CX0 P w K mg base ["_law_mine", "_law_way", "_law_name", "_law_place_here", "_law_rows", "_law_some"] "_law_done" (defScope sz_law_done) fA cdv A outer s H E).nox EX0 stz_law_done_p7 Pz_law_done_p7 := (pd_if (pdt_cmp (op_eqD hr.units) (pd_dget hr.units (pd_var 0) pd_str) (pd_callB call_lenD rfl b_len PySem.boot_len (pda_cons (pd_var 4) pda_nil))) (pds_one (pd_ret (pd_tup (pda_cons pd_str (pda_cons pd_int pda_nil))))) pds_nil)
set_option maxHeartbeats 4000000 in
theorem okz_law_done_p8 (b_len : mg "len" = none) (b_range : mg "range" = none)   (hz_law_back : FnAt P w K mg base "_law_back" 1 Fz_law_back) (fA : Addr) (cdv : Value) (A : Around) (outer : List Env) (s : Shared) (H : Hp) (E : XK) (hr : Room 1 (A.deeper (PyProof.Rows.envOfC "_law_done" (defScope sz_law_done) s.heap.objs.size fA cdv))) : PDs (cxOf CX0 P w K mg base ["_law_mine", "_law_way", "_law_name", "_law_place_here", "_law_rows", "_law_some"] "_law_done" (defScope sz_law_done) fA cdv A outer s H E).nox EX0 stz_law_done_p8 Pz_law_done_p8 := (pd_dput hr.units (pd_var 0) pd_str (pd_op op_addD (pd_dget hr.units (pd_var 0) pd_str) pd_int))
set_option maxHeartbeats 4000000 in
theorem okz_law_done_p9 (b_len : mg "len" = none) (b_range : mg "range" = none)   (hz_law_back : FnAt P w K mg base "_law_back" 1 Fz_law_back) (fA : Addr) (cdv : Value) (A : Around) (outer : List Env) (s : Shared) (H : Hp) (E : XK) (hr : Room 1 (A.deeper (PyProof.Rows.envOfC "_law_done" (defScope sz_law_done) s.heap.objs.size fA cdv))) : PDs (cxOf CX0 P w K mg base ["_law_mine", "_law_way", "_law_name", "_law_place_here", "_law_rows", "_law_some"] "_law_done" (defScope sz_law_done) fA cdv A outer s H E).nox EX0 stz_law_done_p9 Pz_law_done_p9 := (pd_dput hr.units (pd_dget hr.units (pd_var 0) pd_str) (pd_ix (pd_ix (pd_var 4) (pd_op op_subD (pd_dget hr.units (pd_var 0) pd_str) pd_int)) pd_int) (pd_ix (pd_ix (pd_var 4) (pd_op op_subD (pd_dget hr.units (pd_var 0) pd_str) pd_int)) pd_int))
set_option maxHeartbeats 4000000 in
theorem okz_law_done_p10 (b_len : mg "len" = none) (b_range : mg "range" = none)   (hz_law_back : FnAt P w K mg base "_law_back" 1 Fz_law_back) (fA : Addr) (cdv : Value) (A : Around) (outer : List Env) (s : Shared) (H : Hp) (E : XK) (hr : Room 1 (A.deeper (PyProof.Rows.envOfC "_law_done" (defScope sz_law_done) s.heap.objs.size fA cdv))) : PDs (cxOf CX0 P w K mg base ["_law_mine", "_law_way", "_law_name", "_law_place_here", "_law_rows", "_law_some"] "_law_done" (defScope sz_law_done) fA cdv A outer s H E).nox EX0 stz_law_done_p10 Pz_law_done_p10 := (pd_ret (pd_ix (pd_ix (pd_var 4) (pd_op op_subD (pd_dget hr.units (pd_var 0) pd_str) pd_int)) pd_int))
set_option maxHeartbeats 4000000 in
theorem okz_law_done_p12 (b_len : mg "len" = none) (b_range : mg "range" = none)   (hz_law_back : FnAt P w K mg base "_law_back" 1 Fz_law_back) (fA : Addr) (cdv : Value) (A : Around) (outer : List Env) (s : Shared) (H : Hp) (E : XK) (hr : Room 1 (A.deeper (PyProof.Rows.envOfC "_law_done" (defScope sz_law_done) s.heap.objs.size fA cdv))) : PDs (cxOf CX0 P w K mg base ["_law_mine", "_law_way", "_law_name", "_law_place_here", "_law_rows", "_law_some"] "_law_done" (defScope sz_law_done) fA cdv A outer s H E).nox EX0 stz_law_done_p12 Pz_law_done_p12 := (pd_dput hr.units (pd_var 0) pd_str (pd_callB call_lenD rfl b_len PySem.boot_len (pda_cons (pd_F (pdf_lc rfl ⟨Blk.of (N := ["_law_row", "_law_name"]) (caps := [2]) (nT := 1) (by show blkB (defScope sz_law_done) _ ["_law_mine", "_law_way", "_law_name", "_law_place_here", "_law_rows", "_law_some"] _ _ _ = true; decide +kernel), fun _ _ _ _ => (pgd_name 0 (by show (["_law_row", "_law_name"] : List Str).Nodup; decide +kernel) rfl (by first | exact Or.inl rfl | exact Or.inr rfl)), fun _ _ _ _ => pts_one (pdt_cmp (op_neD hr.units) (pd_ix (pd_var 0) pd_int) (pd_var 1)), fun _ _ _ _ => (pd_var 0)⟩ (pid_seq (pd_F (pdf_slice sl_F (pd_var 4) pdo_none (pdo_some (pd_dget hr.units (pd_var 0) pd_str))))))) pda_nil)))
set_option maxHeartbeats 4000000 in
theorem okz_law_done_p13 (b_len : mg "len" = none) (b_range : mg "range" = none)   (hz_law_back : FnAt P w K mg base "_law_back" 1 Fz_law_back) (fA : Addr) (cdv : Value) (A : Around) (outer : List Env) (s : Shared) (H : Hp) (E : XK) (hr : Room 1 (A.deeper (PyProof.Rows.envOfC "_law_done" (defScope sz_law_done) s.heap.objs.size fA cdv))) : PDs (cxOf CX0 P w K mg base ["_law_mine", "_law_way", "_law_name", "_law_place_here", "_law_rows", "_law_some"] "_law_done" (defScope sz_law_done) fA cdv A outer s H E).nox EX0 stz_law_done_p13 Pz_law_done_p13 := (pd_dput hr.units (pd_var 0) pd_str (pd_F (pdf_lc rfl ⟨Blk.of (N := ["_law_row", "_law_name"]) (caps := [2]) (nT := 1) (by show blkB (defScope sz_law_done) _ ["_law_mine", "_law_way", "_law_name", "_law_place_here", "_law_rows", "_law_some"] _ _ _ = true; decide +kernel), fun _ _ _ _ => (pgd_name 0 (by show (["_law_row", "_law_name"] : List Str).Nodup; decide +kernel) rfl (by first | exact Or.inl rfl | exact Or.inr rfl)), fun _ _ _ _ => pts_one (pdt_cmp (op_neD hr.units) (pd_ix (pd_var 0) pd_int) (pd_var 1)), fun _ _ _ _ => (pd_var 0)⟩ (pid_seq (pd_var 4)))))
set_option maxHeartbeats 4000000 in
theorem okz_law_done_p14 (b_len : mg "len" = none) (b_range : mg "range" = none)   (hz_law_back : FnAt P w K mg base "_law_back" 1 Fz_law_back) (fA : Addr) (cdv : Value) (A : Around) (outer : List Env) (s : Shared) (H : Hp) (E : XK) (hr : Room 1 (A.deeper (PyProof.Rows.envOfC "_law_done" (defScope sz_law_done) s.heap.objs.size fA cdv))) : PDs (cxOf CX0 P w K mg base ["_law_mine", "_law_way", "_law_name", "_law_place_here", "_law_rows", "_law_some"] "_law_done" (defScope sz_law_done) fA cdv A outer s H E).nox EX0 stz_law_done_p14 Pz_law_done_p14 := (pd_expr (pd_dpop (pd_dget hr.units (pd_var 0) pd_str) (pd_var 2)))
set_option maxHeartbeats 4000000 in
theorem okz_law_done_p15 (b_len : mg "len" = none) (b_range : mg "range" = none)   (hz_law_back : FnAt P w K mg base "_law_back" 1 Fz_law_back) (fA : Addr) (cdv : Value) (A : Around) (outer : List Env) (s : Shared) (H : Hp) (E : XK) (hr : Room 1 (A.deeper (PyProof.Rows.envOfC "_law_done" (defScope sz_law_done) s.heap.objs.size fA cdv))) : PDs (cxOf CX0 P w K mg base ["_law_mine", "_law_way", "_law_name", "_law_place_here", "_law_rows", "_law_some"] "_law_done" (defScope sz_law_done) fA cdv A outer s H E).nox EX0 stz_law_done_p15 Pz_law_done_p15 := (pd_ret (pd_op op_subD (pd_callB call_lenD rfl b_len PySem.boot_len (pda_cons (pd_var 4) pda_nil)) (pd_callB call_lenD rfl b_len PySem.boot_len (pda_cons (pd_dget hr.units (pd_var 0) pd_str) pda_nil))))
set_option maxHeartbeats 4000000 in
theorem okz_law_done_p11 (b_len : mg "len" = none) (b_range : mg "range" = none)   (hz_law_back : FnAt P w K mg base "_law_back" 1 Fz_law_back) (fA : Addr) (cdv : Value) (A : Around) (outer : List Env) (s : Shared) (H : Hp) (E : XK) (hr : Room 1 (A.deeper (PyProof.Rows.envOfC "_law_done" (defScope sz_law_done) s.heap.objs.size fA cdv))) : PDs (cxOf CX0 P w K mg base ["_law_mine", "_law_way", "_law_name", "_law_place_here", "_law_rows", "_law_some"] "_law_done" (defScope sz_law_done) fA cdv A outer s H E).nox EX0 stz_law_done_p11 Pz_law_done_p11 := (pd_if (pdt_cmp (op_eqD hr.units) (pd_var 1) pd_int) (pds_cons (pd_setLC 5 rfl ⟨Blk.of (N := ["_law_k", "_law_name", "_law_rows"]) (caps := [2, 4]) (nT := 1) (by show blkB (defScope sz_law_done) _ ["_law_mine", "_law_way", "_law_name", "_law_place_here", "_law_rows", "_law_some"] _ _ _ = true; decide +kernel), fun _ _ _ _ => (pgd_name 0 (by show (["_law_k", "_law_name", "_law_rows"] : List Str).Nodup; decide +kernel) rfl (by first | exact Or.inl rfl | exact Or.inr rfl)), fun _ _ _ _ => pts_one (pdt_cmp (op_eqD hr.units) (pd_ix (pd_ix (pd_var 2) (pd_var 0)) pd_int) (pd_var 1)), fun _ _ _ _ => (pd_var 0)⟩ (pid_range1 rfl b_range (pda_cons (pd_dget hr.units (pd_var 0) pd_str) pda_nil)) scz_law_done.nd rfl (by first | exact Or.inl rfl | exact Or.inr rfl)) (pds_cons (pd_if (pdt_cmp (op_eqD hr.units) (pd_var 5) (pd_F (pdf_lst pda_nil))) (pds_one (pd_ret (pd_tup (pda_cons pd_str (pda_cons pd_int pda_nil))))) pds_nil) (pds_one (pd_ret (pd_callB call_lenD rfl b_len PySem.boot_len (pda_cons (pd_F (pdf_lc rfl ⟨Blk.of (N := ["_law_k", "_law_mine"]) (caps := [0]) (nT := 1) (by show blkB (defScope sz_law_done) _ ["_law_mine", "_law_way", "_law_name", "_law_place_here", "_law_rows", "_law_some"] _ _ _ = true; decide +kernel), fun _ _ _ _ => (pgd_name 0 (by show (["_law_k", "_law_mine"] : List Str).Nodup; decide +kernel) rfl (by first | exact Or.inl rfl | exact Or.inr rfl)), fun _ _ _ _ => pts_nil, fun _ _ _ _ => (pd_fn hz_law_back hr (by decide) rfl (pda_cons (pd_var 1) pda_nil))⟩ (pid_range1 rfl b_range (pda_cons (pd_op op_subD (pd_dget hr.units (pd_var 0) pd_str) (pd_ix (pd_var 5) (pd_neg pd_int))) pda_nil)))) pda_nil)))))) (show PDS _ _ [stz_law_done_p12, stz_law_done_p13, stz_law_done_p14, stz_law_done_p15] _ from (pds_cons (okz_law_done_p12 b_len b_range hz_law_back fA cdv A outer s H E hr) (pds_cons (okz_law_done_p13 b_len b_range hz_law_back fA cdv A outer s H E hr) (pds_cons (okz_law_done_p14 b_len b_range hz_law_back fA cdv A outer s H E hr) (pds_one (okz_law_done_p15 b_len b_range hz_law_back fA cdv A outer s H E hr)))))))
set_option maxHeartbeats 4000000 in
theorem okz_law_done_p6 (b_len : mg "len" = none) (b_range : mg "range" = none)   (hz_law_back : FnAt P w K mg base "_law_back" 1 Fz_law_back) (fA : Addr) (cdv : Value) (A : Around) (outer : List Env) (s : Shared) (H : Hp) (E : XK) (hr : Room 1 (A.deeper (PyProof.Rows.envOfC "_law_done" (defScope sz_law_done) s.heap.objs.size fA cdv))) : PDs (cxOf CX0 P w K mg base ["_law_mine", "_law_way", "_law_name", "_law_place_here", "_law_rows", "_law_some"] "_law_done" (defScope sz_law_done) fA cdv A outer s H E).nox EX0 stz_law_done_p6 Pz_law_done_p6 := (pd_if (pdt_cmp (op_eqD hr.units) (pd_var 1) pd_int) (show PDS _ _ [stz_law_done_p7, stz_law_done_p8, stz_law_done_p9, stz_law_done_p10] _ from (pds_cons (okz_law_done_p7 b_len b_range hz_law_back fA cdv A outer s H E hr) (pds_cons (okz_law_done_p8 b_len b_range hz_law_back fA cdv A outer s H E hr) (pds_cons (okz_law_done_p9 b_len b_range hz_law_back fA cdv A outer s H E hr) (pds_one (okz_law_done_p10 b_len b_range hz_law_back fA cdv A outer s H E hr)))))) (show PDS _ _ [stz_law_done_p11] _ from (pds_one (okz_law_done_p11 b_len b_range hz_law_back fA cdv A outer s H E hr))))
set_option maxHeartbeats 4000000 in
theorem okz_law_done_p5 (b_len : mg "len" = none) (b_range : mg "range" = none)   (hz_law_back : FnAt P w K mg base "_law_back" 1 Fz_law_back) (fA : Addr) (cdv : Value) (A : Around) (outer : List Env) (s : Shared) (H : Hp) (E : XK) (hr : Room 1 (A.deeper (PyProof.Rows.envOfC "_law_done" (defScope sz_law_done) s.heap.objs.size fA cdv))) : PDs (cxOf CX0 P w K mg base ["_law_mine", "_law_way", "_law_name", "_law_place_here", "_law_rows", "_law_some"] "_law_done" (defScope sz_law_done) fA cdv A outer s H E).nox EX0 stz_law_done_p5 Pz_law_done_p5 := (pd_if (pdt_cmp (op_eqD hr.units) (pd_var 1) pd_int) (pds_one (pd_ret (pd_ifExp (pdt_cmp op_gtD (pd_dget hr.units (pd_var 0) pd_str) pd_int) (pd_fn hz_law_back hr (by decide) rfl (pda_cons (pd_var 0) pda_nil)) (pd_tup (pda_cons pd_str (pda_cons pd_int pda_nil)))))) (show PDS _ _ [stz_law_done_p6] _ from (pds_one (okz_law_done_p6 b_len b_range hz_law_back fA cdv A outer s H E hr))))
set_option maxHeartbeats 4000000 in
theorem okz_law_done_p4 (b_len : mg "len" = none) (b_range : mg "range" = none)   (hz_law_back : FnAt P w K mg base "_law_back" 1 Fz_law_back) (fA : Addr) (cdv : Value) (A : Around) (outer : List Env) (s : Shared) (H : Hp) (E : XK) (hr : Room 1 (A.deeper (PyProof.Rows.envOfC "_law_done" (defScope sz_law_done) s.heap.objs.size fA cdv))) : PDs (cxOf CX0 P w K mg base ["_law_mine", "_law_way", "_law_name", "_law_place_here", "_law_rows", "_law_some"] "_law_done" (defScope sz_law_done) fA cdv A outer s H E).nox EX0 stz_law_done_p4 Pz_law_done_p4 := (pd_if (pdt_cmp (op_eqD hr.units) (pd_var 1) pd_int) (pds_cons (pd_dput hr.units (pd_var 0) pd_str (pd_F (pdf_op op_catL (pd_F (pdf_slice sl_F (pd_var 4) pdo_none (pdo_some (pd_dget hr.units (pd_var 0) pd_str)))) (pd_F (pdf_lst (pda_cons (pd_tup (pda_cons (pd_var 2) (pda_cons (pd_dget hr.units (pd_dget hr.units (pd_var 0) pd_str) (pd_var 2)) (pda_cons (pd_var 3) pda_nil)))) pda_nil)))))) (pds_cons (pd_dput hr.units (pd_var 0) pd_str (pd_op op_addD (pd_dget hr.units (pd_var 0) pd_str) pd_int)) (pds_one (pd_dput hr.units (pd_dget hr.units (pd_var 0) pd_str) (pd_var 2) (pd_var 3))))) (show PDS _ _ [stz_law_done_p5] _ from (pds_one (okz_law_done_p5 b_len b_range hz_law_back fA cdv A outer s H E hr))))
set_option maxHeartbeats 4000000 in
theorem okz_law_done_p3 (b_len : mg "len" = none) (b_range : mg "range" = none)   (hz_law_back : FnAt P w K mg base "_law_back" 1 Fz_law_back) (fA : Addr) (cdv : Value) (A : Around) (outer : List Env) (s : Shared) (H : Hp) (E : XK) (hr : Room 1 (A.deeper (PyProof.Rows.envOfC "_law_done" (defScope sz_law_done) s.heap.objs.size fA cdv))) : PDs (cxOf CX0 P w K mg base ["_law_mine", "_law_way", "_law_name", "_law_place_here", "_law_rows", "_law_some"] "_law_done" (defScope sz_law_done) fA cdv A outer s H E).nox EX0 stz_law_done_p3 Pz_law_done_p3 := (pd_if (pdt_cmp (op_eqD hr.units) (pd_var 1) pd_int) (pds_cons (pd_if (pdt_cmp (op_inDd hr.units) (pd_var 2) (pd_dget hr.units (pd_var 0) pd_str)) (pds_one (pd_ret (pd_tup (pda_cons pd_str (pda_cons pd_int pda_nil))))) pds_nil) (pds_one (pd_dput hr.units (pd_dget hr.units (pd_var 0) pd_str) (pd_var 2) (pd_var 3)))) (show PDS _ _ [stz_law_done_p4] _ from (pds_one (okz_law_done_p4 b_len b_range hz_law_back fA cdv A outer s H E hr))))
set_option maxHeartbeats 4000000 in
theorem okz_law_done_p16 (b_len : mg "len" = none) (b_range : mg "range" = none)   (hz_law_back : FnAt P w K mg base "_law_back" 1 Fz_law_back) (fA : Addr) (cdv : Value) (A : Around) (outer : List Env) (s : Shared) (H : Hp) (E : XK) (hr : Room 1 (A.deeper (PyProof.Rows.envOfC "_law_done" (defScope sz_law_done) s.heap.objs.size fA cdv))) : PDs (cxOf CX0 P w K mg base ["_law_mine", "_law_way", "_law_name", "_law_place_here", "_law_rows", "_law_some"] "_law_done" (defScope sz_law_done) fA cdv A outer s H E).nox EX0 stz_law_done_p16 Pz_law_done_p16 := (pd_ret pd_non)
set_option maxHeartbeats 4000000 in
theorem okz_law_done {f : Addr} {fd : FuncData} (F : Fun K "_law_done" "_law_done" sz_law_done f fd) (hm : mg "_law_done" = some (.ref f)) (hb : Binds K fd ["_law_mine", "_law_way", "_law_name", "_law_place_here"] []) (b_len : mg "len" = none) (b_range : mg "range" = none)   (hz_law_back : FnAt P w K mg base "_law_back" 1 Fz_law_back) : FnAt P w K mg base "_law_done" 2 Fz_law_done :=
  fnAt (k := 1) F scz_law_done hm hb fun cdv A outer s H E hr => (show PDS _ _ [stz_law_done_p1, stz_law_done_p2, stz_law_done_p3, stz_law_done_p16] _ from (pds_cons (okz_law_done_p1 b_len b_range hz_law_back f cdv A outer s H E hr) (pds_cons (okz_law_done_p2 b_len b_range hz_law_back f cdv A outer s H E hr) (pds_cons (okz_law_done_p3 b_len b_range hz_law_back f cdv A outer s H E hr) (pds_one (okz_law_done_p16 b_len b_range hz_law_back f cdv A outer s H E hr))))))
set_option maxHeartbeats 4000000 in
theorem okzPanes_names {f : Addr} {fd : FuncData} (F : Fun K "names" "Panes.names" szPanes_names f fd) (hm : Meth K (cv 3) "names" f) (hb : Binds K fd ["self"] []) (b_sorted : mg "sorted" = none)  (cl_Panes : Cls K (cv 3)) (na_Panes_shown : NoAttr K (cv 3) "shown")  : MtAt P w K mg base (cv 3) "names" 1 (FzPanes_names cv) :=
  mtAt (k := 0) F sczPanes_names hm hb fun cdv A outer s H E hr => (pds_one (pd_ret (pd_F (pdf_callB (call_sortDF rfl) rfl b_sorted PyProof.Rows.boot_sorted (pda_cons (pd_fld (pd_var 0) cl_Panes na_Panes_shown) pda_nil)))))
set_option maxHeartbeats 4000000 in
theorem okzPanes_steps {f : Addr} {fd : FuncData} (F : Fun K "steps" "Panes.steps" szPanes_steps f fd) (hm : Meth K (cv 3) "steps" f) (hb : Binds K fd ["self"] []) (b_list : mg "list" = none)  (cl_Panes : Cls K (cv 3)) (na_Panes_row : NoAttr K (cv 3) "row")  : MtAt P w K mg base (cv 3) "steps" 1 (FzPanes_steps cv) :=
  mtAt (k := 0) F sczPanes_steps hm hb fun cdv A outer s H E hr => (pds_one (pd_retF (pdf_callTy call_listF rfl b_list PyProof.Rows.boot_list (pda_cons (pd_fld (pd_var 0) cl_Panes na_Panes_row) pda_nil))))
set_option maxHeartbeats 4000000 in
theorem okzPanes_done {f : Addr} {fd : FuncData} (F : Fun K "done" "Panes.done" szPanes_done f fd) (hm : Meth K (cv 3) "done" f) (hb : Binds K fd ["self"] [])   (cl_Panes : Cls K (cv 3)) (na_Panes_made : NoAttr K (cv 3) "made")  : MtAt P w K mg base (cv 3) "done" 1 (FzPanes_done cv) :=
  mtAt (k := 0) F sczPanes_done hm hb fun cdv A outer s H E hr => (pds_one (pd_ret (pd_fld (pd_var 0) cl_Panes na_Panes_made)))
set_option maxHeartbeats 4000000 in
theorem okzPanes_seen {f : Addr} {fd : FuncData} (F : Fun K "seen" "Panes.seen" szPanes_seen f fd) (hm : Meth K (cv 3) "seen" f) (hb : Binds K fd ["self", "name"] []) (b_len : mg "len" = none)  (cl_Panes : Cls K (cv 3)) (na_Panes_row : NoAttr K (cv 3) "row") (hzPanes_place : MtX P w K mg base (cv 3) "place" 2 (FzPanes_place cv)) : MtX P w K mg base (cv 3) "seen" 3 (FzPanes_seen cv) :=
  mtXAt (k := 2) F sczPanes_seen hm hb fun cdv A outer s H E hr hx hxr => (pds_cons (pd_set 2 sczPanes_seen.nd rfl (by first | exact Or.inl rfl | exact Or.inr rfl) (pd_mtX hzPanes_place hx cl_Panes hr (by decide) (pd_var 0) (pda_cons (pd_var 1) pda_nil))) (pds_cons (pd_setLC 3 rfl ⟨Blk.of (N := ["step", "name"]) (caps := [1]) (nT := 1) (by show blkB (defScope szPanes_seen) _ ["self", "name", "shown", "steps"] _ _ _ = true; decide +kernel), fun _ _ _ _ => (pgd_name 0 (by show (["step", "name"] : List Str).Nodup; decide +kernel) rfl (by first | exact Or.inl rfl | exact Or.inr rfl)), fun _ _ _ _ => pts_one (pdt_cmp (op_eqD hr.units) (pd_ix (pd_var 0) pd_int) (pd_var 1)), fun _ _ _ _ => (pd_var 0)⟩ (pid_seq (pd_fld (pd_var 0) cl_Panes na_Panes_row)) sczPanes_seen.nd rfl (by first | exact Or.inl rfl | exact Or.inr rfl)) (pds_cons (pd_if (pdt_cmp (op_eqD hr.units) (pd_callB call_lenD rfl b_len PySem.boot_len (pda_cons (pd_var 3) pda_nil)) pd_int) (pds_one (pd_ret (pd_F (pdf_lst (pda_cons (pd_var 2) pda_nil))))) pds_nil) (pds_one (pd_ret (pd_F (pdf_op op_catL (pd_F (pdf_lst (pda_cons (pd_ix (pd_ix (pd_var 3) pd_int) pd_int) pda_nil))) (pd_F (pdf_lc rfl ⟨Blk.of (N := ["step"]) (caps := []) (nT := 1) (by show blkB (defScope szPanes_seen) _ ["self", "name", "shown", "steps"] _ _ _ = true; decide +kernel), fun _ _ _ _ => (pgd_name 0 (by show (["step"] : List Str).Nodup; decide +kernel) rfl (by first | exact Or.inl rfl | exact Or.inr rfl)), fun _ _ _ _ => pts_nil, fun _ _ _ _ => (pd_ix (pd_var 0) pd_int)⟩ (pid_seq (pd_var 3)))))))))))
set_option maxHeartbeats 4000000 in
theorem okzlaw_p1 (b_len : mg "len" = none) (b_max : mg "max" = none) (b_min : mg "min" = none) (b_range : mg "range" = none) (b_sorted : mg "sorted" = none)  (cl_Panes : Cls K (cv 3)) (hzPanes___init__ : MkAt P w K mg base "Panes" (cv 3) 1 (FzPanes___init__ cv)) (hzPanes_done : MtAt P w K mg base (cv 3) "done" 1 (FzPanes_done cv)) (hzPanes_names : MtAt P w K mg base (cv 3) "names" 1 (FzPanes_names cv)) (hzPanes_place : MtX P w K mg base (cv 3) "place" 2 (FzPanes_place cv)) (hzPanes_seen : MtX P w K mg base (cv 3) "seen" 3 (FzPanes_seen cv)) (hzPanes_steps : MtAt P w K mg base (cv 3) "steps" 1 (FzPanes_steps cv)) (hz_law_done : FnAt P w K mg base "_law_done" 2 Fz_law_done) (hz_law_drawn : FnAt P w K mg base "_law_drawn" 2 Fz_law_drawn) (hz_law_place : FnAt P w K mg base "_law_place" 3 Fz_law_place) (hz_law_told : FnAt P w K mg base "_law_told" 4 (Fz_law_told cv)) (fA : Addr) (cdv : Value) (A : Around) (outer : List Env) (s : Shared) (H : Hp) (E : XK) (hr : Room 4 (A.deeper (PyProof.Rows.envOfC "law" (defScope szlaw) s.heap.objs.size fA cdv))) : PDs (cxOf CX0 P w K mg base ["_law_script", "_law_panes", "_law_other", "_law_mine", "_law_k", "_law_here", "_law_way", "_law_name", "_law_place_here", "_law_one", "_law_own", "_law_seen"] "law" (defScope szlaw) fA cdv A outer s H E).nox EX0 stzlaw_p1 (Pzlaw_p1 cv) := (pd_set 1 sczlaw.nd rfl (by first | exact Or.inl rfl | exact Or.inr rfl) (pd_mk0 hzPanes___init__ hr (by decide) rfl))
set_option maxHeartbeats 4000000 in
theorem okzlaw_p2 (b_len : mg "len" = none) (b_max : mg "max" = none) (b_min : mg "min" = none) (b_range : mg "range" = none) (b_sorted : mg "sorted" = none)  (cl_Panes : Cls K (cv 3)) (hzPanes___init__ : MkAt P w K mg base "Panes" (cv 3) 1 (FzPanes___init__ cv)) (hzPanes_done : MtAt P w K mg base (cv 3) "done" 1 (FzPanes_done cv)) (hzPanes_names : MtAt P w K mg base (cv 3) "names" 1 (FzPanes_names cv)) (hzPanes_place : MtX P w K mg base (cv 3) "place" 2 (FzPanes_place cv)) (hzPanes_seen : MtX P w K mg base (cv 3) "seen" 3 (FzPanes_seen cv)) (hzPanes_steps : MtAt P w K mg base (cv 3) "steps" 1 (FzPanes_steps cv)) (hz_law_done : FnAt P w K mg base "_law_done" 2 Fz_law_done) (hz_law_drawn : FnAt P w K mg base "_law_drawn" 2 Fz_law_drawn) (hz_law_place : FnAt P w K mg base "_law_place" 3 Fz_law_place) (hz_law_told : FnAt P w K mg base "_law_told" 4 (Fz_law_told cv)) (fA : Addr) (cdv : Value) (A : Around) (outer : List Env) (s : Shared) (H : Hp) (E : XK) (hr : Room 4 (A.deeper (PyProof.Rows.envOfC "law" (defScope szlaw) s.heap.objs.size fA cdv))) : PDs (cxOf CX0 P w K mg base ["_law_script", "_law_panes", "_law_other", "_law_mine", "_law_k", "_law_here", "_law_way", "_law_name", "_law_place_here", "_law_one", "_law_own", "_law_seen"] "law" (defScope szlaw) fA cdv A outer s H E).nox EX0 stzlaw_p2 (Pzlaw_p2 cv) := (pd_set 2 sczlaw.nd rfl (by first | exact Or.inl rfl | exact Or.inr rfl) (pd_mk0 hzPanes___init__ hr (by decide) rfl))
set_option maxHeartbeats 4000000 in
theorem okzlaw_p3 (b_len : mg "len" = none) (b_max : mg "max" = none) (b_min : mg "min" = none) (b_range : mg "range" = none) (b_sorted : mg "sorted" = none)  (cl_Panes : Cls K (cv 3)) (hzPanes___init__ : MkAt P w K mg base "Panes" (cv 3) 1 (FzPanes___init__ cv)) (hzPanes_done : MtAt P w K mg base (cv 3) "done" 1 (FzPanes_done cv)) (hzPanes_names : MtAt P w K mg base (cv 3) "names" 1 (FzPanes_names cv)) (hzPanes_place : MtX P w K mg base (cv 3) "place" 2 (FzPanes_place cv)) (hzPanes_seen : MtX P w K mg base (cv 3) "seen" 3 (FzPanes_seen cv)) (hzPanes_steps : MtAt P w K mg base (cv 3) "steps" 1 (FzPanes_steps cv)) (hz_law_done : FnAt P w K mg base "_law_done" 2 Fz_law_done) (hz_law_drawn : FnAt P w K mg base "_law_drawn" 2 Fz_law_drawn) (hz_law_place : FnAt P w K mg base "_law_place" 3 Fz_law_place) (hz_law_told : FnAt P w K mg base "_law_told" 4 (Fz_law_told cv)) (fA : Addr) (cdv : Value) (A : Around) (outer : List Env) (s : Shared) (H : Hp) (E : XK) (hr : Room 4 (A.deeper (PyProof.Rows.envOfC "law" (defScope szlaw) s.heap.objs.size fA cdv))) : PDs (cxOf CX0 P w K mg base ["_law_script", "_law_panes", "_law_other", "_law_mine", "_law_k", "_law_here", "_law_way", "_law_name", "_law_place_here", "_law_one", "_law_own", "_law_seen"] "law" (defScope szlaw) fA cdv A outer s H E).nox EX0 stzlaw_p3 Pzlaw_p3 := (@pd_set _ _ _ _ _ _ 3 _ sczlaw.nd rfl (by first | exact Or.inl rfl | exact Or.inr rfl) (@pd_disp _ _ _ _ _ _ (@pdp_cons _ _ _ _ _ _ _ _ _ _ pd_str (@pd_F _ _ _ _ (@pdf_lst _ _ _ _ _ pda_nil)) (@pdp_cons _ _ _ _ _ _ _ _ _ _ pd_str pd_int (@pdp_cons _ _ _ _ _ _ _ _ _ _ pd_str pd_dnewK pdp_nil))) rfl rfl (List.cons_ne_nil _ _) (by decide)) rfl (by first | exact Or.inl rfl | exact Or.inr rfl))
set_option maxHeartbeats 4000000 in
theorem okzlaw_p5 (b_len : mg "len" = none) (b_max : mg "max" = none) (b_min : mg "min" = none) (b_range : mg "range" = none) (b_sorted : mg "sorted" = none)  (cl_Panes : Cls K (cv 3)) (hzPanes___init__ : MkAt P w K mg base "Panes" (cv 3) 1 (FzPanes___init__ cv)) (hzPanes_done : MtAt P w K mg base (cv 3) "done" 1 (FzPanes_done cv)) (hzPanes_names : MtAt P w K mg base (cv 3) "names" 1 (FzPanes_names cv)) (hzPanes_place : MtX P w K mg base (cv 3) "place" 2 (FzPanes_place cv)) (hzPanes_seen : MtX P w K mg base (cv 3) "seen" 3 (FzPanes_seen cv)) (hzPanes_steps : MtAt P w K mg base (cv 3) "steps" 1 (FzPanes_steps cv)) (hz_law_done : FnAt P w K mg base "_law_done" 2 Fz_law_done) (hz_law_drawn : FnAt P w K mg base "_law_drawn" 2 Fz_law_drawn) (hz_law_place : FnAt P w K mg base "_law_place" 3 Fz_law_place) (hz_law_told : FnAt P w K mg base "_law_told" 4 (Fz_law_told cv)) (fA : Addr) (cdv : Value) (A : Around) (outer : List Env) (s : Shared) (H : Hp) (E : XK) (hr : Room 4 (A.deeper (PyProof.Rows.envOfC "law" (defScope szlaw) s.heap.objs.size fA cdv))) : PDs (cxOf CX0 P w K mg base ["_law_script", "_law_panes", "_law_other", "_law_mine", "_law_k", "_law_here", "_law_way", "_law_name", "_law_place_here", "_law_one", "_law_own", "_law_seen"] "law" (defScope szlaw) fA cdv A outer s H E).nox EX0 stzlaw_p5 Pzlaw_p5 := (pd_set 5 sczlaw.nd rfl (by first | exact Or.inl rfl | exact Or.inr rfl) (pd_op op_addD pd_int (pd_op op_mul2D pd_int (pd_var 4))))
set_option maxHeartbeats 4000000 in
theorem okzlaw_p6 (b_len : mg "len" = none) (b_max : mg "max" = none) (b_min : mg "min" = none) (b_range : mg "range" = none) (b_sorted : mg "sorted" = none)  (cl_Panes : Cls K (cv 3)) (hzPanes___init__ : MkAt P w K mg base "Panes" (cv 3) 1 (FzPanes___init__ cv)) (hzPanes_done : MtAt P w K mg base (cv 3) "done" 1 (FzPanes_done cv)) (hzPanes_names : MtAt P w K mg base (cv 3) "names" 1 (FzPanes_names cv)) (hzPanes_place : MtX P w K mg base (cv 3) "place" 2 (FzPanes_place cv)) (hzPanes_seen : MtX P w K mg base (cv 3) "seen" 3 (FzPanes_seen cv)) (hzPanes_steps : MtAt P w K mg base (cv 3) "steps" 1 (FzPanes_steps cv)) (hz_law_done : FnAt P w K mg base "_law_done" 2 Fz_law_done) (hz_law_drawn : FnAt P w K mg base "_law_drawn" 2 Fz_law_drawn) (hz_law_place : FnAt P w K mg base "_law_place" 3 Fz_law_place) (hz_law_told : FnAt P w K mg base "_law_told" 4 (Fz_law_told cv)) (fA : Addr) (cdv : Value) (A : Around) (outer : List Env) (s : Shared) (H : Hp) (E : XK) (hr : Room 4 (A.deeper (PyProof.Rows.envOfC "law" (defScope szlaw) s.heap.objs.size fA cdv))) : PDs (cxOf CX0 P w K mg base ["_law_script", "_law_panes", "_law_other", "_law_mine", "_law_k", "_law_here", "_law_way", "_law_name", "_law_place_here", "_law_one", "_law_own", "_law_seen"] "law" (defScope szlaw) fA cdv A outer s H E).nox EX0 stzlaw_p6 Pzlaw_p6 := (@pd_set _ _ _ _ _ _ 6 _ sczlaw.nd rfl (by first | exact Or.inl rfl | exact Or.inr rfl) (@pd_ix _ _ _ _ _ _ _ (@pd_F _ _ _ _ (@pdf_lst _ _ _ _ _ (@pda_cons _ _ _ _ _ _ pd_int (@pda_cons _ _ _ _ _ _ pd_int (@pda_cons _ _ _ _ _ _ pd_int (@pda_cons _ _ _ _ _ _ pd_int (@pda_cons _ _ _ _ _ _ pd_int (@pda_cons _ _ _ _ _ _ pd_int (@pda_cons _ _ _ _ _ _ pd_int (@pda_cons _ _ _ _ _ _ pd_int (@pda_cons _ _ _ _ _ _ pd_int (@pda_cons _ _ _ _ _ _ pd_int (@pda_cons _ _ _ _ _ _ pd_int pda_nil rfl) rfl) rfl) rfl) rfl) rfl) rfl) rfl) rfl) rfl) rfl))) (pd_fn hz_law_drawn hr (by decide) rfl (pda_cons (pd_var 0) (pda_cons (pd_var 5) (pda_cons pd_int pda_nil)))) (fun _ _=>rfl)) rfl (by first | exact Or.inl rfl | exact Or.inr rfl))
set_option maxHeartbeats 4000000 in
theorem okzlaw_p7 (b_len : mg "len" = none) (b_max : mg "max" = none) (b_min : mg "min" = none) (b_range : mg "range" = none) (b_sorted : mg "sorted" = none)  (cl_Panes : Cls K (cv 3)) (hzPanes___init__ : MkAt P w K mg base "Panes" (cv 3) 1 (FzPanes___init__ cv)) (hzPanes_done : MtAt P w K mg base (cv 3) "done" 1 (FzPanes_done cv)) (hzPanes_names : MtAt P w K mg base (cv 3) "names" 1 (FzPanes_names cv)) (hzPanes_place : MtX P w K mg base (cv 3) "place" 2 (FzPanes_place cv)) (hzPanes_seen : MtX P w K mg base (cv 3) "seen" 3 (FzPanes_seen cv)) (hzPanes_steps : MtAt P w K mg base (cv 3) "steps" 1 (FzPanes_steps cv)) (hz_law_done : FnAt P w K mg base "_law_done" 2 Fz_law_done) (hz_law_drawn : FnAt P w K mg base "_law_drawn" 2 Fz_law_drawn) (hz_law_place : FnAt P w K mg base "_law_place" 3 Fz_law_place) (hz_law_told : FnAt P w K mg base "_law_told" 4 (Fz_law_told cv)) (fA : Addr) (cdv : Value) (A : Around) (outer : List Env) (s : Shared) (H : Hp) (E : XK) (hr : Room 4 (A.deeper (PyProof.Rows.envOfC "law" (defScope szlaw) s.heap.objs.size fA cdv))) : PDs (cxOf CX0 P w K mg base ["_law_script", "_law_panes", "_law_other", "_law_mine", "_law_k", "_law_here", "_law_way", "_law_name", "_law_place_here", "_law_one", "_law_own", "_law_seen"] "law" (defScope szlaw) fA cdv A outer s H E).nox EX0 stzlaw_p7 Pzlaw_p7 := (pd_set 7 sczlaw.nd rfl (by first | exact Or.inl rfl | exact Or.inr rfl) (pd_ix pd_str (pd_fn hz_law_drawn hr (by decide) rfl (pda_cons (pd_var 0) (pda_cons (pd_op op_addD (pd_var 5) pd_int) (pda_cons pd_int pda_nil))))))
set_option maxHeartbeats 4000000 in
theorem okzlaw_p8 (b_len : mg "len" = none) (b_max : mg "max" = none) (b_min : mg "min" = none) (b_range : mg "range" = none) (b_sorted : mg "sorted" = none)  (cl_Panes : Cls K (cv 3)) (hzPanes___init__ : MkAt P w K mg base "Panes" (cv 3) 1 (FzPanes___init__ cv)) (hzPanes_done : MtAt P w K mg base (cv 3) "done" 1 (FzPanes_done cv)) (hzPanes_names : MtAt P w K mg base (cv 3) "names" 1 (FzPanes_names cv)) (hzPanes_place : MtX P w K mg base (cv 3) "place" 2 (FzPanes_place cv)) (hzPanes_seen : MtX P w K mg base (cv 3) "seen" 3 (FzPanes_seen cv)) (hzPanes_steps : MtAt P w K mg base (cv 3) "steps" 1 (FzPanes_steps cv)) (hz_law_done : FnAt P w K mg base "_law_done" 2 Fz_law_done) (hz_law_drawn : FnAt P w K mg base "_law_drawn" 2 Fz_law_drawn) (hz_law_place : FnAt P w K mg base "_law_place" 3 Fz_law_place) (hz_law_told : FnAt P w K mg base "_law_told" 4 (Fz_law_told cv)) (fA : Addr) (cdv : Value) (A : Around) (outer : List Env) (s : Shared) (H : Hp) (E : XK) (hr : Room 4 (A.deeper (PyProof.Rows.envOfC "law" (defScope szlaw) s.heap.objs.size fA cdv))) : PDs (cxOf CX0 P w K mg base ["_law_script", "_law_panes", "_law_other", "_law_mine", "_law_k", "_law_here", "_law_way", "_law_name", "_law_place_here", "_law_one", "_law_own", "_law_seen"] "law" (defScope szlaw) fA cdv A outer s H E).nox EX0 stzlaw_p8 Pzlaw_p8 := (pd_set 8 sczlaw.nd rfl (by first | exact Or.inl rfl | exact Or.inr rfl) (pd_fn hz_law_place hr (by decide) rfl (pda_cons (pd_var 0) (pda_cons (pd_op op_addD (pd_var 5) pd_int) pda_nil))))
set_option maxHeartbeats 4000000 in
theorem okzlaw_p9 (b_len : mg "len" = none) (b_max : mg "max" = none) (b_min : mg "min" = none) (b_range : mg "range" = none) (b_sorted : mg "sorted" = none)  (cl_Panes : Cls K (cv 3)) (hzPanes___init__ : MkAt P w K mg base "Panes" (cv 3) 1 (FzPanes___init__ cv)) (hzPanes_done : MtAt P w K mg base (cv 3) "done" 1 (FzPanes_done cv)) (hzPanes_names : MtAt P w K mg base (cv 3) "names" 1 (FzPanes_names cv)) (hzPanes_place : MtX P w K mg base (cv 3) "place" 2 (FzPanes_place cv)) (hzPanes_seen : MtX P w K mg base (cv 3) "seen" 3 (FzPanes_seen cv)) (hzPanes_steps : MtAt P w K mg base (cv 3) "steps" 1 (FzPanes_steps cv)) (hz_law_done : FnAt P w K mg base "_law_done" 2 Fz_law_done) (hz_law_drawn : FnAt P w K mg base "_law_drawn" 2 Fz_law_drawn) (hz_law_place : FnAt P w K mg base "_law_place" 3 Fz_law_place) (hz_law_told : FnAt P w K mg base "_law_told" 4 (Fz_law_told cv)) (fA : Addr) (cdv : Value) (A : Around) (outer : List Env) (s : Shared) (H : Hp) (E : XK) (hr : Room 4 (A.deeper (PyProof.Rows.envOfC "law" (defScope szlaw) s.heap.objs.size fA cdv))) : PDs (cxOf CX0 P w K mg base ["_law_script", "_law_panes", "_law_other", "_law_mine", "_law_k", "_law_here", "_law_way", "_law_name", "_law_place_here", "_law_one", "_law_own", "_law_seen"] "law" (defScope szlaw) fA cdv A outer s H E).nox EX0 stzlaw_p9 (Pzlaw_p9 cv) := (pd_if (pdt_cmp (op_neD hr.units) (pd_fn hz_law_told hr (by decide) rfl (pda_cons (pd_var 1) (pda_cons (pd_var 6) (pda_cons (pd_var 7) (pda_cons (pd_var 8) pda_nil))))) (pd_fn hz_law_done hr (by decide) rfl (pda_cons (pd_var 3) (pda_cons (pd_var 6) (pda_cons (pd_var 7) (pda_cons (pd_var 8) pda_nil)))))) (pds_one (pd_ret pd_bl)) pds_nil)
set_option maxHeartbeats 4000000 in
theorem okzlaw_p10 (b_len : mg "len" = none) (b_max : mg "max" = none) (b_min : mg "min" = none) (b_range : mg "range" = none) (b_sorted : mg "sorted" = none)  (cl_Panes : Cls K (cv 3)) (hzPanes___init__ : MkAt P w K mg base "Panes" (cv 3) 1 (FzPanes___init__ cv)) (hzPanes_done : MtAt P w K mg base (cv 3) "done" 1 (FzPanes_done cv)) (hzPanes_names : MtAt P w K mg base (cv 3) "names" 1 (FzPanes_names cv)) (hzPanes_place : MtX P w K mg base (cv 3) "place" 2 (FzPanes_place cv)) (hzPanes_seen : MtX P w K mg base (cv 3) "seen" 3 (FzPanes_seen cv)) (hzPanes_steps : MtAt P w K mg base (cv 3) "steps" 1 (FzPanes_steps cv)) (hz_law_done : FnAt P w K mg base "_law_done" 2 Fz_law_done) (hz_law_drawn : FnAt P w K mg base "_law_drawn" 2 Fz_law_drawn) (hz_law_place : FnAt P w K mg base "_law_place" 3 Fz_law_place) (hz_law_told : FnAt P w K mg base "_law_told" 4 (Fz_law_told cv)) (fA : Addr) (cdv : Value) (A : Around) (outer : List Env) (s : Shared) (H : Hp) (E : XK) (hr : Room 4 (A.deeper (PyProof.Rows.envOfC "law" (defScope szlaw) s.heap.objs.size fA cdv))) : PDs (cxOf CX0 P w K mg base ["_law_script", "_law_panes", "_law_other", "_law_mine", "_law_k", "_law_here", "_law_way", "_law_name", "_law_place_here", "_law_one", "_law_own", "_law_seen"] "law" (defScope szlaw) fA cdv A outer s H E).nox EX0 stzlaw_p10 (Pzlaw_p10 cv) := (pd_if (PDW.pt (pdw_or (pdt_cmp (op_neD hr.units) (pd_mt0 hzPanes_names cl_Panes hr (by decide) (pd_var 1)) (pd_F (pdf_callB (call_sortDF rfl) rfl b_sorted PyProof.Rows.boot_sorted (pda_cons (pd_dget hr.units (pd_var 3) pd_str) pda_nil)))) (pdw_or (pdt_cmp (op_neD hr.units) (pd_mt0 hzPanes_steps cl_Panes hr (by decide) (pd_var 1)) (pd_dget hr.units (pd_var 3) pd_str)) (pdw_or1 (pdt_cmp (op_neD hr.units) (pd_mt0 hzPanes_done cl_Panes hr (by decide) (pd_var 1)) (pd_dget hr.units (pd_var 3) pd_str)))))) (pds_one (pd_ret pd_bl)) pds_nil)
set_option maxHeartbeats 4000000 in
theorem okzlaw_p12 (b_len : mg "len" = none) (b_max : mg "max" = none) (b_min : mg "min" = none) (b_range : mg "range" = none) (b_sorted : mg "sorted" = none)  (cl_Panes : Cls K (cv 3)) (hzPanes___init__ : MkAt P w K mg base "Panes" (cv 3) 1 (FzPanes___init__ cv)) (hzPanes_done : MtAt P w K mg base (cv 3) "done" 1 (FzPanes_done cv)) (hzPanes_names : MtAt P w K mg base (cv 3) "names" 1 (FzPanes_names cv)) (hzPanes_place : MtX P w K mg base (cv 3) "place" 2 (FzPanes_place cv)) (hzPanes_seen : MtX P w K mg base (cv 3) "seen" 3 (FzPanes_seen cv)) (hzPanes_steps : MtAt P w K mg base (cv 3) "steps" 1 (FzPanes_steps cv)) (hz_law_done : FnAt P w K mg base "_law_done" 2 Fz_law_done) (hz_law_drawn : FnAt P w K mg base "_law_drawn" 2 Fz_law_drawn) (hz_law_place : FnAt P w K mg base "_law_place" 3 Fz_law_place) (hz_law_told : FnAt P w K mg base "_law_told" 4 (Fz_law_told cv)) (fA : Addr) (cdv : Value) (A : Around) (outer : List Env) (s : Shared) (H : Hp) (E : XK) (hr : Room 4 (A.deeper (PyProof.Rows.envOfC "law" (defScope szlaw) s.heap.objs.size fA cdv))) : PDs (cxOf CX0 P w K mg base ["_law_script", "_law_panes", "_law_other", "_law_mine", "_law_k", "_law_here", "_law_way", "_law_name", "_law_place_here", "_law_one", "_law_own", "_law_seen"] "law" (defScope szlaw) fA cdv A outer s H E).nox EX0 stzlaw_p12 Pzlaw_p12 := (pd_setLC 10 rfl ⟨Blk.of (N := ["_law_row", "_law_one"]) (caps := [9]) (nT := 1) (by show blkB (defScope szlaw) _ ["_law_script", "_law_panes", "_law_other", "_law_mine", "_law_k", "_law_here", "_law_way", "_law_name", "_law_place_here", "_law_one", "_law_own", "_law_seen"] _ _ _ = true; decide +kernel), fun _ _ _ _ => (pgd_name 0 (by show (["_law_row", "_law_one"] : List Str).Nodup; decide +kernel) rfl (by first | exact Or.inl rfl | exact Or.inr rfl)), fun _ _ _ _ => pts_one (pdt_cmp (op_eqD hr.units) (pd_ix (pd_var 0) pd_int) (pd_var 1)), fun _ _ _ _ => (pd_var 0)⟩ (pid_seq (pd_dget hr.units (pd_var 3) pd_str)) sczlaw.nd rfl (by first | exact Or.inl rfl | exact Or.inr rfl))
set_option maxHeartbeats 4000000 in
theorem okzlaw_p13 (b_len : mg "len" = none) (b_max : mg "max" = none) (b_min : mg "min" = none) (b_range : mg "range" = none) (b_sorted : mg "sorted" = none)  (cl_Panes : Cls K (cv 3)) (hzPanes___init__ : MkAt P w K mg base "Panes" (cv 3) 1 (FzPanes___init__ cv)) (hzPanes_done : MtAt P w K mg base (cv 3) "done" 1 (FzPanes_done cv)) (hzPanes_names : MtAt P w K mg base (cv 3) "names" 1 (FzPanes_names cv)) (hzPanes_place : MtX P w K mg base (cv 3) "place" 2 (FzPanes_place cv)) (hzPanes_seen : MtX P w K mg base (cv 3) "seen" 3 (FzPanes_seen cv)) (hzPanes_steps : MtAt P w K mg base (cv 3) "steps" 1 (FzPanes_steps cv)) (hz_law_done : FnAt P w K mg base "_law_done" 2 Fz_law_done) (hz_law_drawn : FnAt P w K mg base "_law_drawn" 2 Fz_law_drawn) (hz_law_place : FnAt P w K mg base "_law_place" 3 Fz_law_place) (hz_law_told : FnAt P w K mg base "_law_told" 4 (Fz_law_told cv)) (fA : Addr) (cdv : Value) (A : Around) (outer : List Env) (s : Shared) (H : Hp) (E : XK) (hr : Room 4 (A.deeper (PyProof.Rows.envOfC "law" (defScope szlaw) s.heap.objs.size fA cdv))) : PDs (cxOf CX0 P w K mg base ["_law_script", "_law_panes", "_law_other", "_law_mine", "_law_k", "_law_here", "_law_way", "_law_name", "_law_place_here", "_law_one", "_law_own", "_law_seen"] "law" (defScope szlaw) fA cdv A outer s H E).nox EX0 stzlaw_p13 Pzlaw_p13 := (pd_set 11 sczlaw.nd rfl (by first | exact Or.inl rfl | exact Or.inr rfl) (pd_F (pdf_op op_catL (pd_F (pdf_lc rfl ⟨Blk.of (N := ["_law_row"]) (caps := []) (nT := 1) (by show blkB (defScope szlaw) _ ["_law_script", "_law_panes", "_law_other", "_law_mine", "_law_k", "_law_here", "_law_way", "_law_name", "_law_place_here", "_law_one", "_law_own", "_law_seen"] _ _ _ = true; decide +kernel), fun _ _ _ _ => (pgd_name 0 (by show (["_law_row"] : List Str).Nodup; decide +kernel) rfl (by first | exact Or.inl rfl | exact Or.inr rfl)), fun _ _ _ _ => pts_nil, fun _ _ _ _ => (pd_ix (pd_var 0) pd_int)⟩ (pid_seq (pd_F (pdf_slice sl_F (pd_var 10) pdo_none (pdo_some pd_int)))))) (pd_F (pdf_lc rfl ⟨Blk.of (N := ["_law_row"]) (caps := []) (nT := 1) (by show blkB (defScope szlaw) _ ["_law_script", "_law_panes", "_law_other", "_law_mine", "_law_k", "_law_here", "_law_way", "_law_name", "_law_place_here", "_law_one", "_law_own", "_law_seen"] _ _ _ = true; decide +kernel), fun _ _ _ _ => (pgd_name 0 (by show (["_law_row"] : List Str).Nodup; decide +kernel) rfl (by first | exact Or.inl rfl | exact Or.inr rfl)), fun _ _ _ _ => pts_nil, fun _ _ _ _ => (pd_ix (pd_var 0) pd_int)⟩ (pid_seq (pd_var 10)))))))
set_option maxHeartbeats 4000000 in
theorem okzlaw_p14 (b_len : mg "len" = none) (b_max : mg "max" = none) (b_min : mg "min" = none) (b_range : mg "range" = none) (b_sorted : mg "sorted" = none)  (cl_Panes : Cls K (cv 3)) (hzPanes___init__ : MkAt P w K mg base "Panes" (cv 3) 1 (FzPanes___init__ cv)) (hzPanes_done : MtAt P w K mg base (cv 3) "done" 1 (FzPanes_done cv)) (hzPanes_names : MtAt P w K mg base (cv 3) "names" 1 (FzPanes_names cv)) (hzPanes_place : MtX P w K mg base (cv 3) "place" 2 (FzPanes_place cv)) (hzPanes_seen : MtX P w K mg base (cv 3) "seen" 3 (FzPanes_seen cv)) (hzPanes_steps : MtAt P w K mg base (cv 3) "steps" 1 (FzPanes_steps cv)) (hz_law_done : FnAt P w K mg base "_law_done" 2 Fz_law_done) (hz_law_drawn : FnAt P w K mg base "_law_drawn" 2 Fz_law_drawn) (hz_law_place : FnAt P w K mg base "_law_place" 3 Fz_law_place) (hz_law_told : FnAt P w K mg base "_law_told" 4 (Fz_law_told cv)) (fA : Addr) (cdv : Value) (A : Around) (outer : List Env) (s : Shared) (H : Hp) (E : XK) (hr : Room 4 (A.deeper (PyProof.Rows.envOfC "law" (defScope szlaw) s.heap.objs.size fA cdv))) : PDs (cxOf CX0 P w K mg base ["_law_script", "_law_panes", "_law_other", "_law_mine", "_law_k", "_law_here", "_law_way", "_law_name", "_law_place_here", "_law_one", "_law_own", "_law_seen"] "law" (defScope szlaw) fA cdv A outer s H E).nox EX0 stzlaw_p14 (Pzlaw_p14 cv) := (pd_if (PDW.pt (pdw_or (pdt_cmp (op_neD hr.units) (pd_mtX hzPanes_place xt_nox cl_Panes hr (by decide) (pd_var 1) (pda_cons (pd_var 9) pda_nil)) (pd_dget hr.units (pd_dget hr.units (pd_var 3) pd_str) (pd_var 9))) (pdw_or1 (pdt_cmp (op_neD hr.units) (pd_mtX hzPanes_seen xt_nox cl_Panes hr (by decide) (pd_var 1) (pda_cons (pd_var 9) pda_nil)) (pd_ifExp (pdt_cmp (op_neD hr.units) (pd_var 10) (pd_F (pdf_lst pda_nil))) (pd_var 11) (pd_F (pdf_lst (pda_cons (pd_dget hr.units (pd_dget hr.units (pd_var 3) pd_str) (pd_var 9)) pda_nil)))))))) (pds_one (pd_ret pd_bl)) pds_nil)
set_option maxHeartbeats 4000000 in
theorem okzlaw_p11 (b_len : mg "len" = none) (b_max : mg "max" = none) (b_min : mg "min" = none) (b_range : mg "range" = none) (b_sorted : mg "sorted" = none)  (cl_Panes : Cls K (cv 3)) (hzPanes___init__ : MkAt P w K mg base "Panes" (cv 3) 1 (FzPanes___init__ cv)) (hzPanes_done : MtAt P w K mg base (cv 3) "done" 1 (FzPanes_done cv)) (hzPanes_names : MtAt P w K mg base (cv 3) "names" 1 (FzPanes_names cv)) (hzPanes_place : MtX P w K mg base (cv 3) "place" 2 (FzPanes_place cv)) (hzPanes_seen : MtX P w K mg base (cv 3) "seen" 3 (FzPanes_seen cv)) (hzPanes_steps : MtAt P w K mg base (cv 3) "steps" 1 (FzPanes_steps cv)) (hz_law_done : FnAt P w K mg base "_law_done" 2 Fz_law_done) (hz_law_drawn : FnAt P w K mg base "_law_drawn" 2 Fz_law_drawn) (hz_law_place : FnAt P w K mg base "_law_place" 3 Fz_law_place) (hz_law_told : FnAt P w K mg base "_law_told" 4 (Fz_law_told cv)) (fA : Addr) (cdv : Value) (A : Around) (outer : List Env) (s : Shared) (H : Hp) (E : XK) (hr : Room 4 (A.deeper (PyProof.Rows.envOfC "law" (defScope szlaw) s.heap.objs.size fA cdv))) : PDs (cxOf CX0 P w K mg base ["_law_script", "_law_panes", "_law_other", "_law_mine", "_law_k", "_law_here", "_law_way", "_law_name", "_law_place_here", "_law_one", "_law_own", "_law_seen"] "law" (defScope szlaw) fA cdv A outer s H E).nox EX0 stzlaw_p11 (Pzlaw_p11 cv) := (pd_for PassesOwn.never rfl (pid_seq (pd_F (pdf_callB (call_sortDF rfl) rfl b_sorted PyProof.Rows.boot_sorted (pda_cons (pd_dget hr.units (pd_var 3) pd_str) pda_nil)))) (pgd_name 9 sczlaw.nd rfl (by first | exact Or.inl rfl | exact Or.inr rfl)) (show PDS _ _ [stzlaw_p12, stzlaw_p13, stzlaw_p14] _ from (pds_cons (okzlaw_p12 b_len b_max b_min b_range b_sorted cl_Panes hzPanes___init__ hzPanes_done hzPanes_names hzPanes_place hzPanes_seen hzPanes_steps hz_law_done hz_law_drawn hz_law_place hz_law_told fA cdv A outer s H E hr) (pds_cons (okzlaw_p13 b_len b_max b_min b_range b_sorted cl_Panes hzPanes___init__ hzPanes_done hzPanes_names hzPanes_place hzPanes_seen hzPanes_steps hz_law_done hz_law_drawn hz_law_place hz_law_told fA cdv A outer s H E hr) (pds_one (okzlaw_p14 b_len b_max b_min b_range b_sorted cl_Panes hzPanes___init__ hzPanes_done hzPanes_names hzPanes_place hzPanes_seen hzPanes_steps hz_law_done hz_law_drawn hz_law_place hz_law_told fA cdv A outer s H E hr))))))
set_option maxHeartbeats 4000000 in
theorem okzlaw_p4 (b_len : mg "len" = none) (b_max : mg "max" = none) (b_min : mg "min" = none) (b_range : mg "range" = none) (b_sorted : mg "sorted" = none)  (cl_Panes : Cls K (cv 3)) (hzPanes___init__ : MkAt P w K mg base "Panes" (cv 3) 1 (FzPanes___init__ cv)) (hzPanes_done : MtAt P w K mg base (cv 3) "done" 1 (FzPanes_done cv)) (hzPanes_names : MtAt P w K mg base (cv 3) "names" 1 (FzPanes_names cv)) (hzPanes_place : MtX P w K mg base (cv 3) "place" 2 (FzPanes_place cv)) (hzPanes_seen : MtX P w K mg base (cv 3) "seen" 3 (FzPanes_seen cv)) (hzPanes_steps : MtAt P w K mg base (cv 3) "steps" 1 (FzPanes_steps cv)) (hz_law_done : FnAt P w K mg base "_law_done" 2 Fz_law_done) (hz_law_drawn : FnAt P w K mg base "_law_drawn" 2 Fz_law_drawn) (hz_law_place : FnAt P w K mg base "_law_place" 3 Fz_law_place) (hz_law_told : FnAt P w K mg base "_law_told" 4 (Fz_law_told cv)) (fA : Addr) (cdv : Value) (A : Around) (outer : List Env) (s : Shared) (H : Hp) (E : XK) (hr : Room 4 (A.deeper (PyProof.Rows.envOfC "law" (defScope szlaw) s.heap.objs.size fA cdv))) : PDs (cxOf CX0 P w K mg base ["_law_script", "_law_panes", "_law_other", "_law_mine", "_law_k", "_law_here", "_law_way", "_law_name", "_law_place_here", "_law_one", "_law_own", "_law_seen"] "law" (defScope szlaw) fA cdv A outer s H E).nox EX0 stzlaw_p4 (Pzlaw_p4 cv) := (@pd_for _ _ _ _ _ _ _ _ _ PassesOwn.never rfl (pid_range1 rfl b_range (pda_cons (pd_callB (call_max2D rfl) rfl b_max PyProof.Rows.boot_max (pda_cons pd_int (pda_cons (pd_callB (call_min2D rfl) rfl b_min PyProof.Rows.boot_min (pda_cons pd_int (pda_cons (pd_callB call_lenD rfl b_len PySem.boot_len (pda_cons (pd_var 0) pda_nil)) pda_nil))) pda_nil))) pda_nil)) (pgd_name 4 sczlaw.nd rfl (by first | exact Or.inl rfl | exact Or.inr rfl)) (show PDS _ _ [stzlaw_p5, stzlaw_p6, stzlaw_p7, stzlaw_p8, stzlaw_p9, stzlaw_p10, stzlaw_p11] _ from (@pds_cons _ _ _ _ _ _ (@okzlaw_p5 P w K mg base cv b_len b_max b_min b_range b_sorted cl_Panes hzPanes___init__ hzPanes_done hzPanes_names hzPanes_place hzPanes_seen hzPanes_steps hz_law_done hz_law_drawn hz_law_place hz_law_told fA cdv A outer s H E hr) (@pds_cons _ _ _ _ _ _ (@okzlaw_p6 P w K mg base cv b_len b_max b_min b_range b_sorted cl_Panes hzPanes___init__ hzPanes_done hzPanes_names hzPanes_place hzPanes_seen hzPanes_steps hz_law_done hz_law_drawn hz_law_place hz_law_told fA cdv A outer s H E hr) (@pds_cons _ _ _ _ _ _ (@okzlaw_p7 P w K mg base cv b_len b_max b_min b_range b_sorted cl_Panes hzPanes___init__ hzPanes_done hzPanes_names hzPanes_place hzPanes_seen hzPanes_steps hz_law_done hz_law_drawn hz_law_place hz_law_told fA cdv A outer s H E hr) (@pds_cons _ _ _ _ _ _ (@okzlaw_p8 P w K mg base cv b_len b_max b_min b_range b_sorted cl_Panes hzPanes___init__ hzPanes_done hzPanes_names hzPanes_place hzPanes_seen hzPanes_steps hz_law_done hz_law_drawn hz_law_place hz_law_told fA cdv A outer s H E hr) (@pds_cons _ _ _ _ _ _ (@okzlaw_p9 P w K mg base cv b_len b_max b_min b_range b_sorted cl_Panes hzPanes___init__ hzPanes_done hzPanes_names hzPanes_place hzPanes_seen hzPanes_steps hz_law_done hz_law_drawn hz_law_place hz_law_told fA cdv A outer s H E hr) (@pds_cons _ _ _ _ _ _ (@okzlaw_p10 P w K mg base cv b_len b_max b_min b_range b_sorted cl_Panes hzPanes___init__ hzPanes_done hzPanes_names hzPanes_place hzPanes_seen hzPanes_steps hz_law_done hz_law_drawn hz_law_place hz_law_told fA cdv A outer s H E hr) (@pds_one _ _ _ _ (@okzlaw_p11 P w K mg base cv b_len b_max b_min b_range b_sorted cl_Panes hzPanes___init__ hzPanes_done hzPanes_names hzPanes_place hzPanes_seen hzPanes_steps hz_law_done hz_law_drawn hz_law_place hz_law_told fA cdv A outer s H E hr))))))))) (fun _=>rfl))
set_option maxHeartbeats 4000000 in
theorem okzlaw_p15 (b_len : mg "len" = none) (b_max : mg "max" = none) (b_min : mg "min" = none) (b_range : mg "range" = none) (b_sorted : mg "sorted" = none)  (cl_Panes : Cls K (cv 3)) (hzPanes___init__ : MkAt P w K mg base "Panes" (cv 3) 1 (FzPanes___init__ cv)) (hzPanes_done : MtAt P w K mg base (cv 3) "done" 1 (FzPanes_done cv)) (hzPanes_names : MtAt P w K mg base (cv 3) "names" 1 (FzPanes_names cv)) (hzPanes_place : MtX P w K mg base (cv 3) "place" 2 (FzPanes_place cv)) (hzPanes_seen : MtX P w K mg base (cv 3) "seen" 3 (FzPanes_seen cv)) (hzPanes_steps : MtAt P w K mg base (cv 3) "steps" 1 (FzPanes_steps cv)) (hz_law_done : FnAt P w K mg base "_law_done" 2 Fz_law_done) (hz_law_drawn : FnAt P w K mg base "_law_drawn" 2 Fz_law_drawn) (hz_law_place : FnAt P w K mg base "_law_place" 3 Fz_law_place) (hz_law_told : FnAt P w K mg base "_law_told" 4 (Fz_law_told cv)) (fA : Addr) (cdv : Value) (A : Around) (outer : List Env) (s : Shared) (H : Hp) (E : XK) (hr : Room 4 (A.deeper (PyProof.Rows.envOfC "law" (defScope szlaw) s.heap.objs.size fA cdv))) : PDs (cxOf CX0 P w K mg base ["_law_script", "_law_panes", "_law_other", "_law_mine", "_law_k", "_law_here", "_law_way", "_law_name", "_law_place_here", "_law_one", "_law_own", "_law_seen"] "law" (defScope szlaw) fA cdv A outer s H E).nox EX0 stzlaw_p15 (Pzlaw_p15 cv) := (pd_expr (pd_append (pd_mt0 hzPanes_steps cl_Panes hr (by decide) (pd_var 1)) pd_non))
set_option maxHeartbeats 4000000 in
theorem okzlaw_p16 (b_len : mg "len" = none) (b_max : mg "max" = none) (b_min : mg "min" = none) (b_range : mg "range" = none) (b_sorted : mg "sorted" = none)  (cl_Panes : Cls K (cv 3)) (hzPanes___init__ : MkAt P w K mg base "Panes" (cv 3) 1 (FzPanes___init__ cv)) (hzPanes_done : MtAt P w K mg base (cv 3) "done" 1 (FzPanes_done cv)) (hzPanes_names : MtAt P w K mg base (cv 3) "names" 1 (FzPanes_names cv)) (hzPanes_place : MtX P w K mg base (cv 3) "place" 2 (FzPanes_place cv)) (hzPanes_seen : MtX P w K mg base (cv 3) "seen" 3 (FzPanes_seen cv)) (hzPanes_steps : MtAt P w K mg base (cv 3) "steps" 1 (FzPanes_steps cv)) (hz_law_done : FnAt P w K mg base "_law_done" 2 Fz_law_done) (hz_law_drawn : FnAt P w K mg base "_law_drawn" 2 Fz_law_drawn) (hz_law_place : FnAt P w K mg base "_law_place" 3 Fz_law_place) (hz_law_told : FnAt P w K mg base "_law_told" 4 (Fz_law_told cv)) (fA : Addr) (cdv : Value) (A : Around) (outer : List Env) (s : Shared) (H : Hp) (E : XK) (hr : Room 4 (A.deeper (PyProof.Rows.envOfC "law" (defScope szlaw) s.heap.objs.size fA cdv))) : PDs (cxOf CX0 P w K mg base ["_law_script", "_law_panes", "_law_other", "_law_mine", "_law_k", "_law_here", "_law_way", "_law_name", "_law_place_here", "_law_one", "_law_own", "_law_seen"] "law" (defScope szlaw) fA cdv A outer s H E).nox EX0 stzlaw_p16 (Pzlaw_p16 cv) := (pd_ret (pd_and (pd_cmp (op_eqD hr.units) (pd_mt0 hzPanes_steps cl_Panes hr (by decide) (pd_var 1)) (pd_dget hr.units (pd_var 3) pd_str)) (pd_and (pd_cmp (op_eqD hr.units) (pd_mt0 hzPanes_names cl_Panes hr (by decide) (pd_var 2)) (pd_F (pdf_lst pda_nil))) (pd_one (pd_cmp (op_eqD hr.units) (pd_mt0 hzPanes_steps cl_Panes hr (by decide) (pd_var 2)) (pd_F (pdf_lst pda_nil)))))))
set_option maxHeartbeats 4000000 in
theorem okzlaw {f : Addr} {fd : FuncData} (F : Fun K "law" "law" szlaw f fd) (b_len : mg "len" = none) (b_max : mg "max" = none) (b_min : mg "min" = none) (b_range : mg "range" = none) (b_sorted : mg "sorted" = none)  (cl_Panes : Cls K (cv 3)) (hzPanes___init__ : MkAt P w K mg base "Panes" (cv 3) 1 (FzPanes___init__ cv)) (hzPanes_done : MtAt P w K mg base (cv 3) "done" 1 (FzPanes_done cv)) (hzPanes_names : MtAt P w K mg base (cv 3) "names" 1 (FzPanes_names cv)) (hzPanes_place : MtX P w K mg base (cv 3) "place" 2 (FzPanes_place cv)) (hzPanes_seen : MtX P w K mg base (cv 3) "seen" 3 (FzPanes_seen cv)) (hzPanes_steps : MtAt P w K mg base (cv 3) "steps" 1 (FzPanes_steps cv)) (hz_law_done : FnAt P w K mg base "_law_done" 2 Fz_law_done) (hz_law_drawn : FnAt P w K mg base "_law_drawn" 2 Fz_law_drawn) (hz_law_place : FnAt P w K mg base "_law_place" 3 Fz_law_place) (hz_law_told : FnAt P w K mg base "_law_told" 4 (Fz_law_told cv)) : FnOk P w K mg base CX0 5 f fd ["_law_script"] (spD K (Fzlaw cv)) :=
  fnD (k := 4) F sczlaw fun cdv A outer s H E hr => (show PDS _ _ [stzlaw_p1, stzlaw_p2, stzlaw_p3, stzlaw_p4, stzlaw_p15, stzlaw_p16] _ from (@pds_cons _ _ _ _ _ _ (@okzlaw_p1 P w K mg base cv b_len b_max b_min b_range b_sorted cl_Panes hzPanes___init__ hzPanes_done hzPanes_names hzPanes_place hzPanes_seen hzPanes_steps hz_law_done hz_law_drawn hz_law_place hz_law_told f cdv A outer s H E hr) (@pds_cons _ _ _ _ _ _ (@okzlaw_p2 P w K mg base cv b_len b_max b_min b_range b_sorted cl_Panes hzPanes___init__ hzPanes_done hzPanes_names hzPanes_place hzPanes_seen hzPanes_steps hz_law_done hz_law_drawn hz_law_place hz_law_told f cdv A outer s H E hr) (@pds_cons _ _ _ _ _ _ (@okzlaw_p3 P w K mg base cv b_len b_max b_min b_range b_sorted cl_Panes hzPanes___init__ hzPanes_done hzPanes_names hzPanes_place hzPanes_seen hzPanes_steps hz_law_done hz_law_drawn hz_law_place hz_law_told f cdv A outer s H E hr) (@pds_cons _ _ _ _ _ _ (@okzlaw_p4 P w K mg base cv b_len b_max b_min b_range b_sorted cl_Panes hzPanes___init__ hzPanes_done hzPanes_names hzPanes_place hzPanes_seen hzPanes_steps hz_law_done hz_law_drawn hz_law_place hz_law_told f cdv A outer s H E hr) (@pds_cons _ _ _ _ _ _ (@okzlaw_p15 P w K mg base cv b_len b_max b_min b_range b_sorted cl_Panes hzPanes___init__ hzPanes_done hzPanes_names hzPanes_place hzPanes_seen hzPanes_steps hz_law_done hz_law_drawn hz_law_place hz_law_told f cdv A outer s H E hr) (@pds_one _ _ _ _ (@okzlaw_p16 P w K mg base cv b_len b_max b_min b_range b_sorted cl_Panes hzPanes___init__ hzPanes_done hzPanes_names hzPanes_place hzPanes_seen hzPanes_steps hz_law_done hz_law_drawn hz_law_place hz_law_told f cdv A outer s H E hr))))))))
end
end K40

end
section
set_option Elab.async false
set_option linter.all false
set_option maxRecDepth 100000
set_option maxHeartbeats 2000000
namespace K40
open PySem L2 DL
noncomputable def cellV (ns : List Int) (k : Int) : Int := if ns = [] then 7 * k else ns.getD (k % ns.length).toNat 0 + 6553 * (k / ns.length)
theorem eq_scr_nil (xs : List D) (st : Sto) : eqD (.scr xs) (.lst []) st = .ok (.bl xs.isEmpty) st := by
  cases xs <;> rfl
theorem len_scr (xs : List D) (st : Sto) : lenD [.scr xs] st = .ok (.int xs.length) st := rfl
theorem ix_scr (ns : List Int) (k : Int) (st : Sto) (h0 : 0 ≤ k) (h1 : k < ns.length) : ixD (.scr (ns.map .int)) (.int k) st = .ok (.int (ns.getD k.toNat 0)) st := by
  have e : L2.atI (ns.map D.int) k = some (.int (ns.getD k.toNat 0)) := by
    unfold L2.atI L2.ixN
    rw [if_pos h0, if_pos (by rw [List.length_map]; exact h1)]
    have hk : k.toNat < ns.length := by omega
    simp [List.getElem?_map, List.getElem?_eq_getElem hk]
  simp [ixD, itemsOf, seqL, e]
theorem cell_eq (ns : List Int) (hl : ns.length ≤ 63) (k : Int) (st : Sto) : Fz_law_cell [.scr (ns.map .int), .int k] st = .ok (.int (cellV ns k)) st := by
  unfold Fz_law_cell gz_law_cell cellV
  by_cases h : ns = []
  · subst h
    have e1 := mul2_int _ _ st (mulOk_l 7 k (by decide) (by decide))
    have e2 := eq_scr_nil [] st
    simp [e1, e2]
  · have hp : 0 < ns.length := List.length_pos_iff.mpr h
    have h1 : (0 : Int) < (ns.length : Int) := by omega
    have h2 : 0 ≤ k % (ns.length : Int) := Int.emod_nonneg _ (by omega)
    have h3 : k % (ns.length : Int) < ns.length := Int.emod_lt_of_pos _ h1
    have e0 := eq_scr_nil (ns.map .int) st
    have e1 := len_scr (ns.map .int) st
    have e2 := mod_int k _ st h1
    have e3 := fdiv_int k _ st h1 (by omega : (ns.length : Int) < 1073741824)
    have e4 := ix_scr ns _ st h2 h3
    have e5 := mul2_int _ _ st (mulOk_l 6553 (k / ns.length) (by decide) (by decide))
    rw [List.length_map] at e1
    simp [e0, e1, e2, e3, e4, e5, h]
noncomputable def mixA (c k : Int) : Int := (c % 2147483563 * 69069 + 104723 * (k + 1)) % 2147483563
noncomputable def mixB (a : Int) : Int := (a * a + a / 3) % 2147483399
noncomputable def mixC (b m : Int) : Int := (b * b + b / 7) % 2147483647 / 11 % m
noncomputable def drawnV (ns : List Int) (k m : Int) : Int := mixC (mixB (mixA (cellV ns k) k)) m
theorem drawn_eq (ns : List Int) (hl : ns.length ≤ 63) (k m : Int) (hm : 0 < m) (st : Sto) : Fz_law_drawn [.scr (ns.map .int), .int k, .int m] st = .ok (.int (drawnV ns k m)) st := by
  have a1 : 0 ≤ mixA (cellV ns k) k := Int.emod_nonneg _ (by decide)
  have a2 : mixA (cellV ns k) k < 2147483563 := Int.emod_lt_of_pos _ (by decide)
  have b1 : 0 ≤ mixB (mixA (cellV ns k) k) := Int.emod_nonneg _ (by decide)
  have b2 : mixB (mixA (cellV ns k) k) < 2147483399 := Int.emod_lt_of_pos _ (by decide)
  have c0 : 0 ≤ cellV ns k % 2147483563 := Int.emod_nonneg _ (by decide)
  have c1 : cellV ns k % 2147483563 < 2147483563 := Int.emod_lt_of_pos _ (by decide)
  have e1 : mul2D (.int (cellV ns k % 2147483563)) (.int 69069) st = .ok (.int (cellV ns k % 2147483563 * 69069)) st := mul2_int _ _ _ (mulOk_r _ _ (by decide) (by decide))
  have e2 : mul2D (.int 104723) (.int (k + 1)) st = .ok (.int (104723 * (k + 1))) st := mul2_int _ _ _ (mulOk_l _ _ (by decide) (by decide))
  have e3 : mul2D (.int (mixA (cellV ns k) k)) (.int (mixA (cellV ns k) k)) st = .ok (.int (mixA (cellV ns k) k * mixA (cellV ns k) k)) st := mul2_int _ _ _ (mulOk_l _ _ (by omega) (by omega))
  have e4 : mul2D (.int (mixB (mixA (cellV ns k) k))) (.int (mixB (mixA (cellV ns k) k))) st = .ok (.int (mixB (mixA (cellV ns k) k) * mixB (mixA (cellV ns k) k))) st := mul2_int _ _ _ (mulOk_l _ _ (by omega) (by omega))
  have hA : (cellV ns k % 2147483563 * 69069 + 104723 * (k + 1)) % 2147483563 = mixA (cellV ns k) k := rfl
  have hB : (mixA (cellV ns k) k * mixA (cellV ns k) k + mixA (cellV ns k) k / 3) % 2147483399 = mixB (mixA (cellV ns k) k) := rfl
  have e0 := cell_eq ns hl k st
  have m1 := fun i => mod_int i 2147483563 st (by decide)
  have m2 := fun i => mod_int i 2147483399 st (by decide)
  have m3 := fun i => mod_int i 2147483647 st (by decide)
  have m4 := fun i => mod_int i m st hm
  have d1 := fun i => fdiv_int i 3 st (by decide) (by decide)
  have d2 := fun i => fdiv_int i 7 st (by decide) (by decide)
  have d3 := fun i => fdiv_int i 11 st (by decide) (by decide)
  unfold Fz_law_drawn gz_law_drawn
  simp [e0, e1, e2, e3, e4, m1, m2, m3, m4, d1, d2, d3, hA, hB]
  rfl
theorem drawn_lo (ns : List Int) (k m : Int) (hm : 0 < m) : 0 ≤ drawnV ns k m := Int.emod_nonneg _ (by omega)
theorem drawn_hi (ns : List Int) (k m : Int) (hm : 0 < m) : drawnV ns k m < m := Int.emod_lt_of_pos _ hm
noncomputable def letter (i : Nat) : Str := ⟨#[97 + i]⟩
theorem ix_abc (i : Int) (st : Sto) (h0 : 0 ≤ i) (h1 : i < 3) : ixD (.str "abc") (.int i) st = .ok (.str (letter i.toNat)) st := by
  have : i = 0 ∨ i = 1 ∨ i = 2 := by omega
  rcases this with rfl | rfl | rfl <;> rfl
noncomputable def placeV (ns : List Int) (at_ : Int) : List Str := (List.range (drawnV ns at_ 4).toNat).map fun (i : Nat) => letter (drawnV ns (at_ + 1 + (i : Int)) 3).toNat
theorem place_eq (ns : List Int) (hl : ns.length ≤ 63) (at_ : Int) (st : Sto) : Fz_law_place [.scr (ns.map .int), .int at_] st = .ok (pl (placeV ns at_)) st := by
  have e1 := drawn_eq ns hl at_ 4 (by decide) st
  have h1 := drawn_lo ns at_ 4 (by decide)
  have h2 := drawn_hi ns at_ 4 (by decide)
  have e2 : compD (fun _ => True) (tgName 0) dTrue Ez_law_place_1
      ((List.range (drawnV ns at_ 4).toNat).map (fun (i : Nat) => D.int (0 + i))) [none, some (.scr (ns.map .int)), some (.int at_)] st [] = .ok ((placeV ns at_).map .str) st := by
    rw [compD_map (fun ρ => ∃ a, ρ = [a, some (.scr (ns.map .int)), some (.int at_)]) (fun d => match d with | .int i => .str (letter (drawnV ns (at_ + 1 + i) 3).toNat) | _ => .non) trivial _ _ _ ⟨_, rfl⟩ (by simp [small]; omega)]
    · simp [placeV, List.map_map, Function.comp_def]
    · rintro x hx ρ ⟨a, rfl⟩
      obtain ⟨i, _, rfl⟩ := List.mem_map.mp hx
      refine ⟨_, rfl, ⟨_, rfl⟩, ?_⟩
      have e3 := drawn_eq ns hl (at_ + 1 + (0 + (i : Int))) 3 (by decide) st
      have e4 := ix_abc (drawnV ns (at_ + 1 + (0 + (i : Int))) 3) st (drawn_lo _ _ _ (by decide)) (drawn_hi _ _ _ (by decide))
      simp only [Int.zero_add] at e3 e4
      unfold Ez_law_place_1
      simp [e3, e4]
  have h3 : rngOk (drawnV ns at_ 4) = true := rngOk_of (by omega) (by omega)
  unfold Fz_law_place gz_law_place
  simp only [Int.zero_add] at e2
  simp [e1, e2, h3, capEv, tuple_lst, dRng1]
  rfl
noncomputable def up : Str := ".."
noncomputable def stay : Str := "."
theorem getL {st : Sto} {xs : List D} {i : Nat} (h : st[i]? = some (.lst xs)) : itemsOf st (.res i) = some xs := by simp [itemsOf, seqL, h]
theorem len_res {st : Sto} {xs : List D} {i : Nat} (h : st[i]? = some (.lst xs)) : lenD [.res i] st = .ok (.int xs.length) st := by simp [lenD, getL h]
theorem at_last (st : Sto) (s : S) : (st ++ [s])[st.length]? = some s := by simp
theorem seq_nx {g g' : DS} {ρ ρ' : Ev} {st st' : Sto} (h : g ρ st = .nx ρ' st') : sSeq g g' ρ st = g' ρ' st' := by simp [h]
noncomputable abbrev Row := List Str × Int
noncomputable def rowD (r : Row) : D := .tup [pl r.1, .int r.2]
noncomputable def bk (m : Int) (i : Nat) (s : Int) : List (Str × D) := [("most", .int m), ("rows", .res i), ("spot", .int s)]
structure BookAt (cv : Nat → Addr) (st : Sto) (b i : Nat) (m : Int) (rows : List Row) (s : Nat) : Prop where
  ob : st[b]? = some (.ins (cv 0) (bk m i s))
  rw : st[i]? = some (.lst (rows.map rowD))
  lt : s < rows.length
  le : rows.length ≤ 100
structure Chg (st st' : Sto) (b i i' : Nat) : Prop where
  fr : ∀ j x, st[j]? = some x → j ≠ b → j ≠ i → st'[j]? = some x
  nw : i' = i ∨ st.length ≤ i'
  le : st.length ≤ st'.length
section
variable {cv : Nat → Addr} {st : Sto} {b i : Nat} {m : Int} {rows : List Row} {s : Nat}
theorem BookAt.ne (B : BookAt cv st b i m rows s) : b ≠ i := by
  intro e
  have h1 := B.ob
  rw [e, B.rw] at h1
  cases h1
theorem BookAt.ins (B : BookAt cv st b i m rows s) : insAt (cv 0) st (.res b) = some (b, bk m i s) := by
  simp [insAt, B.ob]
theorem BookAt.items (B : BookAt cv st b i m rows s) : itemsOf st (.res i) = some (rows.map rowD) := getL B.rw
theorem BookAt.ix (B : BookAt cv st b i m rows s) {k : Int} {j : Nat} {r : Row} (hk : k = j) (hr : rows[j]? = some r) : ixD (.res i) (.int k) st = .ok (rowD r) st := by
  subst hk
  have e : L2.atI (rows.map rowD) (j : Int) = some (rowD r) := atI_nat (by rw [List.getElem?_map, hr]; rfl)
  simp [ixD, B.items, e]
theorem row1 (r : Row) (st : Sto) : ixD (rowD r) (.int 1) st = .ok (.int r.2) st := rfl
theorem BookAt.len (B : BookAt cv st b i m rows s) : lenD [.res i] st = .ok (.int rows.length) st := by
  have := len_res B.rw
  rw [List.length_map] at this
  exact this
end
theorem loop_inv {chk : Sto → Prop} {t : TgD} {g : DS} (P : Ev → Sto → Prop) (hc : ∀ ρ st, P ρ st → chk st) : ∀ (xs : List D), (∀ x ∈ xs, ∀ ρ st, P ρ st → ∃ ρ1 ρ2 st2, t x ρ = some ρ1 ∧ g ρ1 st = .nx ρ2 st2 ∧ P ρ2 st2) →
    ∀ ρ st, P ρ st → ∃ ρ2 st2, loopD chk t g xs ρ st = .nx ρ2 st2 ∧ P ρ2 st2
  | [], _, ρ, st, h => ⟨ρ, st, loop_nil (hc ρ st h), h⟩
  | x :: xs, hx, ρ, st, h => by
    obtain ⟨ρ1, ρ2, st2, e1, e2, h2⟩ := hx x List.mem_cons_self ρ st h
    obtain ⟨ρ3, st3, e3, h3⟩ := loop_inv P hc xs (fun y hy => hx y (List.mem_cons_of_mem _ hy)) ρ2 st2 h2
    exact ⟨ρ3, st3, (loop_nx (hc ρ st h) e1 e2).trans e3, h3⟩
theorem run_rt {N n : Nat} {g : DS} {ds : List D} {st st' : Sto} {d : D} (hl : ds.length = n) (h : g (ds.map some ++ List.replicate (N - n) none) st = .rt d st') : runF N n g ds st = .ok d st' := by
  rw [z_runF, if_pos hl, h]
section
variable {cv : Nat → Addr} {st : Sto} {b i : Nat} {m : Int} {rows : List Row} {s : Nat}
theorem BookAt.app (B : BookAt cv st b i m rows s) (t : Sto) : BookAt cv (st ++ t) b i m rows s :=
  ⟨by rw [List.getElem?_append_left (List.getElem?_eq_some_iff.mp B.ob).1]; exact B.ob, by rw [List.getElem?_append_left (List.getElem?_eq_some_iff.mp B.rw).1]; exact B.rw, B.lt, B.le⟩
end
theorem neD_int (x y : Int) (st : Sto) : neD (.int x) (.int y) st = .ok (.bl (!decide (x = y))) st := by
  rw [neD_nice rfl rfl]
  congr 3
  exact decide_eq_decide.mpr (by rw [D.int.injEq])
theorem loop_off {chk : Sto → Prop} {t : TgD} {g : DS} (P : Nat → Ev → Sto → Prop) (hc : ∀ j ρ st, P j ρ st → chk st) : ∀ (xs : List D) (n : Nat), (∀ j x, xs[j]? = some x → ∀ ρ st, P (n + j) ρ st → ∃ ρ1 ρ2 st2, t x ρ = some ρ1 ∧ g ρ1 st = .nx ρ2 st2 ∧ P (n + j + 1) ρ2 st2) →
    ∀ ρ st, P n ρ st → ∃ ρ2 st2, loopD chk t g xs ρ st = .nx ρ2 st2 ∧ P (n + xs.length) ρ2 st2
  | [], n, _, ρ, st, h => ⟨ρ, st, loop_nil (hc n ρ st h), h⟩
  | x :: xs, n, hx, ρ, st, h => by
    obtain ⟨ρ1, ρ2, st2, e1, e2, h2⟩ := hx 0 x rfl ρ st h
    obtain ⟨ρ3, st3, e3, h3⟩ := loop_off P hc xs (n + 1) (fun j y hy ρ st hp => by
      have q : n + 1 + j = n + (j + 1) := by omega
      rw [q] at hp
      obtain ⟨r1, r2, s2, k1, k2, k3⟩ := hx (j + 1) y (by simpa using hy) ρ st hp
      exact ⟨r1, r2, s2, k1, k2, by rw [q]; exact k3⟩) ρ2 st2 h2
    refine ⟨ρ3, st3, (loop_nx (hc n ρ st h) e1 e2).trans e3, ?_⟩
    have q : n + (x :: xs).length = n + 1 + xs.length := by simp; omega
    rw [q]
    exact h3
theorem loop_rng {chk : Sto → Prop} {t : TgD} {g : DS} {f : Nat → D} (P : Nat → Ev → Sto → Prop) (hc : ∀ j ρ st, P j ρ st → chk st) (n : Nat) (step : ∀ j, j < n → ∀ ρ st, P j ρ st → ∃ ρ1 ρ2 st2, t (f j) ρ = some ρ1 ∧ g ρ1 st = .nx ρ2 st2 ∧ P (j + 1) ρ2 st2) (ρ : Ev) (st : Sto) (h : P 0 ρ st) :
    ∃ ρ2 st2, loopD chk t g ((List.range n).map f) ρ st = .nx ρ2 st2 ∧ P n ρ2 st2 := by
  obtain ⟨ρ2, st2, e, h2⟩ := loop_off P hc ((List.range n).map f) 0 (fun j x hx ρ st hp => by
    rw [Nat.zero_add] at hp ⊢
    have hj : j < n := by
      have := (List.getElem?_eq_some_iff.mp hx).1
      simpa using this
    rw [List.getElem?_map, List.getElem?_range hj] at hx
    simp only [Option.map_some, Option.some.injEq] at hx
    rw [← hx]
    exact step j hj ρ st hp) ρ st h
  refine ⟨ρ2, st2, e, ?_⟩
  simpa using h2
structure BD (cv : Nat → Addr) (st : Sto) (b i u : Nat) (m : Int) (rows : List Row) (s : Nat) (ds : List D) : Prop where
  bk : BookAt cv st b i m rows s
  ub : u ≠ b
  ui : u ≠ i
  du : st[u]? = some (.lst ds)
section
variable {cv : Nat → Addr} {st st' : Sto} {b i i' u : Nat} {m : Int} {rows rows' : List Row} {s s' : Nat} {ds : List D}
theorem BD.step (X : BD cv st b i u m rows s ds) (C : Chg st st' b i i') (B : BookAt cv st' b i' m rows' s') : BD cv st' b i' u m rows' s' ds := by
  refine ⟨B, X.ub, ?_, C.fr _ _ X.du X.ub X.ui⟩
  have hu : u < st.length := (List.getElem?_eq_some_iff.mp X.du).1
  rcases C.nw with h | h
  · rw [h]; exact X.ui
  · omega
end
theorem ixN_m1 {n : Nat} (h : 0 < n) : ixN n (-1) = some (n - 1) := by
  unfold ixN
  rw [if_neg (by omega), if_pos (by omega)]
  congr 1
  omega
noncomputable abbrev R0 : Row := ([], 0)
theorem seq_go {g g' : DS} {ρ ρ' : Ev} {st st' : Sto} (h : g ρ st = .nx ρ' st') (h2 : ∃ st2, g' ρ' st' = .rt (.bl true) st2) : ∃ st2, sSeq g g' ρ st = .rt (.bl true) st2 := by
  obtain ⟨st2, e⟩ := h2
  exact ⟨st2, (seq_nx h).trans e⟩
theorem sif_no {t : DT} {g : DS} {ρ : Ev} {st st' : Sto} (h : t ρ st = .ok false st') : sIf t g sNext ρ st = .nx ρ st' := by simp [h]
theorem sif_t {t : DT} {g g' : DS} {ρ : Ev} {st st' : Sto} (h : t ρ st = .ok true st') : sIf t g g' ρ st = g ρ st' := by simp [h]
theorem sif_f {t : DT} {g g' : DS} {ρ : Ev} {st st' : Sto} (h : t ρ st = .ok false st') : sIf t g g' ρ st = g' ρ st' := by simp [h]
theorem ne_same {a : D} (h : nice depth a = true) (st : Sto) : neD a a st = .ok (.bl false) st := by
  rw [neD_nice h h]
  simp
theorem tst_ne {f f' : DE} {ρ : Ev} {st st1 st2 : Sto} {a : D} (h : nice depth a = true) (h1 : f ρ st = .ok a st1) (h2 : f' ρ st1 = .ok a st2) : dB (dBin neD f f') ρ st = .ok false st2 := by
  simp [h1, h2, ne_same h]
theorem tst_or {t t' : DT} {ρ : Ev} {st st1 st2 : Sto} (h : t ρ st = .ok false st1) (h' : t' ρ st1 = .ok false st2) : dOr t t' ρ st = .ok false st2 := by simp [h, h']
noncomputable abbrev PStep := Str × List Str × List Str
noncomputable def psD (s : PStep) : D := .tup [.str s.1, pl s.2.1, pl s.2.2]
noncomputable abbrev Sh := List (Str × List Str)
noncomputable def shD (x : Str × List Str) : D × D := (.str x.1, pl x.2)
noncomputable def valS : Sh → Str → Option (List Str)
  | [], _ => none
  | x :: r, n => if x.1 = n then some x.2 else valS r n
noncomputable def putS (sh : Sh) (n : Str) (p : List Str) : Sh := if (valS sh n).isSome = true then sh.map (fun x => if x.1 = n then (x.1, p) else x) else sh ++ [(n, p)]
theorem key_str (n m : Str) : (keyD (.str n) = keyD (.str m)) ↔ n = m := by
  simp [keyD]
theorem valS_D (n : Str) : ∀ sh : Sh, valD keyD (sh.map shD) (.str n) = (valS sh n).map pl
  | [] => rfl
  | x :: r => by
    rw [List.map_cons, valD, valS]
    by_cases e : x.1 = n
    · rw [if_pos (show keyD (shD x).1 = keyD (.str n) from (key_str _ _).mpr e), if_pos e]
      rfl
    · rw [if_neg (show ¬ keyD (shD x).1 = keyD (.str n) from fun h => e ((key_str _ _).mp h)), if_neg e]
      exact valS_D n r
theorem putS_D (sh : Sh) (n : Str) (p : List Str) : putD keyD (sh.map shD) (.str n) (pl p) = (putS sh n p).map shD := by
  unfold putD putS
  rw [valD_has, valS_D]
  cases h : valS sh n with
  | none => simp [shD]
  | some q =>
    simp only [Option.map_some, Option.isSome_some, if_true, List.map_map]
    refine List.map_congr_left fun x _ => ?_
    by_cases e : x.1 = n
    · have e' : keyD (shD x).1 = keyD (.str n) := (key_str _ _).mpr e
      simp [e, e']
      show ((D.str x.1 : D), pl p) = (.str n, pl p)
      rw [e]
    · have e' : ¬ keyD (shD x).1 = keyD (.str n) := fun h => e ((key_str _ _).mp h)
      simp [e, e']
theorem valS_map (n m : Str) (p : List Str) : ∀ sh : Sh, valS (sh.map fun x => if x.1 = n then (x.1, p) else x) m = (valS sh m).map fun y => if m = n then p else y
  | [] => rfl
  | x :: r => by
    rw [List.map_cons, valS, valS]
    by_cases e : x.1 = n
    · rw [if_pos e]
      by_cases e2 : x.1 = m
      · rw [if_pos e2, if_pos e2, Option.map_some, if_pos (e2.symm.trans e)]
      · rw [if_neg e2, if_neg e2]; exact valS_map n m p r
    · rw [if_neg e]
      by_cases e2 : x.1 = m
      · rw [if_pos e2, if_pos e2, Option.map_some, if_neg (fun h => e (e2.trans h))]
      · rw [if_neg e2, if_neg e2]; exact valS_map n m p r
theorem valS_snoc (n m : Str) (p : List Str) : ∀ sh : Sh, valS sh n = none → valS (sh ++ [(n, p)]) m = if m = n then some p else valS sh m
  | [], _ => by
    show (if n = m then some p else none) = _
    by_cases e : n = m
    · rw [if_pos e, if_pos e.symm]
    · rw [if_neg e, if_neg (Ne.symm e)]; rfl
  | x :: r, h => by
    rw [valS] at h
    by_cases e : x.1 = n
    · rw [if_pos e] at h; cases h
    · rw [if_neg e] at h
      rw [List.cons_append, valS, valS, valS_snoc n m p r h]
      by_cases e2 : x.1 = m
      · rw [if_pos e2, if_pos e2, if_neg (fun z => e (e2.trans z))]
      · rw [if_neg e2, if_neg e2]
theorem valS_put (sh : Sh) (n m : Str) (p : List Str) : valS (putS sh n p) m = if m = n then some p else valS sh m := by
  unfold putS
  cases h : valS sh n with
  | none => simp only [Option.isSome_none, Bool.false_eq_true, if_false]; exact valS_snoc n m p sh h
  | some q =>
    simp only [Option.isSome_some, if_true]
    rw [valS_map]
    by_cases e : m = n
    · rw [if_pos e, e, h, Option.map_some, if_pos rfl]
    · rw [if_neg e]
      cases valS sh m with
      | none => rfl
      | some y => rw [Option.map_some, if_neg e]
theorem valS_put_same (sh : Sh) (n : Str) (p : List Str) : valS (putS sh n p) n = some p := by rw [valS_put, if_pos rfl]
theorem putS_len (sh : Sh) (n : Str) (p : List Str) : (putS sh n p).length ≤ sh.length + 1 := by
  unfold putS
  split <;> simp
theorem putS_len' {sh : Sh} {n : Str} {q : List Str} (p : List Str) (h : valS sh n = some q) : (putS sh n p).length = sh.length := by
  unfold putS
  simp [h]
noncomputable def pn (d i : Nat) (k : Int) : List (Str × D) := [("shown", .res d), ("row", .res i), ("made", .int k)]
theorem pn_shown (d i : Nat) (k : Int) : (pn d i k).lookup ("shown" : Str) = some (.res d) := rfl
theorem pn_row (d i : Nat) (k : Int) : (pn d i k).lookup ("row" : Str) = some (.res i) := rfl
theorem pn_made (d i : Nat) (k : Int) : (pn d i k).lookup ("made" : Str) = some (.int k) := rfl
theorem pn_add (d i : Nat) (k : Int) : (pn d i k).lookup ("add" : Str) = none := rfl
theorem pn_place (d i : Nat) (k : Int) : (pn d i k).lookup ("place" : Str) = none := rfl
theorem pn_visit (d i : Nat) (k : Int) : (pn d i k).lookup ("visit" : Str) = none := rfl
theorem pn_back (d i : Nat) (k : Int) : (pn d i k).lookup ("back" : Str) = none := rfl
theorem pn_forth (d i : Nat) (k : Int) : (pn d i k).lookup ("forth" : Str) = none := rfl
theorem pn_steps (d i : Nat) (k : Int) : (pn d i k).lookup ("steps" : Str) = none := rfl
theorem pn_done (d i : Nat) (k : Int) : (pn d i k).lookup ("done" : Str) = none := rfl
theorem pn_seen (d i : Nat) (k : Int) : (pn d i k).lookup ("seen" : Str) = none := rfl
theorem pn_check (d i : Nat) (k : Int) : (pn d i k).lookup ("check_name" : Str) = none := rfl
theorem pn_names (d i : Nat) (k : Int) : (pn d i k).lookup ("names" : Str) = none := rfl
theorem pn_close (d i : Nat) (k : Int) : (pn d i k).lookup ("close" : Str) = none := rfl
theorem pn_back_in (d i : Nat) (k : Int) : (pn d i k).lookup ("back_in" : Str) = none := rfl
theorem pn_put_row (d i j : Nat) (k : Int) : putFD ("row" : Str) (.res j) (pn d i k) = pn d j k := rfl
theorem pn_put_made (d i : Nat) (k l : Int) : putFD ("made" : Str) (.int l) (pn d i k) = pn d i l := rfl
theorem pn_len (d i : Nat) (k : Int) : (pn d i k).length < 900 := by show 3 < 900; decide
structure PanesAt (cv : Nat → Addr) (st : Sto) (b d i : Nat) (sh : Sh) (row : List PStep) (k : Nat) : Prop where
  ob : st[b]? = some (.ins (cv 3) (pn d i k))
  dc : st[d]? = some (.dct (sh.map shD))
  rw : st[i]? = some (.lst (row.map psD))
  le : k ≤ row.length
  rl : row.length ≤ 100
  sl : sh.length ≤ 100
structure ChgP (st st' : Sto) (b d i i' : Nat) : Prop where
  fr : ∀ j x, st[j]? = some x → j ≠ b → j ≠ d → st'[j]? = some x
  nw : i' = i ∨ st.length ≤ i'
  le : st.length ≤ st'.length
theorem ChgP.refl (st : Sto) (b d i : Nat) : ChgP st st b d i i := ⟨fun _ _ h _ _ => h, .inl rfl, Nat.le_refl _⟩
theorem ChgP.trans {st st1 st2 : Sto} {b d i i1 i2 : Nat} (x : ChgP st st1 b d i i1) (y : ChgP st1 st2 b d i1 i2) : ChgP st st2 b d i i2 := by
  have h1 := x.le
  have h2 := y.le
  refine ⟨fun j z hz hb hd => y.fr j z (x.fr j z hz hb hd) hb hd, ?_, by omega⟩
  rcases y.nw with e | e
  · rw [e]; exact x.nw
  · exact .inr (by omega)
section
variable {cv : Nat → Addr} {st : Sto} {b d i : Nat} {sh : Sh} {row : List PStep} {k : Nat}
theorem PanesAt.bd (B : PanesAt cv st b d i sh row k) : b ≠ d := by
  intro e
  have h1 := B.ob
  rw [e, B.dc] at h1
  cases h1
theorem PanesAt.bi (B : PanesAt cv st b d i sh row k) : b ≠ i := by
  intro e
  have h1 := B.ob
  rw [e, B.rw] at h1
  cases h1
theorem PanesAt.di (B : PanesAt cv st b d i sh row k) : d ≠ i := by
  intro e
  have h1 := B.dc
  rw [e, B.rw] at h1
  cases h1
theorem PanesAt.ins (B : PanesAt cv st b d i sh row k) : insAt (cv 3) st (.res b) = some (b, pn d i k) := by
  simp [insAt, B.ob]
theorem PanesAt.items (B : PanesAt cv st b d i sh row k) : itemsOf st (.res i) = some (row.map psD) := getL B.rw
theorem PanesAt.look (B : PanesAt cv st b d i sh row k) (n : Str) : dAt st (.res d) (.str n) = some ((valS sh n).map pl) := by
  simp [dAt, B.dc, keyD, valS_D]
theorem PanesAt.put (B : PanesAt cv st b d i sh row k) (n : Str) (p : List Str) : dPutAt st (.res d) (.str n) (pl p) = some (st.set d (.dct ((putS sh n p).map shD))) := by
  have h : sh.length < small := by have := B.sl; exact Nat.lt_of_le_of_lt this (by decide)
  simp [dPutAt, B.dc, keyD, putS_D, h]
theorem PanesAt.setD (B : PanesAt cv st b d i sh row k) {sh' : Sh} (hl : sh'.length ≤ 100) : PanesAt cv (st.set d (.dct (sh'.map shD))) b d i sh' row k := by
  have hd : d < st.length := (List.getElem?_eq_some_iff.mp B.dc).1
  exact ⟨by rw [List.getElem?_set_ne (Ne.symm B.bd)]; exact B.ob, List.getElem?_set_self hd, by rw [List.getElem?_set_ne B.di]; exact B.rw, B.le, B.rl, hl⟩
theorem PanesAt.setK (B : PanesAt cv st b d i sh row k) {j : Nat} (hj : j ≤ row.length) : PanesAt cv (st.set b (.ins (cv 3) (pn d i j))) b d i sh row j := by
  have hb : b < st.length := (List.getElem?_eq_some_iff.mp B.ob).1
  exact ⟨List.getElem?_set_self hb, by rw [List.getElem?_set_ne B.bd]; exact B.dc, by rw [List.getElem?_set_ne B.bi]; exact B.rw, hj, B.rl, B.sl⟩
theorem PanesAt.check (B : PanesAt cv st b d i sh row k) {n : Str} {p : List Str} (h : valS sh n = some p) : FzPanes_check_name cv [.res b, .str n] st = .ok .non st := by
  have e1 := B.look n
  rw [h] at e1
  unfold FzPanes_check_name gzPanes_check_name
  simp [z_fld, B.ins, pn_shown, notInDd, e1]
theorem PanesAt.place (B : PanesAt cv st b d i sh row k) {n : Str} {p : List Str} (h : valS sh n = some p) : FzPanes_place cv [.res b, .str n] st = .ok (pl p) st := by
  have e1 := B.look n
  rw [h] at e1
  have e2 := B.check h
  unfold FzPanes_place gzPanes_place
  simp [z_meth, z_fld, B.ins, pn_shown, pn_check, z_getDd, e1, e2]
theorem chgP_d (st : Sto) (b d i : Nat) (x : S) : ChgP st (st.set d x) b d i i := ⟨fun j y h _ h1 => by rw [List.getElem?_set_ne (Ne.symm h1)]; exact h, .inl rfl, by simp⟩
theorem chgP_b (st : Sto) (b d i : Nat) (x : S) : ChgP st (st.set b x) b d i i := ⟨fun j y h h1 _ => by rw [List.getElem?_set_ne (Ne.symm h1)]; exact h, .inl rfl, by simp⟩
theorem PanesAt.add (B : PanesAt cv st b d i sh row k) {n : Str} (h : valS sh n = none) (hl : sh.length < 100) (p : List Str) : ∃ st', FzPanes_add cv [.res b, .str n, pl p] st = .ok .non st' ∧ PanesAt cv st' b d i (putS sh n p) row k ∧ ChgP st st' b d i i := by
  have e1 := B.look n
  rw [h] at e1
  have e2 := B.put n p
  refine ⟨_, ?_, B.setD (sh' := putS sh n p) (by have := putS_len sh n p; omega), chgP_d _ _ _ _ _⟩
  unfold FzPanes_add gzPanes_add
  simp [z_fld, B.ins, pn_shown, inDd, e1, z_sPutD, e2]
theorem PanesAt.done (B : PanesAt cv st b d i sh row k) : FzPanes_done cv [.res b] st = .ok (.int k) st := by
  unfold FzPanes_done gzPanes_done
  simp [z_fld, B.ins, pn_made]
theorem PanesAt.ix (B : PanesAt cv st b d i sh row k) {z : Int} {j : Nat} {s : PStep} (hk : z = j) (hr : row[j]? = some s) : ixD (.res i) (.int z) st = .ok (psD s) st := by
  subst hk
  have e : L2.atI (row.map psD) (j : Int) = some (psD s) := atI_nat (by rw [List.getElem?_map, hr]; rfl)
  simp [ixD, B.items, e]
theorem ps0 (s : PStep) (st : Sto) : ixD (psD s) (.int 0) st = .ok (.str s.1) st := rfl
theorem ps1 (s : PStep) (st : Sto) : ixD (psD s) (.int 1) st = .ok (pl s.2.1) st := rfl
theorem ps2 (s : PStep) (st : Sto) : ixD (psD s) (.int 2) st = .ok (pl s.2.2) st := rfl
theorem PanesAt.len (B : PanesAt cv st b d i sh row k) : lenD [.res i] st = .ok (.int row.length) st := by
  have := len_res B.rw
  rw [List.length_map] at this
  exact this
end
theorem PanesAt.app {cv : Nat → Addr} {st : Sto} {b d i : Nat} {sh : Sh} {row : List PStep} {k : Nat} (B : PanesAt cv st b d i sh row k) (t : Sto) : PanesAt cv (st ++ t) b d i sh row k :=
  ⟨by rw [List.getElem?_append_left (List.getElem?_eq_some_iff.mp B.ob).1]; exact B.ob, by rw [List.getElem?_append_left (List.getElem?_eq_some_iff.mp B.dc).1]; exact B.dc,
   by rw [List.getElem?_append_left (List.getElem?_eq_some_iff.mp B.rw).1]; exact B.rw, B.le, B.rl, B.sl⟩
theorem chgP_app (st t : Sto) (b d i i' : Nat) (h : i' = i ∨ st.length ≤ i') : ChgP st (st ++ t) b d i i' :=
  ⟨fun j x hx _ _ => by rw [List.getElem?_append_left (List.getElem?_eq_some_iff.mp hx).1]; exact hx, h, by simp⟩
theorem PanesAt.visit {cv : Nat → Addr} {st : Sto} {b d i : Nat} {sh : Sh} {row : List PStep} {k : Nat} (B : PanesAt cv st b d i sh row k) {n : Str} {q : List Str} (h : valS sh n = some q) (hk : k < 100) (p : List Str) :
    ∃ st' i', FzPanes_visit cv [.res b, .str n, pl p] st = .ok .non st' ∧ PanesAt cv st' b d i' (putS sh n p) (row.take k ++ [(n, q, p)]) (k + 1) ∧ ChgP st st' b d i i' := by
  have hb : b < st.length := (List.getElem?_eq_some_iff.mp B.ob).1
  have hd : d < st.length := (List.getElem?_eq_some_iff.mp B.dc).1
  have hle := B.le
  obtain ⟨T, hT⟩ : ∃ T, T = (row.take k).map psD := ⟨_, rfl⟩
  obtain ⟨T2, hT2⟩ : ∃ T2, T2 = (row.take k ++ [(n, q, p)]).map psD := ⟨_, rfl⟩
  have e0 := B.place h
  have e1 : cutF (.res i) none (some (k : Int)) st = .ok T st := by
    rw [hT]
    simp only [cutF, seqL, B.rw, cutL_to, List.map_take]
  have e2 : catL (.lst T) (.lst [psD (n, q, p)]) st = .ok T2 st := by
    have hs : T.length + [psD (n, q, p)].length ≤ small := by
      rw [hT, List.length_map, List.length_take]
      exact small_ge (by simp; omega)
    simp only [catL, ownL, if_pos hs]
    rw [hT2, List.map_append, ← hT]
    rfl
  have q3 : (3 : Nat) ≤ small := by decide
  have q1 : (1 : Nat) ≤ small := by decide
  have et : D.tup [.str n, pl q, pl p] = psD (n, q, p) := rfl
  have B1 := B.app [S.lst T2]
  have len1 : (row.take k ++ [(n, q, p)]).length = k + 1 := by simp; omega
  have B2 : PanesAt cv ((st ++ [S.lst T2]).set b (.ins (cv 3) (pn d st.length k))) b d st.length sh (row.take k ++ [(n, q, p)]) k := by
    refine ⟨List.getElem?_set_self (by simp; omega), ?_, ?_, by omega, by omega, B.sl⟩
    · rw [List.getElem?_set_ne B.bd]; exact B1.dc
    · rw [List.getElem?_set_ne (by omega), ← hT2]; exact at_last _ _
  have B3 := B2.setK (j := k + 1) (by omega)
  have B4 := B3.setD (sh' := putS sh n p) (by rw [putS_len' p h]; exact B.sl)
  have e5 := B3.put n p
  refine ⟨_, _, ?_, B4, ?_⟩
  · refine (show FzPanes_visit cv [.res b, .str n, pl p] st = _ from ?_)
    unfold FzPanes_visit gzPanes_visit
    have i2 := B2.ins
    have i3 := B3.ins
    have ek : ((k : Int) + 1) = ((k + 1 : Nat) : Int) := by omega
    rw [← ek] at i3 e5
    simp [z_meth, z_fld, z_sFldF, z_sFldAdd, z_sPutD, B.ins, B1.ins, pn_place, pn_row, pn_made, pn_shown, e0, e1, e2, q3, q1, et, pn_len, pn_put_row, pn_put_made, i2, i3, e5, -List.set_set]
  · exact (chgP_app st [S.lst T2] b d i st.length (.inr (Nat.le_refl _))).trans ((chgP_b _ b d _ _).trans ((chgP_b _ b d _ _).trans (chgP_d _ b d _ _)))
section
variable {cv : Nat → Addr} {st : Sto} {b d i : Nat} {sh : Sh} {row : List PStep} {k : Nat}
theorem PanesAt.back (B : PanesAt cv st b d i sh row k) {j : Nat} {s : PStep} (hj : k = j + 1) (hs : row[j]? = some s) (hl : (putS sh s.1 s.2.1).length ≤ 100) :
    ∃ st', FzPanes_back cv [.res b] st = .ok (.str s.1) st' ∧ PanesAt cv st' b d i (putS sh s.1 s.2.1) row j ∧ ChgP st st' b d i i := by
  have hle := B.le
  have B1 := B.setK (j := j) (by omega)
  have e1 := B1.ix (z := (j : Int)) rfl hs
  have e2 := B1.put s.1 s.2.1
  have B2 := B1.setD hl
  refine ⟨_, ?_, B2, (chgP_b _ b d _ _).trans (chgP_d _ b d _ _)⟩
  have i1 := B1.ins
  have ek : ((k : Int) - 1) = (j : Int) := by omega
  have e0 : eqD (.int k) (.int 0) st = .ok (.bl false) st := by
    rw [eqD_nice rfl rfl]
    have : ¬ (D.int (k : Int) = D.int 0) := by rw [D.int.injEq]; omega
    simp [this]
  unfold FzPanes_back gzPanes_back
  simp [z_fld, z_sFldSub, B.ins, pn_made, e0, pn_len, pn_put_made, -List.set_set]
  rw [ek]
  simp [z_fld, i1, pn_row, pn_made, pn_shown, e1, z_sPutD, ps0, ps1, e2, -List.set_set]
theorem PanesAt.back_no (B : PanesAt cv st b d i sh row k) (hk : k = 0) : FzPanes_back cv [.res b] st = .exc (cv 11) st := by
  subst hk
  have q1 : (1 : Nat) ≤ small := by decide
  have e0 : eqD (.int ((0 : Nat) : Int)) (.int 0) st = .ok (.bl true) st := by
    rw [eqD_nice rfl rfl]
    simp
  have i0 := B.ins
  unfold FzPanes_back gzPanes_back
  simp only [Int.natCast_zero] at i0 e0
  simp [z_fld, i0, pn_made, e0, q1]
theorem PanesAt.forth (B : PanesAt cv st b d i sh row k) {s : PStep} (hs : row[k]? = some s) (hl : (putS sh s.1 s.2.2).length ≤ 100) :
    ∃ st', FzPanes_forth cv [.res b] st = .ok (.str s.1) st' ∧ PanesAt cv st' b d i (putS sh s.1 s.2.2) row (k + 1) ∧ ChgP st st' b d i i := by
  have hk : k < row.length := (List.getElem?_eq_some_iff.mp hs).1
  have B1 := B.setK (j := k + 1) (by omega)
  have e1 := B.ix (z := (k : Int)) rfl hs
  have e2 := B1.put s.1 s.2.2
  have B2 := B1.setD hl
  refine ⟨_, ?_, B2, (chgP_b _ b d _ _).trans (chgP_d _ b d _ _)⟩
  have i1 := B1.ins
  have ek : ((k : Int) + 1) = ((k + 1 : Nat) : Int) := by omega
  have e0 : eqD (.int k) (.int row.length) st = .ok (.bl false) st := by
    rw [eqD_nice rfl rfl]
    have : ¬ (D.int (k : Int) = D.int row.length) := by rw [D.int.injEq]; omega
    simp [this]
  unfold FzPanes_forth gzPanes_forth
  rw [← ek] at i1 e2
  simp [z_fld, z_sFldAdd, B.ins, B.len, pn_made, pn_row, e0, e1, pn_len, pn_put_made, i1, pn_shown, z_sPutD, ps0, ps2, e2, -List.set_set]
theorem PanesAt.forth_no (B : PanesAt cv st b d i sh row k) (hk : k = row.length) : FzPanes_forth cv [.res b] st = .exc (cv 11) st := by
  have q1 : (1 : Nat) ≤ small := by decide
  have e0 : eqD (.int k) (.int row.length) st = .ok (.bl true) st := by
    rw [eqD_nice rfl rfl, hk]
    simp
  unfold FzPanes_forth gzPanes_forth
  simp [z_fld, B.ins, B.len, pn_made, pn_row, e0, q1]
end
theorem compD_fm {α : Type} (g : α → D) (p : α → Bool) (h : α → D) {chk : Sto → Prop} {t : TgD} {cond : DT} {fe : DE} {st : Sto} (IE : Ev → Prop) (hc : chk st) : ∀ (xs : List α) (ρ : Ev) (acc : List D), IE ρ → acc.length + xs.length ≤ small →
    (∀ x ∈ xs, ∀ ρ, IE ρ → ∃ ρ1, t (g x) ρ = some ρ1 ∧ IE ρ1 ∧ cond ρ1 st = .ok (p x) st ∧ (p x = true → fe ρ1 st = .ok (h x) st)) → compD chk t cond fe (xs.map g) ρ st acc = .ok (acc ++ (xs.filter p).map h) st
  | [], ρ, acc, _, _, _ => by simp [compD, hc]
  | x :: xs, ρ, acc, hI, hl, hx => by
    obtain ⟨ρ1, e1, h1, e2, e3⟩ := hx x List.mem_cons_self ρ hI
    rw [List.map_cons]
    unfold compD
    rw [if_pos ⟨hc, by simp at hl; omega⟩, e1]
    dsimp only
    rw [e2]
    cases hp : p x with
    | true =>
      dsimp only
      rw [e3 hp]
      dsimp only
      rw [compD_fm g p h IE hc xs ρ1 (acc ++ [h x]) h1 (by simp at hl ⊢; omega) fun y hy => hx y (List.mem_cons_of_mem _ hy)]
      simp [hp]
    | false =>
      dsimp only
      rw [compD_fm g p h IE hc xs ρ1 acc h1 (by simp at hl ⊢; omega) fun y hy => hx y (List.mem_cons_of_mem _ hy)]
      simp [hp]
theorem compD_mm {α : Type} (g : α → D) (h : α → D) {chk : Sto → Prop} {t : TgD} {fe : DE} {st : Sto} (IE : Ev → Prop) (hc : chk st) (xs : List α) (ρ : Ev) (acc : List D) (hI : IE ρ) (hl : acc.length + xs.length ≤ small)
    (hx : ∀ x ∈ xs, ∀ ρ, IE ρ → ∃ ρ1, t (g x) ρ = some ρ1 ∧ IE ρ1 ∧ fe ρ1 st = .ok (h x) st) : compD chk t dTrue fe (xs.map g) ρ st acc = .ok (acc ++ xs.map h) st := by
  rw [compD_fm g (fun _ => true) h IE hc xs ρ acc hI hl fun x hm ρ hi => ?_]
  · rw [List.filter_eq_self.mpr fun _ _ => rfl]
  · obtain ⟨ρ1, e1, e2, e3⟩ := hx x hm ρ hi
    exact ⟨ρ1, e1, e2, rfl, fun _ => e3⟩
theorem eqS (x y : Str) (st : Sto) : eqD (.str x) (.str y) st = .ok (.bl (decide (x = y))) st := by
  rw [eqD_nice rfl rfl]
  congr 2
  exact decide_eq_decide.mpr (by rw [D.str.injEq])
theorem neS (x y : Str) (st : Sto) : neD (.str x) (.str y) st = .ok (.bl (!decide (x = y))) st := by
  rw [neD_nice rfl rfl]
  congr 3
  exact decide_eq_decide.mpr (by rw [D.str.injEq])
noncomputable def ownS (row : List PStep) (n : Str) : List PStep := row.filter fun s => decide (s.1 = n)
noncomputable def seenV (row : List PStep) (n : Str) (p : List Str) : List (List Str) := match ownS row n with
  | [] => [p]
  | s :: r => s.2.1 :: (s :: r).map fun x => x.2.2
theorem PanesAt.seen {cv : Nat → Addr} {st : Sto} {b d i : Nat} {sh : Sh} {row : List PStep} {k : Nat} (B : PanesAt cv st b d i sh row k) {n : Str} {p : List Str} (h : valS sh n = some p) :
    FzPanes_seen cv [.res b, .str n] st = .ok (.lst ((seenV row n p).map pl)) st := by
  have e0 := B.place h
  have e1 : compD (fun st => itemsOf st (.res i) = some (row.map psD)) (tgName 0) CzPanes_seen_1 EzPanes_seen_1 (row.map psD) [none, some (.str n)] st [] = .ok ((ownS row n).map psD) st := by
    rw [compD_fm psD (fun s => decide (s.1 = n)) psD (fun ρ => ∃ a, ρ = [a, some (.str n)]) B.items row _ [] ⟨_, rfl⟩ (by have := B.rl; simp; exact small_ge (by omega))]
    · rfl
    · rintro x hx ρ ⟨a, rfl⟩
      refine ⟨_, rfl, ⟨_, rfl⟩, ?_, fun _ => ?_⟩
      · unfold CzPanes_seen_1
        simp [ps0, eqS]
      · unfold EzPanes_seen_1
        rfl
  have hol : (ownS row n).length ≤ 100 := Nat.le_trans (List.length_filter_le _ _) B.rl
  have q1 : (1 : Nat) ≤ small := by decide
  unfold FzPanes_seen gzPanes_seen
  unfold seenV
  cases ho : ownS row n with
  | nil =>
    rw [ho] at e1
    have e2 : lenD [.lst []] st = .ok (.int 0) st := rfl
    have e3 : eqD (.int 0) (.int 0) st = .ok (.bl true) st := by rw [eqD_nice rfl rfl]; simp
    simp only [List.map_nil] at e1
    simp [z_meth, z_fld, B.ins, pn_place, pn_row, e0, B.items, capEv, e1, e2, e3, q1]
  | cons s r =>
    rw [ho] at e1 hol
    obtain ⟨T, hT⟩ : ∃ T, T = (s :: r).map psD := ⟨_, rfl⟩
    have e2 : lenD [.lst T] st = .ok (.int (r.length + 1 : Nat)) st := by
      show Out.ok (D.int (T.length : Nat)) st = _
      rw [hT]; simp
    have e3 : eqD (.int (r.length + 1 : Nat)) (.int 0) st = .ok (.bl false) st := by
      rw [eqD_nice rfl rfl]
      have : ¬ (D.int ((r.length + 1 : Nat) : Int) = D.int 0) := by rw [D.int.injEq]; omega
      simp only [this, decide_false]
    have e4 : ixD (.lst T) (.int 0) st = .ok (psD s) st := by
      have hx : L2.atI T ((0 : Nat) : Int) = some (psD s) := atI_nat (by rw [hT]; rfl)
      have hi0 : itemsOf st (.lst T) = some T := rfl
      simp only [Int.natCast_zero] at hx
      simp [ixD, hi0, hx]
    have e5 : compD (fun st => itemsOf st (.lst T) = some T) (tgName 0) dTrue EzPanes_seen_2 T [none] st [] = .ok ((s :: r).map fun x => pl x.2.2) st := by
      have hc : itemsOf st (.lst T) = some T := rfl
      have := compD_mm (chk := fun st => itemsOf st (.lst T) = some T) (t := tgName 0) (fe := EzPanes_seen_2) psD (fun x : PStep => pl x.2.2) (fun ρ => ∃ a, ρ = [a]) hc (s :: r) [none] [] ⟨_, rfl⟩ (by simp at hol ⊢; exact small_ge (by omega)) ?_
      · rw [← hT] at this; exact this
      · rintro x hx ρ ⟨a, rfl⟩
        refine ⟨_, rfl, ⟨_, rfl⟩, ?_⟩
        unfold EzPanes_seen_2
        simp [ps2]
    obtain ⟨T3, hT3⟩ : ∃ T3, T3 = (s :: r).map fun x : PStep => pl x.2.2 := ⟨_, rfl⟩
    have e6 : catL (.lst [pl s.2.1]) (.lst T3) st = .ok (pl s.2.1 :: T3) st := by
      have hs : [pl s.2.1].length + T3.length ≤ small := by
        rw [hT3, List.length_map]
        simp at hol ⊢
        exact small_ge (by omega)
      simp only [catL, ownL, if_pos hs]
      rfl
    rw [← hT] at e1
    rw [← hT3] at e5
    have hi : itemsOf st (.lst T) = some T := rfl
    have hr : (s.2.1 :: (s :: r).map fun x : PStep => x.2.2).map pl = pl s.2.1 :: T3 := by
      rw [hT3, List.map_cons, List.map_map]; rfl
    rw [hr]
    have ek : ((r.length + 1 : Nat) : Int) = (r.length : Int) + 1 := by omega
    rw [ek] at e2 e3
    simp [z_meth, z_fld, B.ins, pn_place, pn_row, e0, B.items, capEv, e1, e2, e3, e4, ps1, hi, e5, q1, e6]
theorem make_panes {cv : Nat → Addr} (st : Sto) : FzPanes___init__ cv [.res st.length] (st ++ [.ins (cv 3) []]) = .ok .non (st ++ [.ins (cv 3) (pn (st.length + 1) (st.length + 2) 0), .dct [], .lst []]) := by
  have i1 : ∀ fs, insAt (cv 3) (st ++ [.ins (cv 3) fs]) (.res st.length) = some (st.length, fs) := fun fs => by simp [insAt]
  have i2 : ∀ fs x, insAt (cv 3) (st ++ [.ins (cv 3) fs, x]) (.res st.length) = some (st.length, fs) := fun fs x => by simp [insAt]
  have i3 : ∀ fs x y, insAt (cv 3) (st ++ [.ins (cv 3) fs, x, y]) (.res st.length) = some (st.length, fs) := fun fs x y => by simp [insAt]
  have p1 : putFD ("shown" : Str) (.res (st.length + 1)) [] = [(("shown" : Str), D.res (st.length + 1))] := rfl
  have p2 : putFD ("row" : Str) (.res (st.length + 2)) [(("shown" : Str), D.res (st.length + 1))] = [(("shown" : Str), D.res (st.length + 1)), (("row" : Str), D.res (st.length + 2))] := rfl
  have p3 : putFD ("made" : Str) (.int 0) [(("shown" : Str), D.res (st.length + 1)), (("row" : Str), D.res (st.length + 2))] = pn (st.length + 1) (st.length + 2) 0 := rfl
  have q0 : (0 : Nat) ≤ small := by decide
  unfold FzPanes___init__ gzPanes___init__
  simp [z_sFldS, z_sFldF, i1, i2, i3, p1, p2, p3, q0]
theorem panes_new {cv : Nat → Addr} (st : Sto) : PanesAt cv (st ++ [.ins (cv 3) (pn (st.length + 1) (st.length + 2) 0), .dct [], .lst []]) st.length (st.length + 1) (st.length + 2) [] [] 0 :=
  ⟨by simp, by simp, by simp, Nat.le_refl _, Nat.zero_le _, Nat.zero_le _⟩
theorem nice_ps (n : Nat) (s : PStep) : nice (n + 3) (psD s) = true := by
  show nice (n + 2 + 1) (.tup [.str s.1, pl s.2.1, pl s.2.2]) = true
  unfold nice niceL niceL niceL niceL
  rw [nice_pl n s.2.1, nice_pl n s.2.2]
  rfl
theorem nice_pls (a : List (List Str)) : nice depth (.lst (a.map pl)) = true := by
  show nice (49 + 1) _ = true
  unfold nice
  rw [niceL_all]
  intro y hy
  obtain ⟨r, _, rfl⟩ := List.mem_map.mp hy
  exact nice_pl 47 r
theorem nice_L {α : Type} (f : α → D) (h : ∀ x, nice 49 (f x) = true) (L : List α) : nice depth (.lst (L.map f)) = true := by
  show nice (49 + 1) _ = true
  unfold nice
  rw [niceL_all]
  intro y hy
  obtain ⟨x, _, rfl⟩ := List.mem_map.mp hy
  exact h x
theorem rowsAt {R : List PStep} {j : Nat} {z : Int} {s : PStep} (hz : z = j) (hs : R[j]? = some s) (st : Sto) : ixD (.lst (R.map psD)) (.int z) st = .ok (psD s) st := by
  subst hz
  have hx : L2.atI (R.map psD) (j : Int) = some (psD s) := atI_nat (by rw [List.getElem?_map, hs]; rfl)
  have hi : itemsOf st (.lst (R.map psD)) = some (R.map psD) := rfl
  simp only [ixD, hi, hx]
theorem lenL (xs : List D) (st : Sto) : lenD [.lst xs] st = .ok (.int xs.length) st := rfl
theorem ix_last {xs : List D} {v : D} (h : xs.getLast? = some v) (st : Sto) : ixD (.lst xs) (.int (-1)) st = .ok v st := by
  have hl : 0 < xs.length := by
    cases xs with
    | nil => simp at h
    | cons a b => simp
  have hx : L2.atI xs (-1) = some v := by
    unfold L2.atI
    rw [ixN_m1 hl]
    rw [List.getLast?_eq_getElem?] at h
    exact h
  have hi : itemsOf st (.lst xs) = some xs := rfl
  simp [ixD, hi, hx]
theorem cutF_l (T : List D) (lo hi : Option Int) (st : Sto) : cutF (.lst T) lo hi st = .ok (cutL T lo hi) st := rfl
theorem two_ne' {st : Sto} {i j : Nat} {x y : S} (h1 : st[i]? = some x) (h2 : st[j]? = some y) (h : x ≠ y) : i ≠ j := by
  rintro rfl
  rw [h1] at h2
  exact h (Option.some.inj h2)
theorem runX_rt {N n : Nat} {g : DS} {ds : List D} {st st' : Sto} {d : D} (hl : ds.length = n) (h : g (ds.map some ++ List.replicate (N - n) none) st = .rt d st') : runX N n g ds st = .ok d st' := by
  rw [z_runX, if_pos hl, h]
noncomputable def dropS (sh : Sh) (n : Str) : Sh := sh.filter fun x => decide (x.1 ≠ n)
theorem dropS_D (sh : Sh) (n : Str) : dropD keyD (sh.map shD) (.str n) = (dropS sh n).map shD := by
  unfold dropD dropS
  induction sh with
  | nil => rfl
  | cons x r ih =>
    rw [List.map_cons, List.filter_cons, List.filter_cons, ih]
    by_cases e : x.1 = n
    · have e' : keyD (shD x).1 = keyD (.str n) := (key_str _ _).mpr e
      rw [if_neg (by simp [e']), if_neg (by simp [e])]
    · have e' : ¬ keyD (shD x).1 = keyD (.str n) := fun h => e ((key_str _ _).mp h)
      rw [if_pos (by simpa using e'), if_pos (by simpa using e), List.map_cons]
theorem valS_drop_ne {n m : Str} (h : m ≠ n) : ∀ sh : Sh, valS (dropS sh n) m = valS sh m
  | [] => rfl
  | x :: r => by
    have ih := valS_drop_ne h r
    unfold dropS at ih ⊢
    rw [List.filter_cons]
    by_cases e : x.1 = n
    · rw [if_neg (by simp [e]), ih, valS, if_neg (fun z => h (z.symm.trans e))]
    · rw [if_pos (by simpa using e), valS, valS, ih]
noncomputable def othS (R : List PStep) (n : Str) : List PStep := R.filter fun s => decide (s.1 ≠ n)
section
variable {cv : Nat → Addr} {st : Sto} {b d i : Nat} {sh : Sh} {row : List PStep} {k : Nat}
theorem PanesAt.names (B : PanesAt cv st b d i sh row k) (hs : sh.length < 64) : FzPanes_names cv [.res b] st = .ok (.lst ((SO.srtS (sh.map (·.1))).map D.str)) st := by
  have e1 : sortDF [.res d] st = .ok ((SO.srtS (sh.map (·.1))).map D.str) st := by
    have e0 : (sh.map shD).map (·.1) = (sh.map (·.1)).map D.str := by
      rw [List.map_map, List.map_map]; rfl
    unfold sortDF
    simp only [B.dc, e0, strsD_map, List.length_map, if_pos hs]
  unfold FzPanes_names gzPanes_names
  simp [z_fld, B.ins, pn_shown, e1]
theorem others_comp {L : List PStep} (hL : L.length ≤ 100) (n : Str) {st : Sto} {dd : D} (hi : itemsOf st dd = some (L.map psD)) : compD (fun st => itemsOf st dd = some (L.map psD)) (tgName 0) Czsteps_of_others_1 Ezsteps_of_others_1 (L.map psD) [none, some (.str n)] st [] = .ok ((othS L n).map psD) st := by
  rw [compD_fm (chk := fun st => itemsOf st dd = some (L.map psD)) psD (fun s => decide (s.1 ≠ n)) psD (fun ρ => ∃ a, ρ = [a, some (.str n)]) hi L _ [] ⟨_, rfl⟩ (by simp; exact small_ge (by omega))]
  · rfl
  · rintro x hx ρ ⟨a, rfl⟩
    refine ⟨_, rfl, ⟨_, rfl⟩, ?_, fun _ => ?_⟩
    · unfold Czsteps_of_others_1
      simp [ps0, neS]
    · unfold Ezsteps_of_others_1
      rfl
theorem others_eq {L : List PStep} (hL : L.length ≤ 100) (n : Str) {st : Sto} {dd : D} (hi : itemsOf st dd = some (L.map psD)) : Fzsteps_of_others [dd, .str n] st = .ok (.res st.length) (st ++ [.lst ((othS L n).map psD)]) := by
  have e := others_comp hL n hi
  unfold Fzsteps_of_others gzsteps_of_others sRetF
  simp [hi, capEv, e]
theorem PanesAt.popd (B : PanesAt cv st b d i sh row k) {n : Str} {q : List Str} (h : valS sh n = some q) {fo fi : DE} {ρ : Ev} (h1 : fo ρ st = .ok (.res d) st) (h2 : fi ρ st = .ok (.str n) st) : dPopD fo fi ρ st = .ok (pl q) (st.set d (.dct ((dropS sh n).map shD))) := by
  have e1 : valD keyD (sh.map shD) (.str n) = some (pl q) := by rw [valS_D, h]; rfl
  have e2 : keyD (.str n) = some (.inr n) := rfl
  simp only [z_dPopD, h1, z_bind_ok, B.dc, h2, e1, e2, dropS_D]
theorem PanesAt.close (B : PanesAt cv st b d i sh row k) {n : Str} {q : List Str} (h : valS sh n = some q) : ∃ st' i', FzPanes_close cv [.res b, .str n] st = .ok (.int ((row.length : Int) - (othS row n).length)) st' ∧
    PanesAt cv st' b d i' (dropS sh n) (othS row n) (othS (row.take k) n).length ∧ ChgP st st' b d i i' := by
  have hb : b < st.length := (List.getElem?_eq_some_iff.mp B.ob).1
  have hd : d < st.length := (List.getElem?_eq_some_iff.mp B.dc).1
  have hrl := B.rl
  have e0 := B.check h
  have hT : cutF (.res i) none (some (k : Int)) st = .ok ((row.take k).map psD) st := by
    simp only [cutF, seqL, B.rw, cutL_to, List.map_take]
  have o1 := others_eq (L := row.take k) (by rw [List.length_take]; omega) n (st := st) (dd := .lst ((row.take k).map psD)) rfl
  obtain ⟨m, hm⟩ : ∃ m, m = (othS (row.take k) n).length := ⟨_, rfl⟩
  obtain ⟨T1, hT1⟩ : ∃ T1, T1 = (othS (row.take k) n).map psD := ⟨_, rfl⟩
  obtain ⟨T2, hT2⟩ : ∃ T2, T2 = (othS row n).map psD := ⟨_, rfl⟩
  rw [← hT1] at o1
  have B1 := B.app [S.lst T1]
  have l1 : lenD [.res st.length] (st ++ [S.lst T1]) = .ok (.int m) (st ++ [S.lst T1]) := by
    rw [len_res (at_last st (S.lst T1)) , hm, hT1, List.length_map]
  have hsub : othS row n = othS (row.take k) n ++ othS (row.drop k) n := by
    unfold othS
    rw [← List.filter_append, List.take_append_drop]
  have hmle : m ≤ (othS row n).length := by rw [hsub, hm, List.length_append]; omega
  have hol : (othS row n).length ≤ row.length := List.length_filter_le _ _
  obtain ⟨st2, hst2⟩ : ∃ st2, st2 = (st ++ [S.lst T1]).set b (.ins (cv 3) (pn d i m)) := ⟨_, rfl⟩
  have ob2 : st2[b]? = some (.ins (cv 3) (pn d i m)) := by rw [hst2]; exact List.getElem?_set_self (by simp; omega)
  have dc2 : st2[d]? = some (.dct (sh.map shD)) := by rw [hst2, List.getElem?_set_ne B.bd]; exact B1.dc
  have rw2 : st2[i]? = some (.lst (row.map psD)) := by rw [hst2, List.getElem?_set_ne B.bi]; exact B1.rw
  have i2 : insAt (cv 3) st2 (.res b) = some (b, pn d i m) := by simp [insAt, ob2]
  have o2 := others_eq (L := row) hrl n (st := st2) (dd := .res i) (getL rw2)
  rw [← hT2] at o2
  have C02 : ChgP st st2 b d i i := by
    rw [hst2]
    exact (chgP_app st [S.lst T1] b d i i (.inl rfl)).trans (chgP_b _ b d i _)
  have hlen2 : st.length ≤ st2.length := C02.le
  have hlen2' : b < st2.length := by omega
  have hd2 : d < st2.length := by omega
  obtain ⟨st3, hst3⟩ : ∃ st3, st3 = (st2 ++ [S.lst T2]).set b (.ins (cv 3) (pn d st2.length m)) := ⟨_, rfl⟩
  have i2' : insAt (cv 3) (st2 ++ [S.lst T2]) (.res b) = some (b, pn d i m) := by
    have : (st2 ++ [S.lst T2])[b]? = some (.ins (cv 3) (pn d i m)) := by rw [List.getElem?_append_left hlen2']; exact ob2
    simp [insAt, this]
  have B3 : PanesAt cv st3 b d st2.length sh (othS row n) m := by
    refine ⟨?_, ?_, ?_, hmle, by omega, B.sl⟩
    · rw [hst3]; exact List.getElem?_set_self (by simp; omega)
    · rw [hst3, List.getElem?_set_ne B.bd, List.getElem?_append_left hd2]; exact dc2
    · rw [hst3, List.getElem?_set_ne (by omega), ← hT2]; exact at_last _ _
  have C03 : ChgP st st3 b d i st2.length := by
    rw [hst3]
    exact C02.trans ((chgP_app st2 [S.lst T2] b d i st2.length (.inr (Nat.le_refl _))).trans (chgP_b _ b d _ _))
  have hdl : (dropS sh n).length ≤ 100 := Nat.le_trans (List.length_filter_le _ _) B.sl
  have B4 := B3.setD hdl
  refine ⟨_, st2.length, ?_, by rw [← hm]; exact B4, C03.trans (chgP_d _ b d _ _)⟩
  have i3 := B3.ins
  have i4 := B4.ins
  have l4 := B4.len
  have l0 := B.len
  unfold FzPanes_close
  refine runX_rt rfl ?_
  show gzPanes_close cv [some (.res b), some (.str n), none] st = _
  unfold gzPanes_close
  refine (seq_nx (st' := st) (ρ' := [some (.res b), some (.str n), none]) ?_).trans ?_
  · simp [z_meth, B.ins, pn_check, e0]
  refine (seq_nx (st' := st) (ρ' := [some (.res b), some (.str n), some (.int row.length)]) ?_).trans ?_
  · simp [z_fld, B.ins, pn_row, l0]
  refine (seq_nx (st' := st2) (ρ' := [some (.res b), some (.str n), some (.int row.length)]) ?_).trans ?_
  · simp only [z_sFldS, z_call, z_cons, z_nil, z_F, z_sl, z_fld, z_var, List.getElem?_cons_zero, List.getElem?_cons_succ, z_bind_ok, B.ins, pn_row, pn_made, z_noPart, z_part, z_asInt, hT, o1, l1, z_to_ok, B1.ins, pn_len, if_true, pn_put_made, hst2]
  refine (seq_nx (st' := st3) (ρ' := [some (.res b), some (.str n), some (.int row.length)]) ?_).trans ?_
  · simp only [z_sFldS, z_call, z_cons, z_nil, z_fld, z_var, List.getElem?_cons_zero, List.getElem?_cons_succ, z_bind_ok, i2, pn_row, o2, z_to_ok, i2', pn_len, if_true, pn_put_row, hst3]
  have hpop := B3.popd h (fo := dFld (cv 3) "shown" (dVar 0)) (fi := dVar 1) (ρ := [some (.res b), some (.str n), some (.int row.length)]) (by simp [z_fld, i3, pn_shown]) rfl
  refine (seq_nx (st' := st3.set d (.dct ((dropS sh n).map shD))) (ρ' := [some (.res b), some (.str n), some (.int row.length)]) ?_).trans ?_
  · rw [z_sExpr, hpop]
    rfl
  · simp [z_fld, i4, pn_row, l4, subD_int]
end
theorem inN_strs (x : Str) (st : Sto) : ∀ ws : List Str, inN st depth (.str x) (ws.map D.str) = some (decide (x ∈ ws))
  | [] => by simp [inN]
  | w :: ws => by
    have h1 : eqN st depth (.str w) (.str x) = some (decide (w = x)) := by
      rw [eqN_nice st depth _ _ rfl rfl]
      congr 1
      exact decide_eq_decide.mpr (by rw [D.str.injEq])
    rw [List.map_cons, inN, h1, inN_strs x st ws]
    by_cases h : w = x
    · subst h
      simp
    · have h' : ¬ x = w := fun z => h z.symm
      simp [h, h']
theorem notIn_strs (x : Str) (ws : List Str) (st : Sto) : notInD (.str x) (.lst (ws.map D.str)) st = .ok (.bl (!decide (x ∈ ws))) st := by
  simp [notInD, itemsOf, seqL, inN_strs]
theorem last_own {R : List PStep} {n : Str} : ∀ k : Nat, k ≤ R.length → ownS (R.take k) n ≠ [] → ∃ l s, l < k ∧ R[l]? = some s ∧ s.1 = n ∧ (∀ j s, l < j → j < k → R[j]? = some s → s.1 ≠ n)
  | 0, _, h => absurd rfl h
  | k + 1, hk, h => by
    have hs : R[k]? = some R[k] := List.getElem?_eq_getElem (by omega)
    by_cases e : R[k].1 = n
    · exact ⟨k, R[k], by omega, hs, e, fun j s h1 h2 => by omega⟩
    · have h0 : ownS (R.take (k + 1)) n = ownS (R.take k) n := by
        unfold ownS
        rw [List.take_succ, hs, List.filter_append]
        simp [e]
      rw [h0] at h
      obtain ⟨l, s, h1, h2, h3, h4⟩ := last_own k (by omega) h
      refine ⟨l, s, by omega, h2, h3, fun j t hj1 hj2 ht => ?_⟩
      by_cases ej : j = k
      · subst ej
        rw [hs] at ht
        cases ht
        exact e
      · exact h4 j t hj1 (by omega) ht
theorem own_tail {R : List PStep} {n : Str} {l : Nat} {s : PStep} (hs : R[l]? = some s) (e : s.1 = n) : ∀ k : Nat, l < k → k ≤ R.length → (∀ j s, l < j → j < k → R[j]? = some s → s.1 ≠ n) → (ownS (R.take k) n).getLast? = some s ∧ ((List.range k).filter fun j => decide ((R.getD j ("", [], [])).1 = n)).getLast? = some l
  | 0, h, _, _ => by omega
  | k + 1, h, hk, hne => by
    have hk' : R[k]? = some R[k] := List.getElem?_eq_getElem (by omega)
    have hD : R.getD k ("", [], []) = R[k] := by rw [List.getD_eq_getElem?_getD, hk']; rfl
    by_cases hl : l = k
    · subst hl
      rw [hk'] at hs
      have hs' := Option.some.inj hs
      constructor
      · unfold ownS
        rw [List.take_succ, hk', List.filter_append]
        simp [hs', e]
      · rw [List.range_succ, List.filter_append]
        have : decide ((R.getD l ("", [], [])).1 = n) = true := by rw [hD, hs']; exact decide_eq_true e
        rw [List.filter_cons, if_pos this]
        simp
    · have hn := hne k R[k] (by omega) (by omega) hk'
      obtain ⟨h1, h2⟩ := own_tail hs e k (by omega) (by omega) (fun j t a b => hne j t a (by omega))
      constructor
      · unfold ownS at h1 ⊢
        rw [List.take_succ, hk', List.filter_append]
        simpa [hn] using h1
      · rw [List.range_succ, List.filter_append]
        have : ¬ decide ((R.getD k ("", [], [])).1 = n) = true := by rw [hD]; simpa using hn
        rw [List.filter_cons, if_neg this]
        simpa using h2
theorem eq_kd {st : Sto} {a b : D} {X : List D} (ha : kd st a = .lst X) (hb : kd st b = .lst X) (hn : ∀ x ∈ X, nice 49 x = true) : eqN st depth a b = some true := by
  show eqN st (49 + 1) a b = _
  unfold eqN
  rw [ha, hb]
  show eqItems (eqN st 49) X X = _
  rw [eqItems_nice X X fun x hx y hy => eqN_nice st 49 x y (hn x hx) (hn y hy)]
  simp
theorem ne_kd {st : Sto} {a b : D} {X : List D} (ha : kd st a = .lst X) (hb : kd st b = .lst X) (hn : ∀ x ∈ X, nice 49 x = true) : neD a b st = .ok (.bl false) st := by
  unfold neD
  rw [eq_kd ha hb hn]
  rfl
theorem ee_kd {st : Sto} {a b : D} {X : List D} (ha : kd st a = .lst X) (hb : kd st b = .lst X) (hn : ∀ x ∈ X, nice 49 x = true) : eqD a b st = .ok (.bl true) st := by
  unfold eqD
  rw [eq_kd ha hb hn]
theorem runX_exc {N n : Nat} {g : DS} {ds : List D} {st st' : Sto} {c : Addr} (hl : ds.length = n) (h : g (ds.map some ++ List.replicate (N - n) none) st = .exc c st') : runX N n g ds st = .exc c st' := by
  rw [z_runX, if_pos hl, h]
theorem seq_exc {g g' : DS} {ρ : Ev} {st st' : Sto} {c : Addr} (h : g ρ st = .exc c st') : sSeq g g' ρ st = .exc c st' := by simp [h]
section
variable {cv : Nat → Addr} {st : Sto} {b d i : Nat} {sh : Sh} {row : List PStep} {k : Nat}
theorem PanesAt.stepsR (B : PanesAt cv st b d i sh row k) : FzPanes_steps cv [.res b] st = .ok (.res st.length) (st ++ [.lst (row.map psD)]) := by
  have e1 := B.items
  unfold FzPanes_steps gzPanes_steps sRetF
  simp [z_fld, B.ins, pn_row, listF, e1]
theorem PanesAt.check_no (B : PanesAt cv st b d i sh row k) {n : Str} (h : valS sh n = none) : FzPanes_check_name cv [.res b, .str n] st = .exc (cv 12) st := by
  have e1 := B.look n
  rw [h] at e1
  have q1 : (1 : Nat) ≤ small := by decide
  unfold FzPanes_check_name gzPanes_check_name
  simp [z_fld, B.ins, pn_shown, notInDd, e1, q1]
theorem PanesAt.place_no (B : PanesAt cv st b d i sh row k) {n : Str} (h : valS sh n = none) : FzPanes_place cv [.res b, .str n] st = .exc (cv 12) st := by
  have e2 := B.check_no h
  unfold FzPanes_place gzPanes_place
  simp [z_meth, B.ins, pn_check, e2]
theorem PanesAt.add_no (B : PanesAt cv st b d i sh row k) {n : Str} {q : List Str} (h : valS sh n = some q) (p : D) : FzPanes_add cv [.res b, .str n, p] st = .exc (cv 13) st := by
  have e1 := B.look n
  rw [h] at e1
  have q1 : (1 : Nat) ≤ small := by decide
  unfold FzPanes_add gzPanes_add
  simp [z_fld, B.ins, pn_shown, inDd, e1, q1]
theorem PanesAt.visit_no (B : PanesAt cv st b d i sh row k) {n : Str} (h : valS sh n = none) (p : D) : FzPanes_visit cv [.res b, .str n, p] st = .exc (cv 12) st := by
  have e2 := B.place_no h
  unfold FzPanes_visit gzPanes_visit
  simp [z_meth, B.ins, pn_place, e2]
theorem PanesAt.close_no (B : PanesAt cv st b d i sh row k) {n : Str} (h : valS sh n = none) : FzPanes_close cv [.res b, .str n] st = .exc (cv 12) st := by
  have e2 := B.check_no h
  unfold FzPanes_close
  refine runX_exc rfl ?_
  show gzPanes_close cv [some (.res b), some (.str n), none] st = _
  unfold gzPanes_close
  exact seq_exc (by simp [z_meth, B.ins, pn_check, e2])
theorem PanesAt.back_in_no (B : PanesAt cv st b d i sh row k) {n : Str} (h : valS sh n = none) : FzPanes_back_in cv [.res b, .str n] st = .exc (cv 12) st := by
  have e2 := B.check_no h
  unfold FzPanes_back_in
  refine runX_exc rfl ?_
  show gzPanes_back_in cv [some (.res b), some (.str n), none] st = _
  unfold gzPanes_back_in
  exact seq_exc (by simp [z_meth, B.ins, pn_check, e2])
end
noncomputable def Wf (sh : Sh) (row : List PStep) : Prop := ∀ s ∈ row, ∃ q, valS sh s.1 = some q
theorem Wf.put {sh : Sh} {row : List PStep} (h : Wf sh row) (n : Str) (p : List Str) : Wf (putS sh n p) row := fun s hs => by
  rw [valS_put]
  by_cases e : s.1 = n
  · exact ⟨p, by rw [if_pos e]⟩
  · rw [if_neg e]
    exact h s hs
theorem Wf.at {sh : Sh} {row : List PStep} (h : Wf sh row) {j : Nat} {s : PStep} (hs : row[j]? = some s) : ∃ q, valS sh s.1 = some q := h s (List.mem_iff_getElem?.mpr ⟨j, hs⟩)
noncomputable def bkS (row : List PStep) : Nat → Nat → Sh → Sh
  | _, 0, sh => sh
  | k, m + 1, sh => bkS row (k - 1) m (putS sh (row.getD (k - 1) ("", [], [])).1 (row.getD (k - 1) ("", [], [])).2.1)
theorem Wf.bk {row : List PStep} : ∀ (m k : Nat) {sh : Sh}, Wf sh row → Wf (bkS row k m sh) row
  | 0, _, _, h => h
  | m + 1, k, _, h => Wf.bk m (k - 1) (h.put _ _)
theorem bkS_len {row : List PStep} : ∀ (m k : Nat) {sh : Sh}, Wf sh row → m ≤ k → k ≤ row.length → (bkS row k m sh).length = sh.length
  | 0, _, _, _, _, _ => rfl
  | m + 1, k, sh, h, hm, hk => by
    have hs : row[k - 1]? = some (row.getD (k - 1) ("", [], [])) := by rw [List.getD_eq_getElem?_getD, List.getElem?_eq_getElem (by omega)]; rfl
    obtain ⟨q, hq⟩ := h.at hs
    show (bkS row (k - 1) m _).length = _
    rw [bkS_len m (k - 1) (h.put _ _) (by omega) (by omega), putS_len' _ hq]
theorem Pb.back_in {cv : Nat → Addr} {b d i : Nat} {row : List PStep} {n : Str} {l : Nat} {sl : PStep} (hl : row[l]? = some sl) (hsl : sl.1 = n) : ∀ (k f : Nat) (st : Sto) (sh : Sh) (z : Int), l < k → k < f + l + 1 → (∀ j s, l < j → j < k → row[j]? = some s → s.1 ≠ n) → Wf sh row → sh.length ≤ 100 → PanesAt cv st b d i sh row k →
    ∃ st', whileD f (VzPanes_back_in_1 cv) WzPanes_back_in_1 [some (.res b), some (.str n), some (.int z)] st = .nx [some (.res b), some (.str n), some (.int (z + ((k : Int) - 1 - l)))] st' ∧ PanesAt cv st' b d i (bkS row k (k - l) sh) row l ∧ ChgP st st' b d i i
  | 0, f, st, sh, z, h, _, _, _, _, _ => by omega
  | k + 1, 0, st, sh, z, h, hf, _, _, _, _ => by omega
  | k + 1, f + 1, st, sh, z, h, hf, hne, hw, hsl100, P => by
    have hle := P.le
    have hs : row[k]? = some (row.getD k ("", [], [])) := by rw [List.getD_eq_getElem?_getD, List.getElem?_eq_getElem (by omega)]; rfl
    obtain ⟨s, hsd⟩ : ∃ s, s = row.getD k ("", [], []) := ⟨_, rfl⟩
    rw [← hsd] at hs
    obtain ⟨q, hq⟩ := hw.at hs
    have hlen : (putS sh s.1 s.2.1).length = sh.length := putS_len' _ hq
    obtain ⟨st1, e1, P1, C1⟩ := P.back rfl hs (by omega)
    have hv : VzPanes_back_in_1 cv [some (.res b), some (.str n), some (.int z)] st = .ok (!decide (s.1 = n)) st1 := by
      unfold VzPanes_back_in_1
      simp [z_meth, P.ins, pn_back, e1, neS]
    have hbk : ∀ m, bkS row (k + 1) (m + 1) sh = bkS row k m (putS sh s.1 s.2.1) := fun m => by
      show bkS row (k + 1 - 1) m _ = _
      rw [Nat.add_sub_cancel, ← hsd]
    by_cases hk : l = k
    · subst hk
      rw [hl] at hs
      cases hs
      refine ⟨st1, ?_, ?_, C1⟩
      · unfold whileD
        simp only [hv, hsl, decide_true, Bool.not_true, z_to_ok, Bool.false_eq_true, if_false]
        have : z + (((l + 1 : Nat) : Int) - 1 - l) = z := by omega
        rw [this]
      · rw [show l + 1 - l = 0 + 1 by omega, hbk]
        exact P1
    · have hsn := hne k s (by omega) (by omega) hs
      obtain ⟨st2, e2, P2, C2⟩ := Pb.back_in hl hsl k f st1 (putS sh s.1 s.2.1) (z + 1) (by omega) (by omega) (fun j s h1 h2 => hne j s h1 (by omega)) (hw.put _ _) (by omega) P1
      refine ⟨st2, ?_, ?_, C1.trans C2⟩
      · have hww : WzPanes_back_in_1 [some (.res b), some (.str n), some (.int z)] st1 = .nx [some (.res b), some (.str n), some (.int (z + 1))] st1 := by
          unfold WzPanes_back_in_1
          simp
        conv => lhs; unfold whileD
        simp only [hv, hsn, decide_false, Bool.not_false, z_to_ok, if_true, hww]
        rw [e2]
        have : z + 1 + ((k : Int) - 1 - l) = z + (((k + 1 : Nat) : Int) - 1 - l) := by omega
        rw [this]
      · rw [show k + 1 - l = (k - l) + 1 by omega, hbk]
        exact P2
section
variable {cv : Nat → Addr} {st : Sto} {b d i : Nat} {sh : Sh} {row : List PStep} {k : Nat}
theorem PanesAt.doneNames (B : PanesAt cv st b d i sh row k) : ∃ T T3, cutF (.res i) none (some (k : Int)) st = .ok T st ∧ compD (fun st => itemsOf st (.lst T) = some T) (tgName 0) dTrue EzPanes_back_in_1 T [none] st [] = .ok T3 st ∧ T3 = ((row.take k).map fun s => s.1).map D.str := by
  have hrl := B.rl
  have hT : cutF (.res i) none (some (k : Int)) st = .ok ((row.take k).map psD) st := by
    simp only [cutF, seqL, B.rw, cutL_to, List.map_take]
  obtain ⟨T, hT0⟩ : ∃ T, T = (row.take k).map psD := ⟨_, rfl⟩
  rw [← hT0] at hT
  refine ⟨T, (row.take k).map fun s : PStep => D.str s.1, hT, ?_, by rw [List.map_map]; rfl⟩
  have hc : itemsOf st (.lst T) = some T := rfl
  have := compD_mm (chk := fun st => itemsOf st (.lst T) = some T) (t := tgName 0) (fe := EzPanes_back_in_1) psD (fun x : PStep => D.str x.1) (fun ρ => ∃ a, ρ = [a]) hc (row.take k) [none] [] ⟨_, rfl⟩ (by simp; exact small_ge (by omega)) ?_
  · rw [← hT0] at this; exact this
  · rintro x hx ρ ⟨a, rfl⟩
    refine ⟨_, rfl, ⟨_, rfl⟩, ?_⟩
    unfold EzPanes_back_in_1
    simp [ps0]
theorem PanesAt.back_in_none (B : PanesAt cv st b d i sh row k) {n : Str} {q : List Str} (h : valS sh n = some q) (ho : ownS (row.take k) n = []) : FzPanes_back_in cv [.res b, .str n] st = .exc (cv 11) st := by
  have e0 := B.check h
  obtain ⟨T, T3, hT, c1, hT3⟩ := B.doneNames
  have q1 : (1 : Nat) ≤ small := by decide
  have c2 : notInD (.str n) (.lst T3) st = .ok (.bl true) st := by
    have hm : ¬ n ∈ (row.take k).map fun s : PStep => s.1 := fun hm => by
      obtain ⟨s, hs, e⟩ := List.mem_map.mp hm
      have : s ∈ ownS (row.take k) n := List.mem_filter.mpr ⟨hs, decide_eq_true e⟩
      rw [ho] at this
      cases this
    rw [hT3, notIn_strs, decide_eq_false hm]
    rfl
  have hi : itemsOf st (.lst T) = some T := rfl
  unfold FzPanes_back_in
  refine runX_exc rfl ?_
  show gzPanes_back_in cv [some (.res b), some (.str n), none] st = _
  unfold gzPanes_back_in
  refine (seq_nx (st' := st) (ρ' := [some (.res b), some (.str n), none]) ?_).trans (seq_exc ?_)
  · simp [z_meth, B.ins, pn_check, e0]
  · simp [z_fld, B.ins, pn_row, pn_made, hT, hi, capEv, c1, c2, q1]
theorem PanesAt.back_in (B : PanesAt cv st b d i sh row k) {n : Str} {q : List Str} (h : valS sh n = some q) {l : Nat} {sl : PStep} (hl : row[l]? = some sl) (hsl : sl.1 = n) (hlk : l < k) (hne : ∀ j s, l < j → j < k → row[j]? = some s → s.1 ≠ n) (hw : Wf sh row) (hk : k < 90) :
    ∃ st', FzPanes_back_in cv [.res b, .str n] st = .ok (.int ((k : Int) - l)) st' ∧ PanesAt cv st' b d i (bkS row k (k - l) sh) row l ∧ ChgP st st' b d i i := by
  obtain ⟨st', e, P', C⟩ := Pb.back_in hl hsl k 100 st sh 1 hlk (by omega) hne hw B.sl B
  refine ⟨st', ?_, P', C⟩
  have e0 := B.check h
  obtain ⟨T, T3, hT, c1, hT3⟩ := B.doneNames
  have c2 : notInD (.str n) (.lst T3) st = .ok (.bl false) st := by
    have hm : n ∈ (row.take k).map fun s : PStep => s.1 := by
      refine List.mem_map.mpr ⟨sl, ?_, hsl⟩
      exact List.mem_iff_getElem?.mpr ⟨l, by rw [List.getElem?_take_of_lt hlk]; exact hl⟩
    rw [hT3, notIn_strs, decide_eq_true hm]
    rfl
  have hi : itemsOf st (.lst T) = some T := rfl
  unfold FzPanes_back_in
  refine runX_rt rfl ?_
  show gzPanes_back_in cv [some (.res b), some (.str n), none] st = _
  unfold gzPanes_back_in
  refine (seq_nx (st' := st) (ρ' := [some (.res b), some (.str n), none]) ?_).trans ?_
  · simp [z_meth, B.ins, pn_check, e0]
  refine (seq_nx (st' := st) (ρ' := [some (.res b), some (.str n), none]) (sif_no ?_)).trans ?_
  · simp [z_fld, B.ins, pn_row, pn_made, hT, hi, capEv, c1, c2]
  refine (seq_nx (st' := st) (ρ' := [some (.res b), some (.str n), some (.int 1)]) rfl).trans ?_
  refine (seq_nx e).trans ?_
  have : (1 : Int) + ((k : Int) - 1 - l) = (k : Int) - l := by omega
  rw [this]
  rfl
end
noncomputable def mD (R K H : D) : List (D × D) := [(.str "rows", R), (.str "at", K), (.str "here", H)]
theorem ra : ("rows" : Str) ≠ ("at" : Str) := by decide +kernel
theorem rh : ("rows" : Str) ≠ ("here" : Str) := by decide +kernel
theorem ah : ("at" : Str) ≠ ("here" : Str) := by decide +kernel
section
variable (R K H v : D)
theorem m_rows : valD keyD (mD R K H) (.str "rows") = some R := by simp [mD, valD, key_str]
theorem m_at : valD keyD (mD R K H) (.str "at") = some K := by simp [mD, valD, key_str, ra]
theorem m_here : valD keyD (mD R K H) (.str "here") = some H := by simp [mD, valD, key_str, rh, ah]
theorem m_put_rows : putD keyD (mD R K H) (.str "rows") v = mD v K H := by simp [mD, putD, hasD, key_str, Ne.symm ra, Ne.symm rh]
theorem m_put_at : putD keyD (mD R K H) (.str "at") v = mD R v H := by simp [mD, putD, hasD, key_str, ra, Ne.symm ah]
end
structure MineAt (st : Sto) (m h : Nat) (sh : Sh) (row : List PStep) (k : Nat) : Prop where
  mo : st[m]? = some (.dct (mD (.lst (row.map psD)) (.int k) (.res h)))
  he : st[h]? = some (.dct (sh.map shD))
  mh : m ≠ h
  le : k ≤ row.length
  rl : row.length ≤ 100
  sl : sh.length ≤ 100
structure ChgM (st st' : Sto) (m h : Nat) : Prop where
  fr : ∀ j x, st[j]? = some x → j ≠ m → j ≠ h → st'[j]? = some x
  le : st.length ≤ st'.length
theorem ChgM.refl (st : Sto) (m h : Nat) : ChgM st st m h := ⟨fun _ _ x _ _ => x, Nat.le_refl _⟩
theorem ChgM.trans {st st1 st2 : Sto} {m h : Nat} (x : ChgM st st1 m h) (y : ChgM st1 st2 m h) : ChgM st st2 m h :=
  ⟨fun j z hz h1 h2 => y.fr j z (x.fr j z hz h1 h2) h1 h2, Nat.le_trans x.le y.le⟩
theorem chgM_m (st : Sto) (m h : Nat) (x : S) : ChgM st (st.set m x) m h := ⟨fun j y hj h1 _ => by rw [List.getElem?_set_ne (Ne.symm h1)]; exact hj, by simp⟩
theorem chgM_h (st : Sto) (m h : Nat) (x : S) : ChgM st (st.set h x) m h := ⟨fun j y hj _ h1 => by rw [List.getElem?_set_ne (Ne.symm h1)]; exact hj, by simp⟩
section
variable {st : Sto} {m h : Nat} {sh : Sh} {row : List PStep} {k : Nat}
theorem MineAt.rows (M : MineAt st m h sh row k) : dAt st (.res m) (.str "rows") = some (some (.lst (row.map psD))) := by simp [dAt, M.mo, keyD, m_rows]
theorem MineAt.at_ (M : MineAt st m h sh row k) : dAt st (.res m) (.str "at") = some (some (.int k)) := by simp [dAt, M.mo, keyD, m_at]
theorem MineAt.here (M : MineAt st m h sh row k) : dAt st (.res m) (.str "here") = some (some (.res h)) := by simp [dAt, M.mo, keyD, m_here]
theorem MineAt.look (M : MineAt st m h sh row k) (n : Str) : dAt st (.res h) (.str n) = some ((valS sh n).map pl) := by simp [dAt, M.he, keyD, valS_D]
theorem MineAt.put (M : MineAt st m h sh row k) (n : Str) (p : List Str) : dPutAt st (.res h) (.str n) (pl p) = some (st.set h (.dct ((putS sh n p).map shD))) := by
  have hl : sh.length < small := Nat.lt_of_le_of_lt M.sl (by decide)
  simp [dPutAt, M.he, keyD, putS_D, hl]
theorem MineAt.putAt (M : MineAt st m h sh row k) (z : D) : dPutAt st (.res m) (.str "at") z = some (st.set m (.dct (mD (.lst (row.map psD)) z (.res h)))) := by
  have hl : (mD (.lst (row.map psD)) (.int k) (.res h)).length < small := by show 3 < small; decide
  simp [dPutAt, M.mo, keyD, m_put_at, hl]
theorem MineAt.putRows (M : MineAt st m h sh row k) (z : D) : dPutAt st (.res m) (.str "rows") z = some (st.set m (.dct (mD z (.int k) (.res h)))) := by
  have hl : (mD (.lst (row.map psD)) (.int k) (.res h)).length < small := by show 3 < small; decide
  simp [dPutAt, M.mo, keyD, m_put_rows, hl]
theorem MineAt.setH (M : MineAt st m h sh row k) {sh' : Sh} (hl : sh'.length ≤ 100) : MineAt (st.set h (.dct (sh'.map shD))) m h sh' row k := by
  have hh : h < st.length := (List.getElem?_eq_some_iff.mp M.he).1
  exact ⟨by rw [List.getElem?_set_ne (Ne.symm M.mh)]; exact M.mo, List.getElem?_set_self hh, M.mh, M.le, M.rl, hl⟩
theorem MineAt.setM (M : MineAt st m h sh row k) {row' : List PStep} {k' : Nat} (h1 : k' ≤ row'.length) (h2 : row'.length ≤ 100) : MineAt (st.set m (.dct (mD (.lst (row'.map psD)) (.int k') (.res h)))) m h sh row' k' := by
  have hm : m < st.length := (List.getElem?_eq_some_iff.mp M.mo).1
  exact ⟨List.getElem?_set_self hm, by rw [List.getElem?_set_ne M.mh]; exact M.he, M.mh, h1, h2, M.sl⟩
theorem MineAt.back (M : MineAt st m h sh row k) {j : Nat} {s : PStep} (hj : k = j + 1) (hs : row[j]? = some s) (hl : (putS sh s.1 s.2.1).length ≤ 100) :
    ∃ st', Fz_law_back [.res m] st = .ok (.str s.1) st' ∧ MineAt st' m h (putS sh s.1 s.2.1) row j ∧ ChgM st st' m h := by
  have hle := M.le
  have M1 := M.setM (row' := row) (k' := j) (by omega) M.rl
  have M2 := M1.setH hl
  refine ⟨_, ?_, M2, (chgM_m _ m h _).trans (chgM_h _ m h _)⟩
  have e1 := M.at_
  have e2 := M.putAt (.int j)
  have e3 := M1.rows
  have e4 := M1.at_
  have e5 := M1.here
  have e6 := M1.put s.1 s.2.1
  have ek : ((k : Int) - 1) = (j : Int) := by omega
  generalize st.set m (.dct (mD (.lst (row.map psD)) (.int j) (.res h))) = st1 at *
  have r1 := rowsAt (z := (j : Int)) rfl hs st1
  obtain ⟨RD, hRD⟩ : ∃ RD, RD = row.map psD := ⟨_, rfl⟩
  rw [← hRD] at r1 e3
  unfold Fz_law_back gz_law_back
  simp [z_sPutD, z_getDd, e1, subD_int, ek, e2, e3, e4, r1, ps0, ps1, e5, e6]
end
theorem compD_st {chk : Sto → Prop} {t : TgD} {fe : DE} (IE : Ev → Prop) (P : Nat → Sto → Prop) (hc : ∀ j st, P j st → chk st) {g : Nat → D} : ∀ (n i : Nat) (ρ : Ev) (st : Sto) (acc : List D), IE ρ → P i st → acc.length + n ≤ small →
    (∀ j, i ≤ j → j < i + n → ∀ ρ st, IE ρ → P j st → ∃ ρ1 v st', t (g j) ρ = some ρ1 ∧ IE ρ1 ∧ fe ρ1 st = .ok v st' ∧ P (j + 1) st') →
    ∃ vs st', compD chk t dTrue fe ((List.range' i n).map g) ρ st acc = .ok (acc ++ vs) st' ∧ vs.length = n ∧ P (i + n) st'
  | 0, i, ρ, st, acc, _, hp, _, _ => ⟨[], st, by simp [compD, hc i st hp], rfl, hp⟩
  | n + 1, i, ρ, st, acc, hI, hp, hl, hx => by
    obtain ⟨ρ1, v, st1, e1, hI1, e2, hp1⟩ := hx i (Nat.le_refl _) (by omega) ρ st hI hp
    obtain ⟨vs, st', e3, hl3, hp3⟩ := compD_st IE P hc (g := g) n (i + 1) ρ1 st1 (acc ++ [v]) hI1 hp1 (by simp; omega) (fun j h1 h2 => hx j (by omega) (by omega))
    refine ⟨v :: vs, st', ?_, by simp [hl3], by rw [show i + (n + 1) = i + 1 + n by omega]; exact hp3⟩
    rw [List.range'_succ, List.map_cons]
    unfold compD
    rw [if_pos ⟨hc i st hp, by omega⟩, e1]
    dsimp only [dTrue]
    rw [e2]
    dsimp only
    rw [e3]
    simp
noncomputable abbrev RF (z : Int) : D := .tup [.str "refused", .int z]
noncomputable abbrev ED (m : Nat) (w : Int) (n : Str) (p : List Str) (c4 c5 : Option D) : Ev := [some (.res m), some (.int w), some (.str n), some (pl p), c4, c5]
theorem eqI (x y : Int) (st : Sto) : eqD (.int x) (.int y) st = .ok (.bl (decide (x = y))) st := by
  rw [eqD_nice rfl rfl]
  congr 2
  exact decide_eq_decide.mpr (by rw [D.int.injEq])
section
variable {st : Sto} {m h : Nat} {sh : Sh} {row : List PStep} {k : Nat}
theorem done_p1 (M : MineAt st m h sh row k) (w : Int) (n : Str) (p : List Str) : Pz_law_done_p1 (ED m w n p none none) st = .nx (ED m w n p (some (.lst (row.map psD))) none) st := by
  have e := M.rows
  unfold Pz_law_done_p1
  simp [z_getDd, e]
theorem in145 (w : Int) (st : Sto) : ∃ c : Bool, inD (.int w) (.tup [.int 1, .int 4, .int 5]) st = .ok (.bl c) st ∧ (c = true ↔ w = 1 ∨ w = 4 ∨ w = 5) := by
  have e : ∀ x : Int, eqN st depth (.int x) (.int w) = some (decide (x = w)) := fun x => by
    rw [eqN_nice st depth _ _ rfl rfl]
    congr 1
    exact decide_eq_decide.mpr (by rw [D.int.injEq])
  refine ⟨decide ((1 : Int) = w) || (decide ((4 : Int) = w) || (decide ((5 : Int) = w) || false)), ?_, ?_⟩
  · simp only [inD, itemsOf, inN, e]
  · simp only [Bool.or_eq_true, decide_eq_true_eq, Bool.or_false]
    omega
theorem done_no (M : MineAt st m h sh row k) {w : Int} (hw : w = 1 ∨ w = 4 ∨ w = 5) {n : Str} (hn : valS sh n = none) (p : List Str) : Fz_law_done [.res m, .int w, .str n, pl p] st = .ok (RF 1) st := by
  have e0 := done_p1 M w n p
  obtain ⟨c, e1, hc⟩ := in145 w st
  have hc' := hc.mpr hw
  subst hc'
  have e2 := M.here
  have e3 := M.look n
  rw [hn] at e3
  have q3 : (3 : Nat) ≤ small := by decide
  have q2 : (2 : Nat) ≤ small := by decide
  unfold Fz_law_done
  refine run_rt rfl ?_
  show gz_law_done (ED m w n p none none) st = _
  unfold gz_law_done
  refine (seq_nx e0).trans ?_
  unfold Pz_law_done_p2
  simp [q3, q2, e1, z_getDd, e2, notInDd, e3]
theorem done_go (M : MineAt st m h sh row k) {w : Int} {n : Str} (hw : (w = 1 ∨ w = 4 ∨ w = 5) → ∃ q, valS sh n = some q) (p : List Str) : ∀ r, (sSeq Pz_law_done_p3 Pz_law_done_p16) (ED m w n p (some (.lst (row.map psD))) none) st = r → gz_law_done (ED m w n p none none) st = r := by
  intro r hr
  have e0 := done_p1 M w n p
  obtain ⟨c, e1, hc⟩ := in145 w st
  have e2 := M.here
  have e3 := M.look n
  have q3 : (3 : Nat) ≤ small := by decide
  unfold gz_law_done
  refine (seq_nx e0).trans ((seq_nx (st' := st) (ρ' := ED m w n p (some (.lst (row.map psD))) none) (sif_no ?_)).trans hr)
  cases c with
  | false => simp [q3, e1]
  | true =>
    obtain ⟨q, hq⟩ := hw (hc.mp rfl)
    rw [hq] at e3
    simp [q3, e1, z_getDd, e2, notInDd, e3]
theorem done_add (M : MineAt st m h sh row k) {n : Str} (hn : valS sh n = none) (hl : sh.length < 100) (p : List Str) : ∃ st', Fz_law_done [.res m, .int 0, .str n, pl p] st = .ok .non st' ∧ MineAt st' m h (putS sh n p) row k ∧ ChgM st st' m h := by
  have e2 := M.here
  have e3 := M.look n
  rw [hn] at e3
  have e4 := M.put n p
  refine ⟨_, ?_, M.setH (sh' := putS sh n p) (by have := putS_len sh n p; omega), chgM_h _ _ _ _⟩
  unfold Fz_law_done
  refine run_rt rfl (done_go M (by omega) p _ ?_)
  unfold Pz_law_done_p3 Pz_law_done_p16
  simp [eqI, z_getDd, e2, inDd, e3, z_sPutD, e4]
theorem done_add_no (M : MineAt st m h sh row k) {n : Str} {q : List Str} (hn : valS sh n = some q) (p : List Str) : Fz_law_done [.res m, .int 0, .str n, pl p] st = .ok (RF 2) st := by
  have e2 := M.here
  have e3 := M.look n
  rw [hn] at e3
  have q2 : (2 : Nat) ≤ small := by decide
  unfold Fz_law_done
  refine run_rt rfl (done_go M (by omega) p _ ?_)
  unfold Pz_law_done_p3
  simp [eqI, z_getDd, e2, inDd, e3, q2]
theorem done_visit (M : MineAt st m h sh row k) {n : Str} {q : List Str} (hn : valS sh n = some q) (hk : k < 100) (p : List Str) : ∃ st', Fz_law_done [.res m, .int 1, .str n, pl p] st = .ok .non st' ∧ MineAt st' m h (putS sh n p) (row.take k ++ [(n, q, p)]) (k + 1) ∧ ChgM st st' m h := by
  have hle := M.le
  have e2 := M.here
  have e3 := M.look n
  rw [hn] at e3
  have e1 := M.at_
  have len1 : (row.take k ++ [(n, q, p)]).length = k + 1 := by simp; omega
  have M1 := M.setM (row' := row.take k ++ [(n, q, p)]) (k' := k) (by omega) (by omega)
  have M2 := M1.setM (row' := row.take k ++ [(n, q, p)]) (k' := k + 1) (by omega) (by omega)
  have M3 := M2.setH (sh' := putS sh n p) (by rw [putS_len' _ hn]; exact M.sl)
  refine ⟨_, ?_, M3, (chgM_m _ m h _).trans ((chgM_m _ m h _).trans (chgM_h _ m h _))⟩
  obtain ⟨RD, hRD⟩ : ∃ RD, RD = row.map psD := ⟨_, rfl⟩
  obtain ⟨T2, hT2⟩ : ∃ T2, T2 = (row.take k ++ [(n, q, p)]).map psD := ⟨_, rfl⟩
  have c1 : cutL RD none (some (k : Int)) = RD.take k := cutL_to RD k
  have et : D.tup [.str n, pl q, pl p] = psD (n, q, p) := rfl
  have c2 : catL (.lst (RD.take k)) (.lst [psD (n, q, p)]) st = .ok T2 st := by
    have hs : (RD.take k).length + [psD (n, q, p)].length ≤ small := by
      rw [hRD, List.length_take, List.length_map]
      exact small_ge (by simp; omega)
    simp only [catL, ownL, if_pos hs]
    rw [hT2, hRD, List.map_append, List.map_take]
    rfl
  have p1 := M.putRows (.lst T2)
  have p2 := M1.putAt (.int ((k : Int) + 1))
  have p3 := M1.at_
  have p4 := M2.here
  have p5 := M2.put n p
  have ek : ((k + 1 : Nat) : Int) = (k : Int) + 1 := by omega
  rw [← hT2] at p2 p3 p4 p5
  rw [← hT2]
  rw [ek] at p4 p5
  have q3 : (3 : Nat) ≤ small := by decide
  have q1 : (1 : Nat) ≤ small := by decide
  unfold Fz_law_done
  refine run_rt rfl (done_go M (fun _ => ⟨q, hn⟩) p _ ?_)
  rw [← hRD]
  unfold Pz_law_done_p3 Pz_law_done_p16 Pz_law_done_p4
  simp [eqI, z_getDd, z_sPutD, cutF_l, c1, e1, e2, e3, q3, q1, et, c2, p1, p3, p2, p4, p5, addD_int, -List.set_set]
theorem done_back (M : MineAt st m h sh row k) {j : Nat} {s : PStep} (hj : k = j + 1) (hs : row[j]? = some s) (hl : (putS sh s.1 s.2.1).length ≤ 100) (n : Str) (p : List Str) :
    ∃ st', Fz_law_done [.res m, .int 2, .str n, pl p] st = .ok (.str s.1) st' ∧ MineAt st' m h (putS sh s.1 s.2.1) row j ∧ ChgM st st' m h := by
  obtain ⟨st', e, M', C⟩ := M.back hj hs hl
  refine ⟨st', ?_, M', C⟩
  have e1 := M.at_
  have hk : decide ((k : Int) > 0) = true := decide_eq_true (by omega)
  unfold Fz_law_done
  refine run_rt rfl (done_go M (by omega) p _ ?_)
  unfold Pz_law_done_p3 Pz_law_done_p4 Pz_law_done_p5
  have hk' : 0 < k := by omega
  simp [eqI, z_getDd, e1, gtD, cmpD, hk', e]
theorem done_back_no (M : MineAt st m h sh row k) (hk : k = 0) (n : Str) (p : List Str) : Fz_law_done [.res m, .int 2, .str n, pl p] st = .ok (RF 0) st := by
  have e1 := M.at_
  have q2 : (2 : Nat) ≤ small := by decide
  have hg : gtD (.int k) (.int 0) st = .ok (.bl false) st := by rw [hk]; rfl
  unfold Fz_law_done
  refine run_rt rfl (done_go M (by omega) p _ ?_)
  unfold Pz_law_done_p3 Pz_law_done_p4 Pz_law_done_p5
  simp [eqI, z_getDd, e1, hg, q2]
theorem done_forth (M : MineAt st m h sh row k) {s : PStep} (hs : row[k]? = some s) (hl : (putS sh s.1 s.2.2).length ≤ 100) (n : Str) (p : List Str) :
    ∃ st', Fz_law_done [.res m, .int 3, .str n, pl p] st = .ok (.str s.1) st' ∧ MineAt st' m h (putS sh s.1 s.2.2) row (k + 1) ∧ ChgM st st' m h := by
  have hk : k < row.length := (List.getElem?_eq_some_iff.mp hs).1
  have M1 := M.setM (row' := row) (k' := k + 1) (by omega) M.rl
  have M2 := M1.setH hl
  refine ⟨_, ?_, M2, (chgM_m _ m h _).trans (chgM_h _ m h _)⟩
  have e1 := M.at_
  have ek : ((k + 1 : Nat) : Int) = (k : Int) + 1 := by omega
  have e2 := M.putAt (.int ((k : Int) + 1))
  have e4 := M1.at_
  have e5 := M1.here
  have e6 := M1.put s.1 s.2.2
  have e7 := M2.at_
  rw [ek] at e4 e5 e6 e7 ⊢
  obtain ⟨RD, hRD⟩ : ∃ RD, RD = row.map psD := ⟨_, rfl⟩
  have l1 := lenL RD st
  rw [hRD, List.length_map, ← hRD] at l1
  have r1 : ∀ s0 : Sto, ixD (.lst RD) (.int k) s0 = .ok (psD s) s0 := fun s0 => by rw [hRD]; exact rowsAt rfl hs s0
  have ee : eqD (.int k) (.int row.length) st = .ok (.bl false) st := by
    rw [eqI, decide_eq_false (by omega)]
  have es : ((k : Int) + 1 - 1) = (k : Int) := by omega
  unfold Fz_law_done
  refine run_rt rfl (done_go M (by omega) p _ ?_)
  rw [← hRD] at e2 e4 e5 e6 e7 ⊢
  generalize st.set m (.dct (mD (.lst RD) (.int ((k : Int) + 1)) (.res h))) = st1 at *
  generalize st1.set h (.dct ((putS sh s.1 s.2.2).map shD)) = st2 at *
  unfold Pz_law_done_p3 Pz_law_done_p4 Pz_law_done_p5 Pz_law_done_p6 Pz_law_done_p7 Pz_law_done_p8 Pz_law_done_p9 Pz_law_done_p10
  simp [eqI, z_getDd, z_sPutD, e1, l1, ee, addD_int, e2, e4, e5, subD_int, es, r1, ps0, ps2, e6, e7]
theorem done_forth_no (M : MineAt st m h sh row k) (hk : k = row.length) (n : Str) (p : List Str) : Fz_law_done [.res m, .int 3, .str n, pl p] st = .ok (RF 0) st := by
  have e1 := M.at_
  have q2 : (2 : Nat) ≤ small := by decide
  obtain ⟨RD, hRD⟩ : ∃ RD, RD = row.map psD := ⟨_, rfl⟩
  have l1 := lenL RD st
  rw [hRD, List.length_map, ← hRD] at l1
  have ee : eqD (.int k) (.int row.length) st = .ok (.bl true) st := by
    rw [eqI, decide_eq_true (by omega)]
  unfold Fz_law_done
  refine run_rt rfl (done_go M (by omega) p _ ?_)
  rw [← hRD]
  unfold Pz_law_done_p3 Pz_law_done_p4 Pz_law_done_p5 Pz_law_done_p6 Pz_law_done_p7
  simp [eqI, z_getDd, e1, l1, ee, q2]
end
theorem seq_rt {g g' : DS} {ρ : Ev} {st st' : Sto} {d : D} (h : g ρ st = .rt d st') : sSeq g g' ρ st = .rt d st' := by simp [h]
theorem bkS_succ {row : List PStep} : ∀ (j k : Nat) (sh : Sh), bkS row k (j + 1) sh = putS (bkS row k j sh) (row.getD (k - 1 - j) ("", [], [])).1 (row.getD (k - 1 - j) ("", [], [])).2.1
  | 0, k, sh => rfl
  | j + 1, k, sh => by
    show bkS row (k - 1) (j + 1) _ = _
    rw [bkS_succ j (k - 1)]
    have e : k - 1 - 1 - j = k - 1 - (j + 1) := by omega
    rw [e]
    rfl
section
variable {st : Sto} {m h : Nat} {sh : Sh} {row : List PStep} {k : Nat}
theorem idx_c (hk : k ≤ row.length) (hr : row.length ≤ 100) (n : Str) (st : Sto) {RD : List D} (hR : RD = row.map psD) : compD (fun _ => True) (tgName 0) Cz_law_done_1 Ez_law_done_1 ((List.range k).map fun (i : Nat) => D.int (0 + i)) [none, some (.str n), some (.lst RD)] st [] = .ok (((List.range k).filter fun j => decide ((row.getD j ("", [], [])).1 = n)).map fun (i : Nat) => D.int (0 + i)) st := by
  rw [compD_fm (chk := fun _ => True) (fun (i : Nat) => D.int (0 + i)) (fun j => decide ((row.getD j ("", [], [])).1 = n)) (fun (i : Nat) => D.int (0 + i)) (fun ρ => ∃ a, ρ = [a, some (.str n), some (.lst RD)]) trivial (List.range k) _ [] ⟨_, rfl⟩ (by simp; exact small_ge (by omega))]
  · rfl
  · rintro j hj ρ ⟨a, rfl⟩
    rw [List.mem_range] at hj
    have hjR : row[j]? = some (row.getD j ("", [], [])) := by rw [List.getD_eq_getElem?_getD, List.getElem?_eq_getElem (by omega)]; rfl
    refine ⟨[some (D.int (0 + (j : Int))), some (.str n), some (.lst RD)], rfl, ⟨_, rfl⟩, ?_, fun _ => ?_⟩
    · have r1 := rowsAt (z := 0 + (j : Int)) (by omega) hjR st
      rw [← hR] at r1
      unfold Cz_law_done_1
      simp only [z_B, z_bin, z_var, List.getElem?_cons_zero, List.getElem?_cons_succ, z_bind_ok, r1, z_C, ps0, eqS, z_asB]
    · unfold Ez_law_done_1
      rfl
theorem nice_intL (L : List Nat) : nice depth (.lst (L.map fun (i : Nat) => D.int (0 + i))) = true := nice_L (fun (i : Nat) => D.int (0 + i)) (fun _ => rfl) L
theorem own_idx (hk : k ≤ row.length) (n : Str) : ownS (row.take k) n = [] → ((List.range k).filter fun j => decide ((row.getD j ("", [], [])).1 = n)) = [] := by
  intro ho
  refine List.filter_eq_nil_iff.mpr fun j hj => ?_
  rw [List.mem_range] at hj
  intro e
  have e' := of_decide_eq_true e
  have hjR : row[j]? = some (row.getD j ("", [], [])) := by rw [List.getD_eq_getElem?_getD, List.getElem?_eq_getElem (by omega)]; rfl
  have hm : row.getD j ("", [], []) ∈ ownS (row.take k) n := List.mem_filter.mpr ⟨List.mem_iff_getElem?.mpr ⟨j, by rw [List.getElem?_take_of_lt hj]; exact hjR⟩, decide_eq_true e'⟩
  rw [ho] at hm
  cases hm
theorem done_bi_none (M : MineAt st m h sh row k) {n : Str} {q : List Str} (hn : valS sh n = some q) (ho : ownS (row.take k) n = []) (p : List Str) : Fz_law_done [.res m, .int 4, .str n, pl p] st = .ok (RF 0) st := by
  have hle := M.le
  have hrl := M.rl
  have e1 := M.at_
  obtain ⟨RD, hRD⟩ : ∃ RD, RD = row.map psD := ⟨_, rfl⟩
  have c1 := idx_c (k := k) hle hrl n st hRD
  rw [own_idx hle n ho, List.map_nil] at c1
  have g1 : rngOk (k : Int) = true := rngOk_of (by omega) (by omega)
  have q2 : (2 : Nat) ≤ small := by decide
  have e2 : eqD (.lst []) (.lst []) st = .ok (.bl true) st := by rw [eqD_nice rfl rfl]; simp
  unfold Fz_law_done
  refine run_rt rfl (done_go M (fun _ => ⟨q, hn⟩) p _ ?_)
  rw [← hRD]
  unfold Pz_law_done_p3 Pz_law_done_p4 Pz_law_done_p5 Pz_law_done_p6 Pz_law_done_p11
  simp only [Int.zero_add] at c1
  simp [eqI, z_getDd, e1, dRng1, g1, capEv, c1, e2, q2]
theorem done_bi (M : MineAt st m h sh row k) {n : Str} {q : List Str} (hn : valS sh n = some q) {l : Nat} {sl : PStep} (hl : row[l]? = some sl) (hsl : sl.1 = n) (hlk : l < k) (hne : ∀ j s, l < j → j < k → row[j]? = some s → s.1 ≠ n) (hw : Wf sh row) (p : List Str) :
    ∃ st', Fz_law_done [.res m, .int 4, .str n, pl p] st = .ok (.int ((k : Int) - l)) st' ∧ MineAt st' m h (bkS row k (k - l) sh) row l ∧ ChgM st st' m h := by
  have hle := M.le
  have hrl := M.rl
  have e1 := M.at_
  obtain ⟨RD, hRD⟩ : ∃ RD, RD = row.map psD := ⟨_, rfl⟩
  have c1 := idx_c (k := k) hle hrl n st hRD
  obtain ⟨_, t2⟩ := own_tail hl hsl k hlk hle hne
  have c2 := ix_last (xs := ((List.range k).filter fun j => decide ((row.getD j ("", [], [])).1 = n)).map fun (i : Nat) => D.int (0 + i)) (v := D.int (0 + l)) (by rw [List.getLast?_map, t2]; rfl) st
  have hnil : ((List.range k).filter fun j => decide ((row.getD j ("", [], [])).1 = n)) ≠ [] := fun z => by rw [z] at t2; cases t2
  have e2 : eqD (.lst (((List.range k).filter fun j => decide ((row.getD j ("", [], [])).1 = n)).map fun (i : Nat) => D.int (0 + i))) (.lst []) st = .ok (.bl false) st := by
    rw [eqD_nice (nice_intL _) rfl]
    have : ¬ (D.lst (((List.range k).filter fun j => decide ((row.getD j ("", [], [])).1 = n)).map fun (i : Nat) => D.int (0 + i)) = D.lst []) := by
      rw [D.lst.injEq, List.map_eq_nil_iff]
      exact hnil
    simp only [this, decide_false]
  have e5 : (0 : Int) + l = l := by omega
  rw [e5] at c2
  generalize ((List.range k).filter fun j => decide ((row.getD j ("", [], [])).1 = n)).map (fun (i : Nat) => D.int (0 + i)) = T at c1 c2 e2
  have g1 : rngOk (k : Int) = true := rngOk_of (by omega) (by omega)
  obtain ⟨N, hN⟩ : ∃ N, k - l = N := ⟨_, rfl⟩
  have hNI : ((k : Int) - l) = (N : Int) := by omega
  have g2 : rngOk (N : Int) = true := rngOk_of (by omega) (by omega)
  obtain ⟨vs, st', c3, hvl, M', C'⟩ := compD_st (chk := fun _ => True) (t := tgName 0) (fe := Ez_law_done_2) (fun ρ => ∃ a, ρ = [a, some (.res m)]) (fun j s => MineAt s m h (bkS row k j sh) row (k - j) ∧ ChgM st s m h) (fun _ _ _ => trivial) (g := fun (i : Nat) => D.int (0 + i)) N 0 [none, some (.res m)] st [] ⟨_, rfl⟩ ⟨M, ChgM.refl _ _ _⟩ (by simp; exact small_ge (by omega)) (by
    rintro j _ hj ρ s ⟨a, rfl⟩ ⟨Mj, Cj⟩
    have hjk : j < k := by omega
    have hs : row[k - 1 - j]? = some (row.getD (k - 1 - j) ("", [], [])) := by rw [List.getD_eq_getElem?_getD, List.getElem?_eq_getElem (by omega)]; rfl
    have hwj : Wf (bkS row k j sh) row := Wf.bk j k hw
    obtain ⟨q', hq'⟩ := hwj.at hs
    obtain ⟨s1, eb, M1, C1⟩ := Mj.back (j := k - 1 - j) (by omega) hs (by rw [putS_len' _ hq', bkS_len j k hw (by omega) hle]; exact M.sl)
    refine ⟨[some (.int (0 + (j : Int))), some (.res m)], .str (row.getD (k - 1 - j) ("", [], [])).1, s1, rfl, ⟨_, rfl⟩, ?_, ?_, Cj.trans C1⟩
    · unfold Ez_law_done_2
      simp only [z_call, z_cons, z_nil, z_var, List.getElem?_cons_zero, List.getElem?_cons_succ, z_bind_ok, eb]
    · rw [bkS_succ]
      rw [show k - (j + 1) = k - 1 - j by omega]
      exact M1)
  rw [Nat.zero_add] at M'
  refine ⟨st', ?_, by rw [hN]; rw [show k - N = l by omega] at M'; exact M', C'⟩
  rw [← List.range_eq_range'] at c3
  have l3 := lenL vs st'
  rw [hvl] at l3
  unfold Fz_law_done
  refine run_rt rfl (done_go M (fun _ => ⟨q, hn⟩) p _ ?_)
  rw [← hRD]
  unfold Pz_law_done_p3 Pz_law_done_p4 Pz_law_done_p5 Pz_law_done_p6 Pz_law_done_p11
  simp only [Int.zero_add] at c1 c3
  simp [eqI, z_getDd, e1, dRng1, g1, g2, capEv, c1, e2, c2, subD_int, hNI, c3, l3]
theorem oth_cc (C : DT) (E : DE) (hC : ∀ (s : PStep) (n : Str) (st : Sto), C [some (psD s), some (.str n)] st = .ok (decide (s.1 ≠ n)) st) (hE : ∀ (s : PStep) (n : Str) (st : Sto), E [some (psD s), some (.str n)] st = .ok (psD s) st) {L : List PStep} (hl : L.length ≤ 100) (n : Str) (st : Sto) {T : List D} (hT : T = L.map psD) :
    compD (fun st => itemsOf st (.lst T) = some T) (tgName 0) C E T [none, some (.str n)] st [] = .ok ((othS L n).map psD) st := by
  subst hT
  have hc : itemsOf st (.lst (L.map psD)) = some (L.map psD) := rfl
  rw [compD_fm (chk := fun st => itemsOf st (.lst (L.map psD)) = some (L.map psD)) psD (fun s => decide (s.1 ≠ n)) psD (fun ρ => ∃ a, ρ = [a, some (.str n)]) hc L _ [] ⟨_, rfl⟩ (by simp; exact small_ge (by omega))]
  · rfl
  · rintro x hx ρ ⟨a, rfl⟩
    exact ⟨_, rfl, ⟨_, rfl⟩, hC x n st, fun _ => hE x n st⟩
theorem own_cc (C : DT) (E : DE) (hC : ∀ (s : PStep) (n : Str) (st : Sto), C [some (psD s), some (.str n)] st = .ok (decide (s.1 = n)) st) (hE : ∀ (s : PStep) (n : Str) (st : Sto), E [some (psD s), some (.str n)] st = .ok (psD s) st) {L : List PStep} (hl : L.length ≤ 100) (n : Str) (st : Sto) {T : List D} (hT : T = L.map psD) :
    compD (fun st => itemsOf st (.lst T) = some T) (tgName 0) C E T [none, some (.str n)] st [] = .ok ((ownS L n).map psD) st := by
  subst hT
  have hc : itemsOf st (.lst (L.map psD)) = some (L.map psD) := rfl
  rw [compD_fm (chk := fun st => itemsOf st (.lst (L.map psD)) = some (L.map psD)) psD (fun s => decide (s.1 = n)) psD (fun ρ => ∃ a, ρ = [a, some (.str n)]) hc L _ [] ⟨_, rfl⟩ (by simp; exact small_ge (by omega))]
  · rfl
  · rintro x hx ρ ⟨a, rfl⟩
    exact ⟨_, rfl, ⟨_, rfl⟩, hC x n st, fun _ => hE x n st⟩
theorem hE0 (s : PStep) (n : Str) (st : Sto) : (dVar 0 : DE) [some (psD s), some (.str n)] st = .ok (psD s) st := rfl
theorem hCeq (s : PStep) (n : Str) (st : Sto) : (dB (dBin eqD (dBin ixD (dVar 0) (dC (.int 0))) (dVar 1))) [some (psD s), some (.str n)] st = .ok (decide (s.1 = n)) st := by simp [ps0, eqS]
theorem hCne (s : PStep) (n : Str) (st : Sto) : (dB (dBin neD (dBin ixD (dVar 0) (dC (.int 0))) (dVar 1))) [some (psD s), some (.str n)] st = .ok (decide (s.1 ≠ n)) st := by simp [ps0, neS]
theorem done_close (M : MineAt st m h sh row k) {n : Str} {q : List Str} (hn : valS sh n = some q) (p : List Str) :
    ∃ st', Fz_law_done [.res m, .int 5, .str n, pl p] st = .ok (.int ((row.length : Int) - (othS row n).length)) st' ∧ MineAt st' m h (dropS sh n) (othS row n) (othS (row.take k) n).length ∧ ChgM st st' m h := by
  have hle := M.le
  have hrl := M.rl
  have e1 := M.at_
  obtain ⟨RD, hRD⟩ : ∃ RD, RD = row.map psD := ⟨_, rfl⟩
  obtain ⟨T, hT⟩ : ∃ T, T = (row.take k).map psD := ⟨_, rfl⟩
  obtain ⟨T1, hT1⟩ : ∃ T1, T1 = (othS (row.take k) n).map psD := ⟨_, rfl⟩
  obtain ⟨T2, hT2⟩ : ∃ T2, T2 = (othS row n).map psD := ⟨_, rfl⟩
  obtain ⟨k', hk'⟩ : ∃ k', k' = (othS (row.take k) n).length := ⟨_, rfl⟩
  have hsub : othS row n = othS (row.take k) n ++ othS (row.drop k) n := by
    unfold othS
    rw [← List.filter_append, List.take_append_drop]
  have hk2 : k' ≤ (othS row n).length := by rw [hsub, hk', List.length_append]; omega
  have hol : (othS row n).length ≤ row.length := List.length_filter_le _ _
  have c0 : cutL RD none (some (k : Int)) = T := by rw [cutL_to, hRD, hT, List.map_take]
  have c1 := oth_cc Cz_law_done_2 Ez_law_done_3 hCne hE0 (L := row.take k) (by rw [List.length_take]; omega) n st hT
  rw [← hT1] at c1
  have l1 := lenL T1 st
  rw [hT1, List.length_map, ← hT1, ← hk'] at l1
  have M1 := M.setM (row' := row) (k' := k') (by omega) hrl
  have p1 := M.putAt (.int k')
  rw [← hRD] at p1 M1
  have c2 := oth_cc Cz_law_done_3 Ez_law_done_4 hCne hE0 (L := row) hrl n (st.set m (.dct (mD (.lst RD) (.int k') (.res h)))) hRD
  rw [← hT2] at c2
  have p2 := M1.putRows (.lst T2)
  have M2 := M1.setM (row' := othS row n) (k' := k') hk2 (by omega)
  rw [← hT2] at M2
  have M3 := M2.setH (sh' := dropS sh n) (Nat.le_trans (List.length_filter_le _ _) M.sl)
  have e3 := M2.here
  have e4 := M3.rows
  rw [← hT2] at e4
  refine ⟨_, ?_, by rw [← hk']; exact M3, (chgM_m _ m h _).trans ((chgM_m _ m h _).trans (chgM_h _ m h _))⟩
  have hpop : ∀ (fo fi : DE) (ρ : Ev), fo ρ ((st.set m (.dct (mD (.lst RD) (.int k') (.res h)))).set m (.dct (mD (.lst T2) (.int k') (.res h)))) = .ok (.res h) ((st.set m (.dct (mD (.lst RD) (.int k') (.res h)))).set m (.dct (mD (.lst T2) (.int k') (.res h)))) →
      fi ρ ((st.set m (.dct (mD (.lst RD) (.int k') (.res h)))).set m (.dct (mD (.lst T2) (.int k') (.res h)))) = .ok (.str n) ((st.set m (.dct (mD (.lst RD) (.int k') (.res h)))).set m (.dct (mD (.lst T2) (.int k') (.res h)))) →
      dPopD fo fi ρ ((st.set m (.dct (mD (.lst RD) (.int k') (.res h)))).set m (.dct (mD (.lst T2) (.int k') (.res h)))) = .ok (pl q) (((st.set m (.dct (mD (.lst RD) (.int k') (.res h)))).set m (.dct (mD (.lst T2) (.int k') (.res h)))).set h (.dct ((dropS sh n).map shD))) := by
    intro fo fi ρ h1 h2
    have e1 : valD keyD (sh.map shD) (.str n) = some (pl q) := by rw [valS_D, hn]; rfl
    have e2 : keyD (.str n) = some (.inr n) := rfl
    simp only [z_dPopD, h1, z_bind_ok, M2.he, h2, e1, e2, dropS_D]
  generalize st.set m (.dct (mD (.lst RD) (.int k') (.res h))) = st1 at *
  generalize st1.set m (.dct (mD (.lst T2) (.int k') (.res h))) = st2 at *
  generalize st2.set h (.dct ((dropS sh n).map shD)) = st3 at *
  have l2 := lenL RD st3
  rw [hRD, List.length_map, ← hRD] at l2
  have l3 := lenL T2 st3
  rw [hT2, List.length_map, ← hT2] at l3
  have hiT : itemsOf st (.lst T) = some T := rfl
  have hiR : itemsOf st1 (.lst RD) = some RD := rfl
  unfold Fz_law_done
  refine run_rt rfl (done_go M (fun _ => ⟨q, hn⟩) p _ ?_)
  rw [← hRD]
  unfold Pz_law_done_p3 Pz_law_done_p4 Pz_law_done_p5 Pz_law_done_p6 Pz_law_done_p11
  have d1 : Pz_law_done_p12 (ED m 5 n p (some (.lst RD)) none) st = .nx (ED m 5 n p (some (.lst RD)) none) st1 := by
    unfold Pz_law_done_p12
    simp [z_sPutD, z_getDd, e1, cutF_l, c0, hiT, capEv, c1, l1, p1]
  have d2 : Pz_law_done_p13 (ED m 5 n p (some (.lst RD)) none) st1 = .nx (ED m 5 n p (some (.lst RD)) none) st2 := by
    unfold Pz_law_done_p13
    simp [z_sPutD, hiR, capEv, c2, p2]
  have d3 : Pz_law_done_p14 (ED m 5 n p (some (.lst RD)) none) st2 = .nx (ED m 5 n p (some (.lst RD)) none) st3 := by
    unfold Pz_law_done_p14
    rw [z_sExpr, hpop _ _ _ (by simp [z_getDd, e3]) rfl]
    rfl
  have d4 : Pz_law_done_p15 (ED m 5 n p (some (.lst RD)) none) st3 = .rt (.int ((row.length : Int) - (othS row n).length)) st3 := by
    unfold Pz_law_done_p15
    simp [z_getDd, e4, l2, l3, subD_int]
  refine seq_rt ?_
  rw [sif_f (st' := st) (by simp [eqI]), sif_f (st' := st) (by simp [eqI]), sif_f (st' := st) (by simp [eqI]), sif_f (st' := st) (by simp [eqI]), sif_f (st' := st) (by simp [eqI])]
  exact (seq_nx d1).trans ((seq_nx d2).trans ((seq_nx d3).trans d4))
end
structure Bo (cv : Nat → Addr) (st : Sto) (b d i m h b2 d2 i2 : Nat) (sh1 : Sh) (row1 : List PStep) (k1 : Nat) (sh2 : Sh) (row2 : List PStep) (k2 : Nat) : Prop where
  P : PanesAt cv st b d i sh1 row1 k1
  M : MineAt st m h sh2 row2 k2
  O : PanesAt cv st b2 d2 i2 [] [] 0
  md : m ≠ d
  hd : h ≠ d
  bb : b2 ≠ b
  dd : d2 ≠ d
  dm : d2 ≠ m
  dh : d2 ≠ h
theorem PanesAt.frame {cv : Nat → Addr} {st st' : Sto} {b d i : Nat} {sh : Sh} {row : List PStep} {k : Nat} (B : PanesAt cv st b d i sh row k) (h1 : ∀ x, st[b]? = some x → st'[b]? = some x) (h2 : ∀ x, st[d]? = some x → st'[d]? = some x) (h3 : ∀ x, st[i]? = some x → st'[i]? = some x) : PanesAt cv st' b d i sh row k :=
  ⟨h1 _ B.ob, h2 _ B.dc, h3 _ B.rw, B.le, B.rl, B.sl⟩
theorem MineAt.frame {st st' : Sto} {m h : Nat} {sh : Sh} {row : List PStep} {k : Nat} (B : MineAt st m h sh row k) (h1 : ∀ x, st[m]? = some x → st'[m]? = some x) (h2 : ∀ x, st[h]? = some x → st'[h]? = some x) : MineAt st' m h sh row k :=
  ⟨h1 _ B.mo, h2 _ B.he, B.mh, B.le, B.rl, B.sl⟩
section
variable {cv : Nat → Addr} {st st' : Sto} {b d i m h b2 d2 i2 : Nat} {sh1 : Sh} {row1 : List PStep} {k1 : Nat} {sh2 : Sh} {row2 : List PStep} {k2 : Nat}
theorem Bo.stepP (B : Bo cv st b d i m h b2 d2 i2 sh1 row1 k1 sh2 row2 k2) {i' : Nat} {sh' : Sh} {row' : List PStep} {k' : Nat} (C : ChgP st st' b d i i') (P' : PanesAt cv st' b d i' sh' row' k') : Bo cv st' b d i' m h b2 d2 i2 sh' row' k' sh2 row2 k2 := by
  refine ⟨P', ?_, ?_, B.md, B.hd, B.bb, B.dd, B.dm, B.dh⟩
  · exact B.M.frame (fun x hx => C.fr _ x hx (two_ne' B.M.mo B.P.ob (by intro h; cases h)) B.md) (fun x hx => C.fr _ x hx (two_ne' B.M.he B.P.ob (by intro h; cases h)) B.hd)
  · exact B.O.frame (fun x hx => C.fr _ x hx B.bb (two_ne' B.O.ob B.P.dc (by intro h; cases h))) (fun x hx => C.fr _ x hx (two_ne' B.O.dc B.P.ob (by intro h; cases h)) B.dd) (fun x hx => C.fr _ x hx (two_ne' B.O.rw B.P.ob (by intro h; cases h)) (two_ne' B.O.rw B.P.dc (by intro h; cases h)))
theorem Bo.stepM (B : Bo cv st b d i m h b2 d2 i2 sh1 row1 k1 sh2 row2 k2) {sh' : Sh} {row' : List PStep} {k' : Nat} (C : ChgM st st' m h) (M' : MineAt st' m h sh' row' k') : Bo cv st' b d i m h b2 d2 i2 sh1 row1 k1 sh' row' k' := by
  refine ⟨?_, M', ?_, B.md, B.hd, B.bb, B.dd, B.dm, B.dh⟩
  · exact B.P.frame (fun x hx => C.fr _ x hx (two_ne' B.P.ob B.M.mo (by intro h; cases h)) (two_ne' B.P.ob B.M.he (by intro h; cases h))) (fun x hx => C.fr _ x hx (Ne.symm B.md) (Ne.symm B.hd)) (fun x hx => C.fr _ x hx (two_ne' B.P.rw B.M.mo (by intro h; cases h)) (two_ne' B.P.rw B.M.he (by intro h; cases h)))
  · exact B.O.frame (fun x hx => C.fr _ x hx (two_ne' B.O.ob B.M.mo (by intro h; cases h)) (two_ne' B.O.ob B.M.he (by intro h; cases h))) (fun x hx => C.fr _ x hx B.dm B.dh) (fun x hx => C.fr _ x hx (two_ne' B.O.rw B.M.mo (by intro h; cases h)) (two_ne' B.O.rw B.M.he (by intro h; cases h)))
theorem Bo.app (B : Bo cv st b d i m h b2 d2 i2 sh1 row1 k1 sh2 row2 k2) (t : Sto) : Bo cv (st ++ t) b d i m h b2 d2 i2 sh1 row1 k1 sh2 row2 k2 := by
  have e : ∀ j x, st[j]? = some x → (st ++ t)[j]? = some x := fun j x hx => by
    rw [List.getElem?_append_left (List.getElem?_eq_some_iff.mp hx).1]; exact hx
  exact ⟨B.P.app t, B.M.frame (fun x => e _ x) (fun x => e _ x), B.O.app t, B.md, B.hd, B.bb, B.dd, B.dm, B.dh⟩
end
section
variable {cv : Nat → Addr} (hcv : apart cv)
include hcv
theorem look11 (x y z : Bool) : List.lookup (cv 11) [(cv 12, x), (cv 11, y), (cv 13, z)] = some y := by
  have h : (cv 11 == cv 12) = false := by simpa using hcv.1
  simp [List.lookup, h]
theorem look12 (x y z : Bool) : List.lookup (cv 12) [(cv 12, x), (cv 11, y), (cv 13, z)] = some x := by simp [List.lookup]
theorem look13 (x y z : Bool) : List.lookup (cv 13) [(cv 12, x), (cv 11, y), (cv 13, z)] = some z := by
  have h : (cv 13 == cv 12) = false := by simpa using Ne.symm hcv.2.2
  have h' : (cv 13 == cv 11) = false := by simpa using Ne.symm hcv.2.1
  simp [List.lookup, h, h']
theorem ref_11 (st : Sto) : Fz_law_refused cv [.exv (cv 11)] st = .ok (RF 0) st := by
  have e1 : eqsOf st (.bl true) [.bl true, .bl false, .bl false, .bl false] = some [true, false, false, false] := rfl
  have n1 := neD_int 1 1 st
  have q4 : (4 : Nat) ≤ small := by decide
  have q3 : (3 : Nat) ≤ small := by decide
  have q1 : (1 : Nat) ≤ small := by decide
  have c : catL (.lst [.bl true, .bl false, .bl false]) (.lst [.bl false]) st = .ok [.bl true, .bl false, .bl false, .bl false] st := by simp [catL, ownL, q4]
  unfold Fz_law_refused gz_law_refused
  simp [look11 hcv, q1, q3, c, countD, indexD, seqL, e1, n1]
theorem ref_12 (st : Sto) : Fz_law_refused cv [.exv (cv 12)] st = .ok (RF 1) st := by
  have e1 : eqsOf st (.bl true) [.bl false, .bl true, .bl false, .bl false] = some [false, true, false, false] := rfl
  have n1 := neD_int 1 1 st
  have q4 : (4 : Nat) ≤ small := by decide
  have q3 : (3 : Nat) ≤ small := by decide
  have q1 : (1 : Nat) ≤ small := by decide
  have c : catL (.lst [.bl false, .bl true, .bl false]) (.lst [.bl false]) st = .ok [.bl false, .bl true, .bl false, .bl false] st := by simp [catL, ownL, q4]
  unfold Fz_law_refused gz_law_refused
  simp [look12 hcv, q1, q3, c, countD, indexD, seqL, e1, n1]
  rfl
theorem ref_13 (st : Sto) : Fz_law_refused cv [.exv (cv 13)] st = .ok (RF 2) st := by
  have e1 : eqsOf st (.bl true) [.bl false, .bl false, .bl true, .bl false] = some [false, false, true, false] := rfl
  have n1 := neD_int 1 1 st
  have q4 : (4 : Nat) ≤ small := by decide
  have q3 : (3 : Nat) ≤ small := by decide
  have q1 : (1 : Nat) ≤ small := by decide
  have c : catL (.lst [.bl false, .bl false, .bl true]) (.lst [.bl false]) st = .ok [.bl false, .bl false, .bl true, .bl false] st := by simp [catL, ownL, q4]
  unfold Fz_law_refused gz_law_refused
  simp [look13 hcv, q1, q3, c, countD, indexD, seqL, e1, n1]
  rfl
end
section
variable {cv : Nat → Addr} {st : Sto} {b : Nat}
theorem told_rt {w : Int} {n : Str} {p d : D} {st' : Sto} (h : Tz_law_told_1 cv [some (.res b), some (.int w), some (.str n), some p, none] st = .rt d st') : Fz_law_told cv [.res b, .int w, .str n, p] st = .ok d st' := by
  unfold Fz_law_told gz_law_told
  simp [z_sTry, h]
theorem told_ex {w : Int} {n : Str} {p d : D} {c : Addr} (hc : c = cv 12 ∨ c = cv 11 ∨ c = cv 13) (h : Tz_law_told_1 cv [some (.res b), some (.int w), some (.str n), some p, none] st = .exc c st) (hr : Fz_law_refused cv [.exv c] st = .ok d st) : Fz_law_told cv [.res b, .int w, .str n, p] st = .ok d st := by
  have t2 : Hz_law_told_1 cv [none, none, none, none, some (.exv c)] st = .rt d st := by
    unfold Hz_law_told_1
    simp [hr]
  have hm : c ∈ [cv 12, cv 11, cv 13] := by simpa using hc
  unfold Fz_law_told gz_law_told
  simp only [z_runF, List.length_cons, List.length_nil, Nat.zero_add, Nat.reduceAdd, if_true, List.map_cons, List.map_nil, Nat.reduceSub, List.replicate_succ, List.replicate_zero, List.cons_append, List.nil_append, z_sTry, h, if_pos hm, z_handAs, List.set_cons_succ, List.set_cons_zero, t2]
end
noncomputable def toS (r : Out D) : OutS := match r with
  | .ok d st' => .rt d st'
  | .exc c st' => .exc c st'
  | .bad => .bad
theorem ret_toS {f : DE} {ρ : Ev} {st : Sto} : sRet f ρ st = toS (f ρ st) := by
  cases h : f ρ st <;> (rw [z_sRet, h]; rfl)
theorem seq_rtS {g g' : DS} {ρ : Ev} {st : Sto} {r : Out D} (h : g ρ st = toS r) : sSeq g g' ρ st = toS r := by
  cases r <;> simp [toS, h] at h ⊢ <;> simp [h]
section
variable {cv : Nat → Addr} {st : Sto} {b d i : Nat} {sh : Sh} {row : List PStep} {k : Nat}
theorem t_0 (P : PanesAt cv st b d i sh row k) (n : Str) (p : D) : Tz_law_told_1 cv [some (.res b), some (.int 0), some (.str n), some p, none] st = toS (FzPanes_add cv [.res b, .str n, p] st) := by
  unfold Tz_law_told_1
  refine seq_rtS ?_
  rw [sif_t (st' := st) (by simp [eqI]), ret_toS]
  simp [z_meth, P.ins, pn_add]
theorem t_1 (P : PanesAt cv st b d i sh row k) (n : Str) (p : D) : Tz_law_told_1 cv [some (.res b), some (.int 1), some (.str n), some p, none] st = toS (FzPanes_visit cv [.res b, .str n, p] st) := by
  unfold Tz_law_told_1
  rw [seq_nx (sif_no (st' := st) (by simp [eqI]))]
  refine seq_rtS ?_
  rw [sif_t (st' := st) (by simp [eqI]), ret_toS]
  simp [z_meth, P.ins, pn_visit]
theorem t_2 (P : PanesAt cv st b d i sh row k) (n : Str) (p : D) : Tz_law_told_1 cv [some (.res b), some (.int 2), some (.str n), some p, none] st = toS (FzPanes_back cv [.res b] st) := by
  unfold Tz_law_told_1
  rw [seq_nx (sif_no (st' := st) (by simp [eqI])), seq_nx (sif_no (st' := st) (by simp [eqI]))]
  refine seq_rtS ?_
  rw [sif_t (st' := st) (by simp [eqI]), ret_toS]
  simp [z_meth, P.ins, pn_back]
theorem t_3 (P : PanesAt cv st b d i sh row k) (n : Str) (p : D) : Tz_law_told_1 cv [some (.res b), some (.int 3), some (.str n), some p, none] st = toS (FzPanes_forth cv [.res b] st) := by
  unfold Tz_law_told_1
  rw [seq_nx (sif_no (st' := st) (by simp [eqI])), seq_nx (sif_no (st' := st) (by simp [eqI])), seq_nx (sif_no (st' := st) (by simp [eqI]))]
  refine seq_rtS ?_
  rw [sif_t (st' := st) (by simp [eqI]), ret_toS]
  simp [z_meth, P.ins, pn_forth]
theorem t_4 (P : PanesAt cv st b d i sh row k) (n : Str) (p : D) : Tz_law_told_1 cv [some (.res b), some (.int 4), some (.str n), some p, none] st = toS (FzPanes_back_in cv [.res b, .str n] st) := by
  unfold Tz_law_told_1
  rw [seq_nx (sif_no (st' := st) (by simp [eqI])), seq_nx (sif_no (st' := st) (by simp [eqI])), seq_nx (sif_no (st' := st) (by simp [eqI])), seq_nx (sif_no (st' := st) (by simp [eqI])), ret_toS]
  simp [eqI, z_meth, P.ins, pn_back_in]
theorem t_5 (P : PanesAt cv st b d i sh row k) (n : Str) (p : D) : Tz_law_told_1 cv [some (.res b), some (.int 5), some (.str n), some p, none] st = toS (FzPanes_close cv [.res b, .str n] st) := by
  unfold Tz_law_told_1
  rw [seq_nx (sif_no (st' := st) (by simp [eqI])), seq_nx (sif_no (st' := st) (by simp [eqI])), seq_nx (sif_no (st' := st) (by simp [eqI])), seq_nx (sif_no (st' := st) (by simp [eqI])), ret_toS]
  simp [eqI, z_meth, P.ins, pn_close]
end
theorem step_eq {cv : Nat → Addr} (hcv : apart cv) {st : Sto} {b d i m h b2 d2 i2 : Nat} {sh : Sh} {row : List PStep} {k : Nat} (B : Bo cv st b d i m h b2 d2 i2 sh row k sh row k) (hw : Wf sh row) (hsl : sh.length < 50) (hrl : row.length < 50) {w : Int} (h0 : 0 ≤ w) (h5 : w ≤ 5) (n : Str) (p : List Str) :
    ∃ r st1 st2 i' sh' row' k', Fz_law_told cv [.res b, .int w, .str n, pl p] st = .ok r st1 ∧ Fz_law_done [.res m, .int w, .str n, pl p] st1 = .ok r st2 ∧ nice depth r = true ∧ Bo cv st2 b d i' m h b2 d2 i2 sh' row' k' sh' row' k' ∧ Wf sh' row' ∧ sh'.length ≤ sh.length + 1 ∧ row'.length ≤ row.length + 1 := by
  have hkr := B.P.le
  have no : ∀ {c : Addr} {z : Int}, (c = cv 12 ∨ c = cv 11 ∨ c = cv 13) → Fz_law_refused cv [.exv c] st = .ok (RF z) st → Tz_law_told_1 cv [some (.res b), some (.int w), some (.str n), some (pl p), none] st = .exc c st → Fz_law_done [.res m, .int w, .str n, pl p] st = .ok (RF z) st →
      ∃ r st1 st2 i' sh' row' k', Fz_law_told cv [.res b, .int w, .str n, pl p] st = .ok r st1 ∧ Fz_law_done [.res m, .int w, .str n, pl p] st1 = .ok r st2 ∧ nice depth r = true ∧ Bo cv st2 b d i' m h b2 d2 i2 sh' row' k' sh' row' k' ∧ Wf sh' row' ∧ sh'.length ≤ sh.length + 1 ∧ row'.length ≤ row.length + 1 :=
    fun hc hr ht hd => ⟨_, st, st, i, sh, row, k, told_ex hc ht hr, hd, rfl, B, hw, by omega, by omega⟩
  have w6 : w = 0 ∨ w = 1 ∨ w = 2 ∨ w = 3 ∨ w = 4 ∨ w = 5 := by omega
  rcases w6 with rfl | rfl | rfl | rfl | rfl | rfl
  · cases hn : valS sh n with
    | some q => exact no (.inr (.inr rfl)) (ref_13 hcv st) (by rw [t_0 B.P, B.P.add_no hn]; rfl) (done_add_no B.M hn p)
    | none =>
      obtain ⟨st1, e1, P1, C1⟩ := B.P.add hn (by omega) p
      have B1 := B.stepP C1 P1
      obtain ⟨st2, e2, M2, C2⟩ := done_add B1.M hn (by omega) p
      exact ⟨_, st1, st2, i, _, _, _, told_rt (by rw [t_0 B.P, e1]; rfl), e2, rfl, B1.stepM C2 M2, hw.put n p, putS_len sh n p, by omega⟩
  · cases hn : valS sh n with
    | none => exact no (.inl rfl) (ref_12 hcv st) (by rw [t_1 B.P, B.P.visit_no hn]; rfl) (done_no B.M (.inl rfl) hn p)
    | some q =>
      obtain ⟨st1, i1, e1, P1, C1⟩ := B.P.visit hn (by omega) p
      have B1 := B.stepP C1 P1
      obtain ⟨st2, e2, M2, C2⟩ := done_visit B1.M hn (by omega) p
      refine ⟨_, st1, st2, i1, _, _, _, told_rt (by rw [t_1 B.P, e1]; rfl), e2, rfl, B1.stepM C2 M2, ?_, by rw [putS_len' _ hn]; omega, by simp; omega⟩
      intro s hs
      rcases List.mem_append.mp hs with hs | hs
      · exact (hw.put n p) s (List.mem_of_mem_take hs)
      · rw [List.mem_singleton.mp hs]
        exact ⟨p, valS_put_same _ _ _⟩
  · by_cases hk : k = 0
    · exact no (.inr (.inl rfl)) (ref_11 hcv st) (by rw [t_2 B.P, B.P.back_no hk]; rfl) (done_back_no B.M hk n p)
    · obtain ⟨j, hj⟩ : ∃ j, k = j + 1 := ⟨k - 1, by omega⟩
      have hs : row[j]? = some row[j] := List.getElem?_eq_getElem (by omega)
      obtain ⟨q, hq⟩ := hw.at hs
      have hlen : (putS sh row[j].1 row[j].2.1).length = sh.length := putS_len' _ hq
      obtain ⟨st1, e1, P1, C1⟩ := B.P.back hj hs (by omega)
      have B1 := B.stepP C1 P1
      obtain ⟨st2, e2, M2, C2⟩ := done_back B1.M hj hs (by omega) n p
      exact ⟨_, st1, st2, i, _, _, _, told_rt (by rw [t_2 B.P, e1]; rfl), e2, rfl, B1.stepM C2 M2, hw.put _ _, by omega, by omega⟩
  · by_cases hk : k = row.length
    · exact no (.inr (.inl rfl)) (ref_11 hcv st) (by rw [t_3 B.P, B.P.forth_no hk]; rfl) (done_forth_no B.M hk n p)
    · have hs : row[k]? = some row[k] := List.getElem?_eq_getElem (by omega)
      obtain ⟨q, hq⟩ := hw.at hs
      have hlen : (putS sh row[k].1 row[k].2.2).length = sh.length := putS_len' _ hq
      obtain ⟨st1, e1, P1, C1⟩ := B.P.forth hs (by omega)
      have B1 := B.stepP C1 P1
      obtain ⟨st2, e2, M2, C2⟩ := done_forth B1.M hs (by omega) n p
      exact ⟨_, st1, st2, i, _, _, _, told_rt (by rw [t_3 B.P, e1]; rfl), e2, rfl, B1.stepM C2 M2, hw.put _ _, by omega, by omega⟩
  · cases hn : valS sh n with
    | none => exact no (.inl rfl) (ref_12 hcv st) (by rw [t_4 B.P, B.P.back_in_no hn]; rfl) (done_no B.M (.inr (.inl rfl)) hn p)
    | some q =>
      by_cases ho : ownS (row.take k) n = []
      · exact no (.inr (.inl rfl)) (ref_11 hcv st) (by rw [t_4 B.P, B.P.back_in_none hn ho]; rfl) (done_bi_none B.M hn ho p)
      · obtain ⟨l, s, hlk, hs, hsn, hne⟩ := last_own k hkr ho
        obtain ⟨st1, e1, P1, C1⟩ := B.P.back_in hn hs hsn hlk hne hw (by omega)
        have B1 := B.stepP C1 P1
        obtain ⟨st2, e2, M2, C2⟩ := done_bi B1.M hn hs hsn hlk hne hw p
        have hlen := bkS_len (k - l) k hw (by omega) hkr
        exact ⟨_, st1, st2, i, _, _, _, told_rt (by rw [t_4 B.P, e1]; rfl), e2, rfl, B1.stepM C2 M2, Wf.bk _ _ hw, by omega, by omega⟩
  · cases hn : valS sh n with
    | none => exact no (.inl rfl) (ref_12 hcv st) (by rw [t_5 B.P, B.P.close_no hn]; rfl) (done_no B.M (.inr (.inr rfl)) hn p)
    | some q =>
      obtain ⟨st1, i1, e1, P1, C1⟩ := B.P.close hn
      have B1 := B.stepP C1 P1
      obtain ⟨st2, e2, M2, C2⟩ := done_close B1.M hn p
      refine ⟨_, st1, st2, i1, _, _, _, told_rt (by rw [t_5 B.P, e1]; rfl), e2, rfl, B1.stepM C2 M2, ?_, Nat.le_succ_of_le (List.length_filter_le _ _), Nat.le_succ_of_le (List.length_filter_le _ _)⟩
      intro s hs
      obtain ⟨h1, h2⟩ := List.mem_filter.mp hs
      have h3 : s.1 ≠ n := by simpa using h2
      obtain ⟨q', hq'⟩ := hw s h1
      exact ⟨q', by rw [valS_drop_ne h3]; exact hq'⟩
theorem key_val {n : Str} : ∀ {sh : Sh}, n ∈ sh.map (·.1) → ∃ q, valS sh n = some q
  | [], h => by simp at h
  | x :: r, h => by
    rw [valS]
    by_cases e : x.1 = n
    · exact ⟨x.2, by rw [if_pos e]⟩
    · rw [if_neg e]
      rw [List.map_cons, List.mem_cons] at h
      rcases h with h | h
      · exact absurd h.symm e
      · exact key_val h
theorem pick11 (z : Int) (h0 : 0 ≤ z) (h1 : z < 11) (st : Sto) : ∃ w : Int, ixD (.lst [.int 0, .int 0, .int 1, .int 1, .int 1, .int 1, .int 2, .int 2, .int 3, .int 4, .int 5]) (.int z) st = .ok (.int w) st ∧ 0 ≤ w ∧ w ≤ 5 := by
  have : z = 0 ∨ z = 1 ∨ z = 2 ∨ z = 3 ∨ z = 4 ∨ z = 5 ∨ z = 6 ∨ z = 7 ∨ z = 8 ∨ z = 9 ∨ z = 10 := by omega
  rcases this with rfl | rfl | rfl | rfl | rfl | rfl | rfl | rfl | rfl | rfl | rfl
  · exact ⟨0, rfl, by decide, by decide⟩
  · exact ⟨0, rfl, by decide, by decide⟩
  · exact ⟨1, rfl, by decide, by decide⟩
  · exact ⟨1, rfl, by decide, by decide⟩
  · exact ⟨1, rfl, by decide, by decide⟩
  · exact ⟨1, rfl, by decide, by decide⟩
  · exact ⟨2, rfl, by decide, by decide⟩
  · exact ⟨2, rfl, by decide, by decide⟩
  · exact ⟨3, rfl, by decide, by decide⟩
  · exact ⟨4, rfl, by decide, by decide⟩
  · exact ⟨5, rfl, by decide, by decide⟩
theorem pick4 (z : Int) (h0 : 0 ≤ z) (h1 : z < 4) (st : Sto) : ∃ n : Str, ixD (.str "pqrs") (.int z) st = .ok (.str n) st := by
  have : z = 0 ∨ z = 1 ∨ z = 2 ∨ z = 3 := by omega
  rcases this with rfl | rfl | rfl | rfl <;> exact ⟨_, rfl⟩
noncomputable abbrev EL (ns : List Int) (b b2 m : Nat) (c4 c5 c6 c7 c8 c9 c10 c11 : Option D) : Ev := [some (.scr (ns.map .int)), some (.res b), some (.res b2), some (.res m), c4, c5, c6, c7, c8, c9, c10, c11]
section
variable {cv : Nat → Addr} {st : Sto} {b d i m h b2 d2 i2 : Nat} {sh : Sh} {row : List PStep} {k : Nat}
theorem Bo.sorted (B : Bo cv st b d i m h b2 d2 i2 sh row k sh row k) (hs : sh.length < 64) : sortDF [.res h] st = .ok ((SO.srtS (sh.map (·.1))).map D.str) st := by
  have e0 : (sh.map shD).map (·.1) = (sh.map (·.1)).map D.str := by
    rw [List.map_map, List.map_map]; rfl
  unfold sortDF
  simp only [B.M.he, e0, strsD_map, List.length_map, if_pos hs]
theorem nice_psL (L : List PStep) : ∀ x ∈ L.map psD, nice 49 x = true := by
  intro x hx
  obtain ⟨s, _, rfl⟩ := List.mem_map.mp hx
  exact nice_ps 46 s
theorem nice_strL (L : List Str) : nice depth (.lst (L.map D.str)) = true := nice_L D.str (fun _ => rfl) L
theorem p10_eq (ns : List Int) (B : Bo cv st b d i m h b2 d2 i2 sh row k sh row k) (hs : sh.length < 64) (c4 c5 c6 c7 c8 c9 c10 c11 : Option D) : ∃ x, Pzlaw_p10 cv (EL ns b b2 m c4 c5 c6 c7 c8 c9 c10 c11) st = .nx (EL ns b b2 m c4 c5 c6 c7 c8 c9 c10 c11) (st ++ [x]) := by
  obtain ⟨RD, hRD⟩ : ∃ RD, RD = row.map psD := ⟨_, rfl⟩
  refine ⟨.lst RD, ?_⟩
  have e1 := B.P.names hs
  have e2 := B.sorted hs
  have e3 := B.P.stepsR
  rw [← hRD] at e3
  have B1 := B.app [S.lst RD]
  have e4 := B1.M.rows
  rw [← hRD] at e4
  have e5 := B1.P.done
  have e6 := B1.M.at_
  have e7 := B.M.here
  have kd1 : kd (st ++ [S.lst RD]) (.res st.length) = .lst RD := by simp [kd]
  have hn := ne_kd (b := .lst RD) kd1 rfl (by rw [hRD]; exact nice_psL row)
  unfold Pzlaw_p10
  refine sif_no (tst_or (tst_ne (nice_strL (SO.srtS (sh.map (·.1)))) (st1 := st) (st2 := st) ?_ ?_) (tst_or (st1 := st ++ [.lst RD]) ?_ (tst_ne (a := .int k) rfl (st1 := st ++ [.lst RD]) ?_ ?_)))
  · simp [z_meth, B.P.ins, pn_names, e1]
  · simp [z_getDd, e7, e2]
  · simp [z_meth, B.P.ins, pn_steps, e3, z_getDd, e4, hn]
  · simp [z_meth, B1.P.ins, pn_done, e5]
  · simp [z_getDd, e6]
theorem part_cc (E : DE) (f : PStep → List Str) (hE : ∀ (s : PStep) (st : Sto), E [some (psD s)] st = .ok (pl (f s)) st) {L : List PStep} (hl : L.length ≤ 100) (st : Sto) {T : List D} (hT : T = L.map psD) :
    compD (fun st => itemsOf st (.lst T) = some T) (tgName 0) dTrue E T [none] st [] = .ok (L.map fun s => pl (f s)) st := by
  subst hT
  have hc : itemsOf st (.lst (L.map psD)) = some (L.map psD) := rfl
  refine compD_mm (chk := fun st => itemsOf st (.lst (L.map psD)) = some (L.map psD)) psD (fun s => pl (f s)) (fun ρ => ∃ a, ρ = [a]) hc L [none] [] ⟨_, rfl⟩ (by simp; exact small_ge (by omega)) ?_
  rintro x hx ρ ⟨a, rfl⟩
  exact ⟨_, rfl, ⟨_, rfl⟩, hE x st⟩
theorem one_eq (ns : List Int) (B : Bo cv st b d i m h b2 d2 i2 sh row k sh row k) (hr : row.length ≤ 50) {n : Str} {q : List Str} (hn : valS sh n = some q) (c4 c5 c6 c7 c8 c10 c11 : Option D) :
    ∃ d10 d11, Bzlaw_1 cv (EL ns b b2 m c4 c5 c6 c7 c8 (some (.str n)) c10 c11) st = .nx (EL ns b b2 m c4 c5 c6 c7 c8 (some (.str n)) d10 d11) st := by
  obtain ⟨RD, hRD⟩ : ∃ RD, RD = row.map psD := ⟨_, rfl⟩
  have e1 := B.M.rows
  rw [← hRD] at e1
  have c1 := own_cc Czlaw_1 Ezlaw_1 hCeq hE0 (L := row) (by omega) n st hRD
  obtain ⟨L, hL⟩ : ∃ L, L = ownS row n := ⟨_, rfl⟩
  rw [← hL] at c1
  have hLl : L.length ≤ 50 := by rw [hL]; exact Nat.le_trans (List.length_filter_le _ _) hr
  obtain ⟨WD, hW⟩ : ∃ WD, WD = L.map psD := ⟨_, rfl⟩
  rw [← hW] at c1
  have hiR : itemsOf st (.lst RD) = some RD := rfl
  have hiW : itemsOf st (.lst WD) = some WD := rfl
  obtain ⟨T1, hT1⟩ : ∃ T1, T1 = (L.take 1).map psD := ⟨_, rfl⟩
  have hiT : itemsOf st (.lst T1) = some T1 := rfl
  have ct : cutL WD none (some 1) = T1 := by
    rw [show (1 : Int) = ((1 : Nat) : Int) from rfl, cutL_to, hW, hT1, List.map_take]
  have c2 := part_cc Ezlaw_2 (fun s => s.2.1) (fun s st => by unfold Ezlaw_2; simp [ps1]) (L := L.take 1) (by rw [List.length_take]; omega) st hT1
  have c3 := part_cc Ezlaw_3 (fun s => s.2.2) (fun s st => by unfold Ezlaw_3; simp [ps2]) (L := L) (by omega) st hW
  obtain ⟨U1, hU1⟩ : ∃ U1, U1 = (L.take 1).map fun s => pl s.2.1 := ⟨_, rfl⟩
  obtain ⟨U2, hU2⟩ : ∃ U2, U2 = L.map fun s => pl s.2.2 := ⟨_, rfl⟩
  rw [← hU1] at c2
  rw [← hU2] at c3
  have c4' : catL (.lst U1) (.lst U2) st = .ok (U1 ++ U2) st := by
    have hs : U1.length + U2.length ≤ small := by
      rw [hU1, hU2, List.length_map, List.length_map, List.length_take]
      exact small_ge (by omega)
    simp only [catL, ownL, if_pos hs]
  have e2 := B.M.here
  have e3 := B.M.look n
  rw [hn] at e3
  have e4 := B.P.place hn
  have e5 := B.P.seen hn
  have q1 : (1 : Nat) ≤ small := by decide
  refine ⟨some (.lst WD), some (.lst (U1 ++ U2)), ?_⟩
  unfold Bzlaw_1
  refine (seq_nx (st' := st) (ρ' := EL ns b b2 m c4 c5 c6 c7 c8 (some (.str n)) (some (.lst WD)) c11) ?_).trans ?_
  · unfold Pzlaw_p12
    simp [z_getDd, e1, hiR, capEv, c1]
  refine (seq_nx (st' := st) (ρ' := EL ns b b2 m c4 c5 c6 c7 c8 (some (.str n)) (some (.lst WD)) (some (.lst (U1 ++ U2)))) ?_).trans ?_
  · unfold Pzlaw_p13
    simp [cutF_l, ct, hiT, hiW, capEv, c2, c3, c4']
  have hne : neD (.lst WD) (.lst []) st = .ok (.bl (!decide (L = []))) st := by
    rw [hW, neD_nice (nice_L psD (fun s => nice_ps 46 s) L) rfl]
    congr 3
    refine decide_eq_decide.mpr ?_
    rw [D.lst.injEq, List.map_eq_nil_iff]
  unfold Pzlaw_p14
  refine sif_no (tst_or (tst_ne (nice_pl' q) (st1 := st) (st2 := st) ?_ ?_) (tst_ne (nice_pls (seenV row n q)) (st1 := st) ?_ ?_))
  · simp [z_meth, B.P.ins, pn_place, e4]
  · simp [z_getDd, e2, e3]
  · simp [z_meth, B.P.ins, pn_seen, e5]
  · have hsv : seenV row n q = if L = [] then [q] else (L.take 1).map (fun s => s.2.1) ++ L.map fun s => s.2.2 := by
      unfold seenV
      rw [← hL]
      cases L with
      | nil => rfl
      | cons s r => simp
    by_cases hLn : L = []
    · rw [hsv, if_pos hLn]
      simp [hne, hLn, z_getDd, e2, e3, q1]
    · rw [hsv, if_neg hLn, List.map_append, List.map_map, List.map_map]
      have hu : U1 ++ U2 = ((L.take 1).map (pl ∘ fun s => s.2.1)) ++ (L.map (pl ∘ fun s => s.2.2)) := by rw [hU1, hU2]; rfl
      rw [← hu]
      simp [hne, hLn]
theorem p11_eq (ns : List Int) (B : Bo cv st b d i m h b2 d2 i2 sh row k sh row k) (hs : sh.length < 64) (hr : row.length ≤ 50) (c4 c5 c6 c7 c8 c9 c10 c11 : Option D) :
    ∃ d9 d10 d11, Pzlaw_p11 cv (EL ns b b2 m c4 c5 c6 c7 c8 c9 c10 c11) st = .nx (EL ns b b2 m c4 c5 c6 c7 c8 d9 d10 d11) st := by
  have e1 := B.M.here
  have e2 := B.sorted hs
  obtain ⟨L, hL⟩ : ∃ L, L = (SO.srtS (sh.map (·.1))).map D.str := ⟨_, rfl⟩
  rw [← hL] at e2
  obtain ⟨ρ', st', e3, ⟨d9, d10, d11, rfl, rfl⟩⟩ := loop_inv (chk := fun s => itemsOf s (.lst L) = some L) (t := tgName 9) (g := Bzlaw_1 cv) (fun ρ s => ∃ d9 d10 d11, ρ = EL ns b b2 m c4 c5 c6 c7 c8 d9 d10 d11 ∧ s = st) (fun _ _ _ => rfl) L
    (by
      rintro x hx ρ s ⟨d9, d10, d11, rfl, rfl⟩
      rw [hL] at hx
      obtain ⟨n, hn, rfl⟩ := List.mem_map.mp hx
      have hk := (SO.srtS_perm (sh.map (·.1))).mem_iff.mp hn
      obtain ⟨q, hq⟩ := key_val hk
      obtain ⟨f10, f11, e⟩ := one_eq ns B hr hq c4 c5 c6 c7 c8 d10 d11
      exact ⟨EL ns b b2 m c4 c5 c6 c7 c8 (some (.str n)) d10 d11, _, s, rfl, e, some (.str n), f10, f11, rfl, rfl⟩) (EL ns b b2 m c4 c5 c6 c7 c8 c9 c10 c11) st ⟨c9, c10, c11, rfl, rfl⟩
  refine ⟨d9, d10, d11, ?_⟩
  have hi : itemsOf st' (.lst L) = some L := rfl
  unfold Pzlaw_p11
  rw [z_sFor]
  simp only [z_seq, z_F, z_call, z_cons, z_nil, z_getDd, z_var, z_C, List.getElem?_cons_succ, List.getElem?_cons_zero, z_bind_ok, e1, e2, hi, z_to_ok]
  exact e3
end
noncomputable def KI (cv : Nat → Addr) (st : Sto) (b d m h b2 d2 n : Nat) : Prop := ∃ i i2 sh row k, Bo cv st b d i m h b2 d2 i2 sh row k sh row k ∧ Wf sh row ∧ sh.length ≤ n ∧ row.length ≤ n
theorem turn {cv : Nat → Addr} (hcv : apart cv) (ns : List Int) (hl : ns.length ≤ 63) {st : Sto} {b d m h b2 d2 n : Nat} (X : KI cv st b d m h b2 d2 n) (hn : n ≤ 40) (j : Nat) (c5 c6 c7 c8 c9 c10 c11 : Option D) :
    ∃ st' d5 d6 d7 d8 d9 d10 d11, Bzlaw_2 cv (EL ns b b2 m (some (.int j)) c5 c6 c7 c8 c9 c10 c11) st = .nx (EL ns b b2 m (some (.int j)) d5 d6 d7 d8 d9 d10 d11) st' ∧ KI cv st' b d m h b2 d2 (n + 1) := by
  obtain ⟨i, i2, sh, row, k, B, hw, hs, hr⟩ := X
  obtain ⟨z, hz⟩ : ∃ z : Int, 20 + 12 * (j : Int) = z := ⟨_, rfl⟩
  have m1 := mul2_int 12 (j : Int) st (mulOk_l 12 j (by decide) (by decide))
  have d1 := drawn_eq ns hl z 11 (by decide) st
  obtain ⟨w, ew, hw0, hw5⟩ := pick11 _ (drawn_lo ns z 11 (by decide)) (drawn_hi ns z 11 (by decide)) st
  have d2' := drawn_eq ns hl (z + 1) 4 (by decide) st
  obtain ⟨nm, en⟩ := pick4 _ (drawn_lo ns (z + 1) 4 (by decide)) (drawn_hi ns (z + 1) 4 (by decide)) st
  have pe := place_eq ns hl (z + 2) st
  generalize drawnV ns z 11 = v1 at *
  generalize drawnV ns (z + 1) 4 = v2 at *
  generalize placeV ns (z + 2) = p at *
  obtain ⟨r, st1, st2, i', sh', row', k', e1, e2, hnr, B', hw', hs', hr'⟩ := step_eq hcv B hw (by omega) (by omega) hw0 hw5 nm p
  obtain ⟨x, e3⟩ := p10_eq ns B' (by omega) (some (.int j)) (some (.int z)) (some (.int w)) (some (.str nm)) (some (pl p)) c9 c10 c11
  have B3 := B'.app [x]
  obtain ⟨d9, d10, d11, e4⟩ := p11_eq ns B3 (by omega) (by omega) (some (.int j)) (some (.int z)) (some (.int w)) (some (.str nm)) (some (pl p)) c9 c10 c11
  refine ⟨st2 ++ [x], some (.int z), some (.int w), some (.str nm), some (pl p), d9, d10, d11, ?_, i', i2, sh', row', k', B3, hw', by omega, by omega⟩
  have q11 : (11 : Nat) ≤ small := small_ge (by decide)
  unfold Bzlaw_2
  refine (seq_nx (st' := st) (ρ' := EL ns b b2 m (some (.int j)) (some (.int z)) c6 c7 c8 c9 c10 c11) ?_).trans ?_
  · unfold Pzlaw_p5
    simp [m1, addD_int, hz]
  refine (seq_nx (st' := st) (ρ' := EL ns b b2 m (some (.int j)) (some (.int z)) (some (.int w)) c7 c8 c9 c10 c11) ?_).trans ?_
  · unfold Pzlaw_p6
    simp [q11, d1, ew]
  refine (seq_nx (st' := st) (ρ' := EL ns b b2 m (some (.int j)) (some (.int z)) (some (.int w)) (some (.str nm)) c8 c9 c10 c11) ?_).trans ?_
  · unfold Pzlaw_p7
    simp [addD_int, d2', en]
  refine (seq_nx (st' := st) (ρ' := EL ns b b2 m (some (.int j)) (some (.int z)) (some (.int w)) (some (.str nm)) (some (pl p)) c9 c10 c11) ?_).trans ?_
  · unfold Pzlaw_p8
    simp [addD_int, pe]
  refine (seq_nx (st' := st2) (ρ' := EL ns b b2 m (some (.int j)) (some (.int z)) (some (.int w)) (some (.str nm)) (some (pl p)) c9 c10 c11) ?_).trans ?_
  · unfold Pzlaw_p9
    refine sif_no (tst_ne hnr (st1 := st1) ?_ ?_)
    · simp [e1]
    · simp [e2]
  exact (seq_nx e3).trans e4
theorem law_true (cv : Nat → Addr) (hcv : apart cv) (ns : List Int) (hl : ns.length ≤ 63) : ∃ st, Fzlaw cv [.scr (ns.map .int)] [] = .ok (.bl true) st := by
  have hg : ∃ st, gzlaw cv [some (.scr (ns.map .int)), none, none, none, none, none, none, none, none, none, none, none] [] = .rt (.bl true) st := by
    have k1' : FzPanes___init__ cv [.res 0] [.ins (cv 3) []] = .ok .non [.ins (cv 3) (pn 1 2 0), .dct [], .lst []] := make_panes (cv := cv) []
    have A1 : PanesAt cv [.ins (cv 3) (pn 1 2 0), .dct [], .lst []] 0 1 2 [] [] 0 := panes_new (cv := cv) []
    have q0 : (0 : Nat) ≤ small := by decide
    unfold gzlaw
    refine seq_go (ρ' := [some (.scr (ns.map .int)), some (.res 0), none, none, none, none, none, none, none, none, none, none]) (st' := [.ins (cv 3) (pn 1 2 0), .dct [], .lst []]) ?_ ?_
    · unfold Pzlaw_p1
      simp [z_make, k1', asNon]
    have k2 := make_panes (cv := cv) [.ins (cv 3) (pn 1 2 0), .dct [], .lst []]
    have A2 := panes_new (cv := cv) [.ins (cv 3) (pn 1 2 0), .dct [], .lst []]
    have A1' := A1.app [.ins (cv 3) (pn 4 5 0), .dct [], .lst []]
    have k2' : FzPanes___init__ cv [.res 3] [.ins (cv 3) (pn 1 2 0), .dct [], .lst [], .ins (cv 3) []] = .ok .non [.ins (cv 3) (pn 1 2 0), .dct [], .lst [], .ins (cv 3) (pn 4 5 0), .dct [], .lst []] := k2
    have A2' : PanesAt cv [.ins (cv 3) (pn 1 2 0), .dct [], .lst [], .ins (cv 3) (pn 4 5 0), .dct [], .lst []] 3 4 5 [] [] 0 := A2
    have A1'' : PanesAt cv [.ins (cv 3) (pn 1 2 0), .dct [], .lst [], .ins (cv 3) (pn 4 5 0), .dct [], .lst []] 0 1 2 [] [] 0 := A1'
    refine seq_go (ρ' := [some (.scr (ns.map .int)), some (.res 0), some (.res 3), none, none, none, none, none, none, none, none, none]) (st' := [.ins (cv 3) (pn 1 2 0), .dct [], .lst [], .ins (cv 3) (pn 4 5 0), .dct [], .lst []]) ?_ ?_
    · unfold Pzlaw_p2
      simp [z_make, k2', asNon]
    have hlen : ([.ins (cv 3) (pn 1 2 0), .dct [], .lst [], .ins (cv 3) (pn 4 5 0), .dct [], .lst []] : Sto).length = 6 := rfl
    generalize ([.ins (cv 3) (pn 1 2 0), .dct [], .lst [], .ins (cv 3) (pn 4 5 0), .dct [], .lst []] : Sto) = st0 at A2' A1'' hlen ⊢
    refine seq_go (ρ' := EL ns 0 3 6 none none none none none none none none) (st' := st0 ++ [.dct (mD (.lst []) (.int 0) (.res 7)), .dct []]) ?_ ?_
    · have hg1 : (st0 ++ [S.dct [], S.dct []])[st0.length]? = some (.dct []) := by simp
      have hm1 : mergeD [] [(.str "rows", .lst []), (.str "at", .int 0), (.str "here", .res 7)] = mD (.lst []) (.int 0) (.res 7) := by
        simp [mergeD, putD, hasD, key_str, ra, rh, ah, mD]
      have hk1 : keysOk [(.str "rows", .lst []), (.str "at", .int 0), (.str "here", .res 7)] = true := rfl
      have hset : (st0 ++ [S.dct [], S.dct []]).set st0.length (.dct (mD (.lst []) (.int 0) (.res 7))) = st0 ++ [.dct (mD (.lst []) (.int 0) (.res 7)), .dct []] := by simp
      have hl15 : ([(.str "rows", .lst []), (.str "at", .int 0), (.str "here", .res 7)] : List (D × D)).length ≤ 15 := by decide
      have hps : dPairs [((dC (.str "rows")), (dF (dLst dNil))), ((dC (.str "at")), (dC (.int 0))), ((dC (.str "here")), dNewK)] [some (.scr (ns.map .int)), some (.res 0), some (.res 3), none, none, none, none, none, none, none, none, none] (st0 ++ [.dct []]) = .ok [(.str "rows", .lst []), (.str "at", .int 0), (.str "here", .res 7)] (st0 ++ [.dct [], .dct []]) := by
        simp [dPairs, q0, hlen]
      unfold Pzlaw_p3
      rw [z_sSet, z_dDisp, hps]
      rw [hlen] at hg1 hset ⊢
      simp only [z_bind_ok, hg1, if_pos (And.intro hk1 hl15), hm1, hset, z_to_ok]
      rfl
    have X0 : KI cv (st0 ++ [.dct (mD (.lst []) (.int 0) (.res 7)), .dct []]) 0 1 6 7 3 4 0 := by
      refine ⟨2, 5, [], [], 0, ⟨A1''.app _, ⟨?_, ?_, by decide, Nat.le_refl _, Nat.zero_le _, Nat.zero_le _⟩, A2'.app _, by decide, by decide, by decide, by decide, by decide, by decide⟩, ?_, Nat.le_refl _, Nat.le_refl _⟩
      · rw [List.getElem?_append_right (by omega), hlen]
        rfl
      · rw [List.getElem?_append_right (by omega), hlen]
        rfl
      · intro s hs
        cases hs
    generalize st0 ++ [S.dct (mD (.lst []) (.int 0) (.res 7)), .dct []] = st1 at X0 ⊢
    have l1 := len_scr (ns.map .int) st1
    rw [List.length_map] at l1
    obtain ⟨n, hn, hn10⟩ : ∃ n : Nat, (if (if (ns.length : Int) < 12 then (ns.length : Int) else 12) > 1 then (if (ns.length : Int) < 12 then (ns.length : Int) else 12) else 1) = (n : Int) ∧ n ≤ 12 := by
      refine ⟨(if (if (ns.length : Int) < 12 then (ns.length : Int) else 12) > 1 then (if (ns.length : Int) < 12 then (ns.length : Int) else 12) else 1).toNat, ?_, ?_⟩
      · split <;> split <;> omega
      · split <;> split <;> omega
    have g1 : rngOk (n : Int) = true := rngOk_of (by omega) (by omega)
    obtain ⟨ρ2, st2, f2, ⟨c4, c5, c6, c7, c8, c9, c10, c11, rfl, X2⟩⟩ := loop_rng (chk := fun _ => True) (t := tgName 4) (g := Bzlaw_2 cv) (f := fun (i : Nat) => D.int (0 + i))
      (fun j ρ st => ∃ c4 c5 c6 c7 c8 c9 c10 c11, ρ = EL ns 0 3 6 c4 c5 c6 c7 c8 c9 c10 c11 ∧ KI cv st 0 1 6 7 3 4 j) (fun _ _ _ _ => trivial) n
      (by
        rintro j hj ρ st ⟨c4, c5, c6, c7, c8, c9, c10, c11, rfl, X⟩
        obtain ⟨st', d5, d6, d7, d8, d9, d10, d11, e, X'⟩ := turn hcv ns hl X (by omega) j c5 c6 c7 c8 c9 c10 c11
        refine ⟨EL ns 0 3 6 (some (.int j)) c5 c6 c7 c8 c9 c10 c11, _, st', ?_, e, some (.int j), d5, d6, d7, d8, d9, d10, d11, rfl, X'⟩
        rw [Int.zero_add]
        rfl) _ st1 ⟨none, none, none, none, none, none, none, none, rfl, X0⟩
    refine seq_go (ρ' := EL ns 0 3 6 c4 c5 c6 c7 c8 c9 c10 c11) (st' := st2) ?_ ?_
    · unfold Pzlaw_p4
      have hmm : (if (1 : Int) < (if (ns.length : Int) < 12 then (ns.length : Int) else 12) then (if (ns.length : Int) < 12 then (ns.length : Int) else 12) else 1) = (n : Int) := hn
      simp [l1, min2D, max2D, hmm, dRng1, g1] at f2 ⊢
      exact f2
    obtain ⟨i, i2, sh, row, k, B, _, _, hr⟩ := X2
    obtain ⟨RD, hRD⟩ : ∃ RD, RD = row.map psD := ⟨_, rfl⟩
    have e1 := B.P.stepsR
    rw [← hRD] at e1
    have hRl : RD.length < small := by
      rw [hRD, List.length_map]
      exact Nat.lt_of_lt_of_le (by omega : row.length < 20) (small_ge (by decide))
    have hset : (st2 ++ [S.lst RD]).set st2.length (.lst (RD ++ [.non])) = st2 ++ [.lst (RD ++ [.non])] := by simp
    refine seq_go (ρ' := EL ns 0 3 6 c4 c5 c6 c7 c8 c9 c10 c11) (st' := st2 ++ [.lst (RD ++ [.non])]) ?_ ?_
    · have hat : (st2 ++ [S.lst RD])[st2.length]? = some (.lst RD) := at_last _ _
      unfold Pzlaw_p15 dAppend
      simp only [z_sExpr, z_meth, z_var, z_nil, List.getElem?_cons_zero, List.getElem?_cons_succ, z_bind_ok, B.P.ins, pn_steps, if_true, e1, hat, z_C, if_pos hRl, hset, z_to_ok]
    have B2 := B.app [S.lst (RD ++ [.non])]
    generalize st2 ++ [S.lst (RD ++ [D.non])] = st3 at B2 ⊢
    have e2 := B2.P.stepsR
    rw [← hRD] at e2
    have B3 := B2.app [S.lst RD]
    have e3 := B3.M.rows
    rw [← hRD] at e3
    have kd1 : kd (st3 ++ [S.lst RD]) (.res st3.length) = .lst RD := by simp [kd]
    have q3 := ee_kd (b := .lst RD) kd1 rfl (by rw [hRD]; exact nice_psL row)
    generalize st3 ++ [S.lst RD] = st4 at *
    have e4 := B3.O.names (by decide)
    have h4 : eqD (.lst ((SO.srtS (([] : Sh).map (·.1))).map D.str)) (.lst []) st4 = .ok (.bl true) st4 := by
      have : SO.srtS (([] : Sh).map (·.1)) = [] := (SO.srtS_perm []).eq_nil
      rw [this]
      rw [eqD_nice rfl rfl]
      simp
    have e5 := B3.O.stepsR
    have kd2 : kd (st4 ++ [S.lst (([] : List PStep).map psD)]) (.res st4.length) = .lst [] := by simp [kd]
    have q5 := ee_kd (b := .lst []) kd2 rfl (fun x hx => by cases hx)
    refine ⟨st4 ++ [.lst []], ?_⟩
    unfold Pzlaw_p16
    simp only [List.map_nil] at e5 q5 e4 h4
    simp [z_meth, B2.P.ins, pn_steps, e2, z_getDd, e3, q3, B3.O.ins, pn_names, e4, h4, e5, q0, q5]
  obtain ⟨st, hg⟩ := hg
  exact ⟨st, by unfold Fzlaw; exact run_rt rfl hg⟩
end K40

end
section
set_option Elab.async false
set_option linter.all false
set_option maxRecDepth 100000
set_option maxHeartbeats 2000000
namespace K40
open PySem L2 DL
theorem all_mk {l : PySem.W.OpenLaw} {w : World} {K : PySem.W.Frag} {h : Heap} {mg : Str → Option Value} {fa f0 f1 f2 f3 f4 f5 f6 f7 f8 f9 f10 f11 f12 f13 f14 f15 f16 f17 f18 f19 f20 f21 C_Panes C_BookError C_NoPane C_NoPlace C_Round C_Taken : Addr} (X : K.In h) (G : h.Ns mainGlobals mg) (hfa : mg "law" = some (.ref fa))
    {od0 an0 : Option Addr} {sl0 : Array (Option Value)} {oc0 kV0 dc0 pm0 cd0 ct0 : Value}
    {od1 an1 : Option Addr} {sl1 : Array (Option Value)} {oc1 kV1 dc1 pm1 cd1 ct1 : Value}
    {od2 an2 : Option Addr} {sl2 : Array (Option Value)} {oc2 kV2 dc2 pm2 cd2 ct2 : Value}
    {od3 an3 : Option Addr} {sl3 : Array (Option Value)} {oc3 kV3 dc3 pm3 cd3 ct3 : Value}
    {od4 an4 : Option Addr} {sl4 : Array (Option Value)} {oc4 kV4 dc4 pm4 cd4 ct4 : Value}
    {od5 an5 : Option Addr} {sl5 : Array (Option Value)} {oc5 kV5 dc5 pm5 cd5 ct5 : Value}
    {od6 an6 : Option Addr} {sl6 : Array (Option Value)} {oc6 kV6 dc6 pm6 cd6 ct6 : Value}
    {od7 an7 : Option Addr} {sl7 : Array (Option Value)} {oc7 kV7 dc7 pm7 cd7 ct7 : Value}
    {od8 an8 : Option Addr} {sl8 : Array (Option Value)} {oc8 kV8 dc8 pm8 cd8 ct8 : Value}
    {od9 an9 : Option Addr} {sl9 : Array (Option Value)} {oc9 kV9 dc9 pm9 cd9 ct9 : Value}
    {od10 an10 : Option Addr} {sl10 : Array (Option Value)} {oc10 kV10 dc10 pm10 cd10 ct10 : Value}
    {od11 an11 : Option Addr} {sl11 : Array (Option Value)} {oc11 kV11 dc11 pm11 cd11 ct11 : Value}
    {od12 an12 : Option Addr} {sl12 : Array (Option Value)} {oc12 kV12 dc12 pm12 cd12 ct12 : Value}
    {od13 an13 : Option Addr} {sl13 : Array (Option Value)} {oc13 kV13 dc13 pm13 cd13 ct13 : Value}
    {od14 an14 : Option Addr} {sl14 : Array (Option Value)} {oc14 kV14 dc14 pm14 cd14 ct14 : Value}
    {od15 an15 : Option Addr} {sl15 : Array (Option Value)} {oc15 kV15 dc15 pm15 cd15 ct15 : Value}
    {od16 an16 : Option Addr} {sl16 : Array (Option Value)} {oc16 kV16 dc16 pm16 cd16 ct16 : Value}
    {od17 an17 : Option Addr} {sl17 : Array (Option Value)} {oc17 kV17 dc17 pm17 cd17 ct17 : Value}
    {od18 an18 : Option Addr} {sl18 : Array (Option Value)} {oc18 kV18 dc18 pm18 cd18 ct18 : Value}
    {od19 an19 : Option Addr} {sl19 : Array (Option Value)} {oc19 kV19 dc19 pm19 cd19 ct19 : Value}
    {od20 an20 : Option Addr} {sl20 : Array (Option Value)} {oc20 kV20 dc20 pm20 cd20 ct20 : Value}
    {od21 an21 : Option Addr} {sl21 : Array (Option Value)} {oc21 kV21 dc21 pm21 cd21 ct21 : Value}
    (a_Panes : PySem.W.nsIn K mainGlobals "Panes" = some (some (.ref C_Panes)))
    (a_BookError : PySem.W.nsIn K mainGlobals "BookError" = some (some (.ref C_BookError)))
    (a_NoPane : PySem.W.nsIn K mainGlobals "NoPane" = some (some (.ref C_NoPane)))
    (a_NoPlace : PySem.W.nsIn K mainGlobals "NoPlace" = some (some (.ref C_NoPlace)))
    (a_Round : PySem.W.nsIn K mainGlobals "Round" = some (some (.ref C_Round)))
    (a_Taken : PySem.W.nsIn K mainGlobals "Taken" = some (some (.ref C_Taken)))
    (a0 : PySem.W.findIn K (.ref C_Panes) "__init__" = some (some (.ref f0))) (i0 : PySem.W.isFn K (.ref f0) = true) (l0 : K.lookup f0 = some ⟨oc0, od0, .func (PySem.W.fnOf "__init__" "Panes.__init__" (defArgs szPanes___init__) (defBody szPanes___init__) (defScope szPanes___init__) .none kV0 dc0 pm0 an0 cd0 ct0), sl0⟩) (c0 : PySem.W.codeIn K cd0 "Panes.__init__" = true) (k0 : PySem.W.keepIn K (.ref f0) = true)
    (a1 : PySem.W.nsIn K mainGlobals "_law_cell" = some (some (.ref f1))) (l1 : K.lookup f1 = some ⟨oc1, od1, .func (PySem.W.fnOf "_law_cell" "_law_cell" (defArgs sz_law_cell) (defBody sz_law_cell) (defScope sz_law_cell) .none kV1 dc1 pm1 an1 cd1 ct1), sl1⟩) (c1 : PySem.W.codeIn K cd1 "_law_cell" = true) (k1 : PySem.W.keepIn K (.ref f1) = true)
    (a2 : PySem.W.nsIn K mainGlobals "_law_drawn" = some (some (.ref f2))) (l2 : K.lookup f2 = some ⟨oc2, od2, .func (PySem.W.fnOf "_law_drawn" "_law_drawn" (defArgs sz_law_drawn) (defBody sz_law_drawn) (defScope sz_law_drawn) .none kV2 dc2 pm2 an2 cd2 ct2), sl2⟩) (c2 : PySem.W.codeIn K cd2 "_law_drawn" = true) (k2 : PySem.W.keepIn K (.ref f2) = true)
    (a3 : PySem.W.nsIn K mainGlobals "_law_place" = some (some (.ref f3))) (l3 : K.lookup f3 = some ⟨oc3, od3, .func (PySem.W.fnOf "_law_place" "_law_place" (defArgs sz_law_place) (defBody sz_law_place) (defScope sz_law_place) .none kV3 dc3 pm3 an3 cd3 ct3), sl3⟩) (c3 : PySem.W.codeIn K cd3 "_law_place" = true) (k3 : PySem.W.keepIn K (.ref f3) = true)
    (a4 : PySem.W.findIn K (.ref C_Panes) "add" = some (some (.ref f4))) (i4 : PySem.W.isFn K (.ref f4) = true) (l4 : K.lookup f4 = some ⟨oc4, od4, .func (PySem.W.fnOf "add" "Panes.add" (defArgs szPanes_add) (defBody szPanes_add) (defScope szPanes_add) .none kV4 dc4 pm4 an4 cd4 ct4), sl4⟩) (c4 : PySem.W.codeIn K cd4 "Panes.add" = true) (k4 : PySem.W.keepIn K (.ref f4) = true)
    (a5 : PySem.W.findIn K (.ref C_Panes) "check_name" = some (some (.ref f5))) (i5 : PySem.W.isFn K (.ref f5) = true) (l5 : K.lookup f5 = some ⟨oc5, od5, .func (PySem.W.fnOf "check_name" "Panes.check_name" (defArgs szPanes_check_name) (defBody szPanes_check_name) (defScope szPanes_check_name) .none kV5 dc5 pm5 an5 cd5 ct5), sl5⟩) (c5 : PySem.W.codeIn K cd5 "Panes.check_name" = true) (k5 : PySem.W.keepIn K (.ref f5) = true)
    (a6 : PySem.W.findIn K (.ref C_Panes) "place" = some (some (.ref f6))) (i6 : PySem.W.isFn K (.ref f6) = true) (l6 : K.lookup f6 = some ⟨oc6, od6, .func (PySem.W.fnOf "place" "Panes.place" (defArgs szPanes_place) (defBody szPanes_place) (defScope szPanes_place) .none kV6 dc6 pm6 an6 cd6 ct6), sl6⟩) (c6 : PySem.W.codeIn K cd6 "Panes.place" = true) (k6 : PySem.W.keepIn K (.ref f6) = true)
    (a7 : PySem.W.findIn K (.ref C_Panes) "visit" = some (some (.ref f7))) (i7 : PySem.W.isFn K (.ref f7) = true) (l7 : K.lookup f7 = some ⟨oc7, od7, .func (PySem.W.fnOf "visit" "Panes.visit" (defArgs szPanes_visit) (defBody szPanes_visit) (defScope szPanes_visit) .none kV7 dc7 pm7 an7 cd7 ct7), sl7⟩) (c7 : PySem.W.codeIn K cd7 "Panes.visit" = true) (k7 : PySem.W.keepIn K (.ref f7) = true)
    (a8 : PySem.W.findIn K (.ref C_Panes) "back" = some (some (.ref f8))) (i8 : PySem.W.isFn K (.ref f8) = true) (l8 : K.lookup f8 = some ⟨oc8, od8, .func (PySem.W.fnOf "back" "Panes.back" (defArgs szPanes_back) (defBody szPanes_back) (defScope szPanes_back) .none kV8 dc8 pm8 an8 cd8 ct8), sl8⟩) (c8 : PySem.W.codeIn K cd8 "Panes.back" = true) (k8 : PySem.W.keepIn K (.ref f8) = true)
    (a9 : PySem.W.findIn K (.ref C_Panes) "forth" = some (some (.ref f9))) (i9 : PySem.W.isFn K (.ref f9) = true) (l9 : K.lookup f9 = some ⟨oc9, od9, .func (PySem.W.fnOf "forth" "Panes.forth" (defArgs szPanes_forth) (defBody szPanes_forth) (defScope szPanes_forth) .none kV9 dc9 pm9 an9 cd9 ct9), sl9⟩) (c9 : PySem.W.codeIn K cd9 "Panes.forth" = true) (k9 : PySem.W.keepIn K (.ref f9) = true)
    (a10 : PySem.W.findIn K (.ref C_Panes) "back_in" = some (some (.ref f10))) (i10 : PySem.W.isFn K (.ref f10) = true) (l10 : K.lookup f10 = some ⟨oc10, od10, .func (PySem.W.fnOf "back_in" "Panes.back_in" (defArgs szPanes_back_in) (defBody szPanes_back_in) (defScope szPanes_back_in) .none kV10 dc10 pm10 an10 cd10 ct10), sl10⟩) (c10 : PySem.W.codeIn K cd10 "Panes.back_in" = true) (k10 : PySem.W.keepIn K (.ref f10) = true)
    (a11 : PySem.W.nsIn K mainGlobals "steps_of_others" = some (some (.ref f11))) (l11 : K.lookup f11 = some ⟨oc11, od11, .func (PySem.W.fnOf "steps_of_others" "steps_of_others" (defArgs szsteps_of_others) (defBody szsteps_of_others) (defScope szsteps_of_others) .none kV11 dc11 pm11 an11 cd11 ct11), sl11⟩) (c11 : PySem.W.codeIn K cd11 "steps_of_others" = true) (k11 : PySem.W.keepIn K (.ref f11) = true)
    (a12 : PySem.W.findIn K (.ref C_Panes) "close" = some (some (.ref f12))) (i12 : PySem.W.isFn K (.ref f12) = true) (l12 : K.lookup f12 = some ⟨oc12, od12, .func (PySem.W.fnOf "close" "Panes.close" (defArgs szPanes_close) (defBody szPanes_close) (defScope szPanes_close) .none kV12 dc12 pm12 an12 cd12 ct12), sl12⟩) (c12 : PySem.W.codeIn K cd12 "Panes.close" = true) (k12 : PySem.W.keepIn K (.ref f12) = true)
    (a13 : PySem.W.nsIn K mainGlobals "_law_refused" = some (some (.ref f13))) (l13 : K.lookup f13 = some ⟨oc13, od13, .func (PySem.W.fnOf "_law_refused" "_law_refused" (defArgs sz_law_refused) (defBody sz_law_refused) (defScope sz_law_refused) .none kV13 dc13 pm13 an13 cd13 ct13), sl13⟩) (c13 : PySem.W.codeIn K cd13 "_law_refused" = true) (k13 : PySem.W.keepIn K (.ref f13) = true)
    (a14 : PySem.W.nsIn K mainGlobals "_law_told" = some (some (.ref f14))) (l14 : K.lookup f14 = some ⟨oc14, od14, .func (PySem.W.fnOf "_law_told" "_law_told" (defArgs sz_law_told) (defBody sz_law_told) (defScope sz_law_told) .none kV14 dc14 pm14 an14 cd14 ct14), sl14⟩) (c14 : PySem.W.codeIn K cd14 "_law_told" = true) (k14 : PySem.W.keepIn K (.ref f14) = true)
    (a15 : PySem.W.nsIn K mainGlobals "_law_back" = some (some (.ref f15))) (l15 : K.lookup f15 = some ⟨oc15, od15, .func (PySem.W.fnOf "_law_back" "_law_back" (defArgs sz_law_back) (defBody sz_law_back) (defScope sz_law_back) .none kV15 dc15 pm15 an15 cd15 ct15), sl15⟩) (c15 : PySem.W.codeIn K cd15 "_law_back" = true) (k15 : PySem.W.keepIn K (.ref f15) = true)
    (a16 : PySem.W.nsIn K mainGlobals "_law_done" = some (some (.ref f16))) (l16 : K.lookup f16 = some ⟨oc16, od16, .func (PySem.W.fnOf "_law_done" "_law_done" (defArgs sz_law_done) (defBody sz_law_done) (defScope sz_law_done) .none kV16 dc16 pm16 an16 cd16 ct16), sl16⟩) (c16 : PySem.W.codeIn K cd16 "_law_done" = true) (k16 : PySem.W.keepIn K (.ref f16) = true)
    (a17 : PySem.W.findIn K (.ref C_Panes) "names" = some (some (.ref f17))) (i17 : PySem.W.isFn K (.ref f17) = true) (l17 : K.lookup f17 = some ⟨oc17, od17, .func (PySem.W.fnOf "names" "Panes.names" (defArgs szPanes_names) (defBody szPanes_names) (defScope szPanes_names) .none kV17 dc17 pm17 an17 cd17 ct17), sl17⟩) (c17 : PySem.W.codeIn K cd17 "Panes.names" = true) (k17 : PySem.W.keepIn K (.ref f17) = true)
    (a18 : PySem.W.findIn K (.ref C_Panes) "steps" = some (some (.ref f18))) (i18 : PySem.W.isFn K (.ref f18) = true) (l18 : K.lookup f18 = some ⟨oc18, od18, .func (PySem.W.fnOf "steps" "Panes.steps" (defArgs szPanes_steps) (defBody szPanes_steps) (defScope szPanes_steps) .none kV18 dc18 pm18 an18 cd18 ct18), sl18⟩) (c18 : PySem.W.codeIn K cd18 "Panes.steps" = true) (k18 : PySem.W.keepIn K (.ref f18) = true)
    (a19 : PySem.W.findIn K (.ref C_Panes) "done" = some (some (.ref f19))) (i19 : PySem.W.isFn K (.ref f19) = true) (l19 : K.lookup f19 = some ⟨oc19, od19, .func (PySem.W.fnOf "done" "Panes.done" (defArgs szPanes_done) (defBody szPanes_done) (defScope szPanes_done) .none kV19 dc19 pm19 an19 cd19 ct19), sl19⟩) (c19 : PySem.W.codeIn K cd19 "Panes.done" = true) (k19 : PySem.W.keepIn K (.ref f19) = true)
    (a20 : PySem.W.findIn K (.ref C_Panes) "seen" = some (some (.ref f20))) (i20 : PySem.W.isFn K (.ref f20) = true) (l20 : K.lookup f20 = some ⟨oc20, od20, .func (PySem.W.fnOf "seen" "Panes.seen" (defArgs szPanes_seen) (defBody szPanes_seen) (defScope szPanes_seen) .none kV20 dc20 pm20 an20 cd20 ct20), sl20⟩) (c20 : PySem.W.codeIn K cd20 "Panes.seen" = true) (k20 : PySem.W.keepIn K (.ref f20) = true)
    (a21 : PySem.W.nsIn K mainGlobals "law" = some (some (.ref f21))) (l21 : K.lookup f21 = some ⟨oc21, od21, .func (PySem.W.fnOf "law" "law" (defArgs szlaw) (defBody szlaw) (defScope szlaw) .none kV21 dc21 pm21 an21 cd21 ct21), sl21⟩) (c21 : PySem.W.codeIn K cd21 "law" = true) (k21 : PySem.W.keepIn K (.ref f21) = true)
    (pg_Panes : PySem.W.plainGet K C_Panes Str.empty = true) (hd_Panes : PySem.W.hasDictIn K C_Panes = true) (po_Panes : PySem.W.plainOver K C_Panes = true) (sa_Panes : PySem.W.findIn K (.ref C_Panes) "__setattr__" = some (some (.builtin "object.__setattr__")))
    (mk_Panes : PySem.W.makesIn K C_Panes = true) (kc_Panes : PySem.W.keepIn K (.ref C_Panes) = true)
    (na_Panes_made : PySem.W.findIn K (.ref C_Panes) "made" = some none)
    (na_Panes_row : PySem.W.findIn K (.ref C_Panes) "row" = some none)
    (na_Panes_shown : PySem.W.findIn K (.ref C_Panes) "shown" = some none)
    (e2_NoPane : PySem.W.isClsIn K C_NoPane = true)
    (g1_NoPane : PySem.W.findIn K (.ref C_NoPane) "__getattribute__" = some (some (.builtin "BaseException.__getattribute__")))
    (g2_NoPane : PySem.W.findIn K (.ref C_NoPane) "__getattr__" = some none)
    (g3_NoPane : PySem.W.findIn K (.ref C_NoPane) "__class__" = some (some (.builtin "object.__class__")))
    (e3_NoPane : PySem.W.subIn K (.ref C_NoPane) (.type "BaseException") = some true)
    (g4_NoPane : PySem.W.subIn K (.ref C_NoPane) (.type "object") = some true)
    (e2_NoPlace : PySem.W.isClsIn K C_NoPlace = true)
    (g1_NoPlace : PySem.W.findIn K (.ref C_NoPlace) "__getattribute__" = some (some (.builtin "BaseException.__getattribute__")))
    (g2_NoPlace : PySem.W.findIn K (.ref C_NoPlace) "__getattr__" = some none)
    (g3_NoPlace : PySem.W.findIn K (.ref C_NoPlace) "__class__" = some (some (.builtin "object.__class__")))
    (e3_NoPlace : PySem.W.subIn K (.ref C_NoPlace) (.type "BaseException") = some true)
    (g4_NoPlace : PySem.W.subIn K (.ref C_NoPlace) (.type "object") = some true)
    (e2_Taken : PySem.W.isClsIn K C_Taken = true)
    (g1_Taken : PySem.W.findIn K (.ref C_Taken) "__getattribute__" = some (some (.builtin "BaseException.__getattribute__")))
    (g2_Taken : PySem.W.findIn K (.ref C_Taken) "__getattr__" = some none)
    (g3_Taken : PySem.W.findIn K (.ref C_Taken) "__class__" = some (some (.builtin "object.__class__")))
    (e3_Taken : PySem.W.subIn K (.ref C_Taken) (.type "BaseException") = some true)
    (g4_Taken : PySem.W.subIn K (.ref C_Taken) (.type "object") = some true)
    (e1_BookError : PySem.W.instIn K (.ref C_BookError) (.type "tuple") = some false)
    (e2_BookError : PySem.W.isClsIn K C_BookError = true)
    (e3_BookError : PySem.W.subIn K (.ref C_BookError) (.type "BaseException") = some true)
    (y_NoPane : PySem.W.typeIn K (.ref C_NoPane) = some (.type "type"))
    (s_NoPane_NoPane : PySem.W.subIn K (.ref C_NoPane) (.ref C_NoPane) = some true)
    (y_NoPlace : PySem.W.typeIn K (.ref C_NoPlace) = some (.type "type"))
    (n_NoPane_NoPlace : PySem.W.subIn K (.ref C_NoPane) (.ref C_NoPlace) = some false)
    (ne_NoPane_NoPlace : C_NoPane ≠ C_NoPlace)
    (e2_Round : PySem.W.isClsIn K C_Round = true)
    (y_Round : PySem.W.typeIn K (.ref C_Round) = some (.type "type"))
    (n_NoPane_Round : PySem.W.subIn K (.ref C_NoPane) (.ref C_Round) = some false)
    (ne_NoPane_Round : C_NoPane ≠ C_Round)
    (y_Taken : PySem.W.typeIn K (.ref C_Taken) = some (.type "type"))
    (n_NoPane_Taken : PySem.W.subIn K (.ref C_NoPane) (.ref C_Taken) = some false)
    (ne_NoPane_Taken : C_NoPane ≠ C_Taken)
    (n_NoPlace_NoPane : PySem.W.subIn K (.ref C_NoPlace) (.ref C_NoPane) = some false)
    (ne_NoPlace_NoPane : C_NoPlace ≠ C_NoPane)
    (s_NoPlace_NoPlace : PySem.W.subIn K (.ref C_NoPlace) (.ref C_NoPlace) = some true)
    (n_NoPlace_Round : PySem.W.subIn K (.ref C_NoPlace) (.ref C_Round) = some false)
    (ne_NoPlace_Round : C_NoPlace ≠ C_Round)
    (n_NoPlace_Taken : PySem.W.subIn K (.ref C_NoPlace) (.ref C_Taken) = some false)
    (ne_NoPlace_Taken : C_NoPlace ≠ C_Taken)
    (n_Taken_NoPane : PySem.W.subIn K (.ref C_Taken) (.ref C_NoPane) = some false)
    (ne_Taken_NoPane : C_Taken ≠ C_NoPane)
    (n_Taken_NoPlace : PySem.W.subIn K (.ref C_Taken) (.ref C_NoPlace) = some false)
    (ne_Taken_NoPlace : C_Taken ≠ C_NoPlace)
    (n_Taken_Round : PySem.W.subIn K (.ref C_Taken) (.ref C_Round) = some false)
    (ne_Taken_Round : C_Taken ≠ C_Round)
    (s_Taken_Taken : PySem.W.subIn K (.ref C_Taken) (.ref C_Taken) = some true)
    (t_NoPane_ValueError : PySem.W.subIn K (.ref C_NoPane) (.type "ValueError") = some true)
    (t_NoPlace_ValueError : PySem.W.subIn K (.ref C_NoPlace) (.type "ValueError") = some true)
    (t_Taken_ValueError : PySem.W.subIn K (.ref C_Taken) (.type "ValueError") = some true)
    (s_NoPane_BookError : PySem.W.subIn K (.ref C_NoPane) (.ref C_BookError) = some true)
    (s_NoPlace_BookError : PySem.W.subIn K (.ref C_NoPlace) (.ref C_BookError) = some true)
    (s_Taken_BookError : PySem.W.subIn K (.ref C_Taken) (.ref C_BookError) = some true)
    (xx_NoPane : PySem.W.excIn K C_NoPane [.type "ValueError", .type "Exception", .type "BaseException", .type "object"] "ValueError.__new__" = true)
    (xx_NoPlace : PySem.W.excIn K C_NoPlace [.type "ValueError", .type "Exception", .type "BaseException", .type "object"] "ValueError.__new__" = true)
    (xx_Taken : PySem.W.excIn K C_Taken [.type "ValueError", .type "Exception", .type "BaseException", .type "object"] "ValueError.__new__" = true)
    (z_ValueError : PySem.W.nsIn K mainGlobals "ValueError" = some none)    (z_isinstance : PySem.W.nsIn K mainGlobals "isinstance" = some none)    (z_len : PySem.W.nsIn K mainGlobals "len" = some none)    (z_list : PySem.W.nsIn K mainGlobals "list" = some none)    (z_max : PySem.W.nsIn K mainGlobals "max" = some none)    (z_min : PySem.W.nsIn K mainGlobals "min" = some none)    (z_range : PySem.W.nsIn K mainGlobals "range" = some none)    (z_sorted : PySem.W.nsIn K mainGlobals "sorted" = some none)    (z_tuple : PySem.W.nsIn K mainGlobals "tuple" = some none) :
    ∃ fd : FuncData, (∀ (s : Shared) (v : Value), BindsTo s fd ⟨[v], []⟩ [("_law_script", v)]) ∧ ∀ base : Heap, K.In base → base.Ns mainGlobals mg → FnOk l.prog w K mg base CX0 5 fa fd ["_law_script"] (spB K apart Fzlaw) := by
  have e := hfa.symm.trans (PySem.W.mg_of X G a21)
  cases e
  obtain ⟨cv, rfl, rfl, rfl, rfl, rfl, rfl⟩ : ∃ cv : Nat → Addr, cv 3 = C_Panes ∧ cv 10 = C_BookError ∧ cv 12 = C_NoPane ∧ cv 11 = C_NoPlace ∧ cv 14 = C_Round ∧ cv 13 = C_Taken := ⟨fun n => match n with | 3 => C_Panes | 10 => C_BookError | 12 => C_NoPane | 11 => C_NoPlace | 14 => C_Round | 13 => C_Taken | _ => 0, rfl, rfl, rfl, rfl, rfl, rfl⟩
  have b_ValueError := PySem.W.mg_none_of X G z_ValueError
  have b_isinstance := PySem.W.mg_none_of X G z_isinstance
  have b_len := PySem.W.mg_none_of X G z_len
  have b_list := PySem.W.mg_none_of X G z_list
  have b_max := PySem.W.mg_none_of X G z_max
  have b_min := PySem.W.mg_none_of X G z_min
  have b_range := PySem.W.mg_none_of X G z_range
  have b_sorted := PySem.W.mg_none_of X G z_sorted
  have b_tuple := PySem.W.mg_none_of X G z_tuple
  have cl_Panes : Cls K (cv 3) := ⟨pg_Panes, hd_Panes, po_Panes, sa_Panes⟩
  have m_Panes := PySem.W.mg_of X G a_Panes
  have m_BookError := PySem.W.mg_of X G a_BookError
  have m_NoPane := PySem.W.mg_of X G a_NoPane
  have m_NoPlace := PySem.W.mg_of X G a_NoPlace
  have m_Round := PySem.W.mg_of X G a_Round
  have m_Taken := PySem.W.mg_of X G a_Taken
  have ec_NoPane : ExcC K (cv 12) := ⟨e2_NoPane, g1_NoPane, g2_NoPane, g3_NoPane, e3_NoPane, g4_NoPane⟩
  have ec_NoPlace : ExcC K (cv 11) := ⟨e2_NoPlace, g1_NoPlace, g2_NoPlace, g3_NoPlace, e3_NoPlace, g4_NoPlace⟩
  have ec_Taken : ExcC K (cv 13) := ⟨e2_Taken, g1_Taken, g2_Taken, g3_Taken, e3_Taken, g4_Taken⟩
  have ek_BookError : ExcK K (cv 10) := ⟨e1_BookError, e2_BookError, e3_BookError⟩
  have ki_NoPane_NoPane_true := kit_C e2_NoPane y_NoPane s_NoPane_NoPane (fun _ => rfl)
  have ki_NoPane_NoPlace_false := kit_C e2_NoPlace y_NoPlace n_NoPane_NoPlace (fun z => absurd z ne_NoPane_NoPlace)
  have ki_NoPane_Round_false := kit_C e2_Round y_Round n_NoPane_Round (fun z => absurd z ne_NoPane_Round)
  have ki_NoPane_Taken_false := kit_C e2_Taken y_Taken n_NoPane_Taken (fun z => absurd z ne_NoPane_Taken)
  have ki_NoPlace_NoPane_false := kit_C e2_NoPane y_NoPane n_NoPlace_NoPane (fun z => absurd z ne_NoPlace_NoPane)
  have ki_NoPlace_NoPlace_true := kit_C e2_NoPlace y_NoPlace s_NoPlace_NoPlace (fun _ => rfl)
  have ki_NoPlace_Round_false := kit_C e2_Round y_Round n_NoPlace_Round (fun z => absurd z ne_NoPlace_Round)
  have ki_NoPlace_Taken_false := kit_C e2_Taken y_Taken n_NoPlace_Taken (fun z => absurd z ne_NoPlace_Taken)
  have ki_Taken_NoPane_false := kit_C e2_NoPane y_NoPane n_Taken_NoPane (fun z => absurd z ne_Taken_NoPane)
  have ki_Taken_NoPlace_false := kit_C e2_NoPlace y_NoPlace n_Taken_NoPlace (fun z => absurd z ne_Taken_NoPlace)
  have ki_Taken_Round_false := kit_C e2_Round y_Round n_Taken_Round (fun z => absurd z ne_Taken_Round)
  have ki_Taken_Taken_true := kit_C e2_Taken y_Taken s_Taken_Taken (fun _ => rfl)
  have kt_NoPane_ValueError_true := kit_T (T := "ValueError") (by decide +kernel) t_NoPane_ValueError
  have kt_NoPlace_ValueError_true := kit_T (T := "ValueError") (by decide +kernel) t_NoPlace_ValueError
  have kt_Taken_ValueError_true := kit_T (T := "ValueError") (by decide +kernel) t_Taken_ValueError
  have sb_NoPane_BookError := s_NoPane_BookError
  have sb_NoPlace_BookError := s_NoPlace_BookError
  have sb_Taken_BookError := s_Taken_BookError
  have xc_NoPane := xx_NoPane
  have xc_NoPlace := xx_NoPlace
  have xc_Taken := xx_Taken
  have mg_BookError := m_BookError
  have mg_NoPane := m_NoPane
  have mg_NoPlace := m_NoPlace
  have mg_Round := m_Round
  have mg_Taken := m_Taken
  have na_Panes_made : NoAttr K (cv 3) "made" := na_Panes_made
  have na_Panes_row : NoAttr K (cv 3) "row" := na_Panes_row
  have na_Panes_shown : NoAttr K (cv 3) "shown" := na_Panes_shown
  have F0 := fun_mk (st := szPanes___init__) l0 c0 k0
  have b0 := F0.binds (ps := ["self"]) fun _ _ _ _ _ _ => by refine us1 ?_; intros; rfl
  have F1 := fun_mk (st := sz_law_cell) l1 c1 k1
  have b1 := F1.binds (ps := ["_law_script", "_law_k"]) fun _ _ _ _ _ _ => by refine us2 ?_; intros; rfl
  have m1 := PySem.W.mg_of X G a1
  have F2 := fun_mk (st := sz_law_drawn) l2 c2 k2
  have b2 := F2.binds (ps := ["_law_script", "_law_k", "_law_many"]) fun _ _ _ _ _ _ => by refine us3 ?_; intros; rfl
  have m2 := PySem.W.mg_of X G a2
  have F3 := fun_mk (st := sz_law_place) l3 c3 k3
  have b3 := F3.binds (ps := ["_law_script", "_law_at"]) fun _ _ _ _ _ _ => by refine us2 ?_; intros; rfl
  have m3 := PySem.W.mg_of X G a3
  have F4 := fun_mk (st := szPanes_add) l4 c4 k4
  have b4 := F4.binds (ps := ["self", "name", "place"]) fun _ _ _ _ _ _ => by refine us3 ?_; intros; rfl
  have F5 := fun_mk (st := szPanes_check_name) l5 c5 k5
  have b5 := F5.binds (ps := ["self", "name"]) fun _ _ _ _ _ _ => by refine us2 ?_; intros; rfl
  have F6 := fun_mk (st := szPanes_place) l6 c6 k6
  have b6 := F6.binds (ps := ["self", "name"]) fun _ _ _ _ _ _ => by refine us2 ?_; intros; rfl
  have F7 := fun_mk (st := szPanes_visit) l7 c7 k7
  have b7 := F7.binds (ps := ["self", "name", "place"]) fun _ _ _ _ _ _ => by refine us3 ?_; intros; rfl
  have F8 := fun_mk (st := szPanes_back) l8 c8 k8
  have b8 := F8.binds (ps := ["self"]) fun _ _ _ _ _ _ => by refine us1 ?_; intros; rfl
  have F9 := fun_mk (st := szPanes_forth) l9 c9 k9
  have b9 := F9.binds (ps := ["self"]) fun _ _ _ _ _ _ => by refine us1 ?_; intros; rfl
  have F10 := fun_mk (st := szPanes_back_in) l10 c10 k10
  have b10 := F10.binds (ps := ["self", "name"]) fun _ _ _ _ _ _ => by refine us2 ?_; intros; rfl
  have F11 := fun_mk (st := szsteps_of_others) l11 c11 k11
  have b11 := F11.binds (ps := ["steps", "name"]) fun _ _ _ _ _ _ => by refine us2 ?_; intros; rfl
  have m11 := PySem.W.mg_of X G a11
  have F12 := fun_mk (st := szPanes_close) l12 c12 k12
  have b12 := F12.binds (ps := ["self", "name"]) fun _ _ _ _ _ _ => by refine us2 ?_; intros; rfl
  have F13 := fun_mk (st := sz_law_refused) l13 c13 k13
  have b13 := F13.binds (ps := ["_law_e"]) fun _ _ _ _ _ _ => by refine us1 ?_; intros; rfl
  have m13 := PySem.W.mg_of X G a13
  have F14 := fun_mk (st := sz_law_told) l14 c14 k14
  have b14 := F14.binds (ps := ["_law_panes", "_law_way", "_law_name", "_law_place_here"]) fun _ _ _ _ _ _ => by refine us4 ?_; intros; rfl
  have m14 := PySem.W.mg_of X G a14
  have F15 := fun_mk (st := sz_law_back) l15 c15 k15
  have b15 := F15.binds (ps := ["_law_mine"]) fun _ _ _ _ _ _ => by refine us1 ?_; intros; rfl
  have m15 := PySem.W.mg_of X G a15
  have F16 := fun_mk (st := sz_law_done) l16 c16 k16
  have b16 := F16.binds (ps := ["_law_mine", "_law_way", "_law_name", "_law_place_here"]) fun _ _ _ _ _ _ => by refine us4 ?_; intros; rfl
  have m16 := PySem.W.mg_of X G a16
  have F17 := fun_mk (st := szPanes_names) l17 c17 k17
  have b17 := F17.binds (ps := ["self"]) fun _ _ _ _ _ _ => by refine us1 ?_; intros; rfl
  have F18 := fun_mk (st := szPanes_steps) l18 c18 k18
  have b18 := F18.binds (ps := ["self"]) fun _ _ _ _ _ _ => by refine us1 ?_; intros; rfl
  have F19 := fun_mk (st := szPanes_done) l19 c19 k19
  have b19 := F19.binds (ps := ["self"]) fun _ _ _ _ _ _ => by refine us1 ?_; intros; rfl
  have F20 := fun_mk (st := szPanes_seen) l20 c20 k20
  have b20 := F20.binds (ps := ["self", "name"]) fun _ _ _ _ _ _ => by refine us2 ?_; intros; rfl
  have F21 := fun_mk (st := szlaw) l21 c21 k21
  have b21 := F21.binds (ps := ["_law_script"]) fun _ _ _ _ _ _ => by refine us1 ?_; intros; rfl
  have m21 := PySem.W.mg_of X G a21
  refine ⟨PySem.W.fnOf "law" "law" (defArgs szlaw) (defBody szlaw) (defScope szlaw) .none kV21 dc21 pm21 an21 cd21 ct21, fun s v => .of_eq rfl, fun base _ _ => ?_⟩
  have h0 : MkAt l.prog w K mg base "Panes" (cv 3) 1 (FzPanes___init__ cv) := okzPanes___init__ F0 ⟨mk_Panes, a0, i0, kc_Panes⟩ b0 m_Panes   cl_Panes na_Panes_made na_Panes_row na_Panes_shown 
  have h1 : FnAt l.prog w K mg base "_law_cell" 1 Fz_law_cell := okz_law_cell F1 m1 b1 b_len   
  have h2 : FnAt l.prog w K mg base "_law_drawn" 2 Fz_law_drawn := okz_law_drawn F2 m2 b2    h1
  have h3 : FnAt l.prog w K mg base "_law_place" 3 Fz_law_place := okz_law_place F3 m3 b3 b_range b_tuple   h2
  have h4 : MtX l.prog w K mg base (cv 3) "add" 1 (FzPanes_add cv) := okzPanes_add F4 ⟨a4, i4, k4⟩ b4   cl_Panes mg_Taken na_Panes_shown xc_Taken 
  have h5 : MtX l.prog w K mg base (cv 3) "check_name" 1 (FzPanes_check_name cv) := okzPanes_check_name F5 ⟨a5, i5, k5⟩ b5   cl_Panes mg_NoPane na_Panes_shown xc_NoPane 
  have h6 : MtX l.prog w K mg base (cv 3) "place" 2 (FzPanes_place cv) := okzPanes_place F6 ⟨a6, i6, k6⟩ b6   cl_Panes na_Panes_shown h5
  have h7 : MtX l.prog w K mg base (cv 3) "visit" 3 (FzPanes_visit cv) := okzPanes_visit F7 ⟨a7, i7, k7⟩ b7   cl_Panes na_Panes_made na_Panes_row na_Panes_shown h6
  have h8 : MtX l.prog w K mg base (cv 3) "back" 1 (FzPanes_back cv) := okzPanes_back F8 ⟨a8, i8, k8⟩ b8   cl_Panes mg_NoPlace na_Panes_made na_Panes_row na_Panes_shown xc_NoPlace 
  have h9 : MtX l.prog w K mg base (cv 3) "forth" 1 (FzPanes_forth cv) := okzPanes_forth F9 ⟨a9, i9, k9⟩ b9 b_len  cl_Panes mg_NoPlace na_Panes_made na_Panes_row na_Panes_shown xc_NoPlace 
  have h10 : MtX l.prog w K mg base (cv 3) "back_in" 2 (FzPanes_back_in cv) := okzPanes_back_in F10 ⟨a10, i10, k10⟩ b10   cl_Panes mg_NoPlace na_Panes_made na_Panes_row xc_NoPlace h8 h5
  have h11 : FnAt l.prog w K mg base "steps_of_others" 1 Fzsteps_of_others := okzsteps_of_others F11 m11 b11    
  have h12 : MtX l.prog w K mg base (cv 3) "close" 2 (FzPanes_close cv) := okzPanes_close F12 ⟨a12, i12, k12⟩ b12 b_len  cl_Panes na_Panes_made na_Panes_row na_Panes_shown h5 h11
  have h13 : FnHAt l.prog w K mg base "_law_refused" 1 (Fz_law_refused cv) := okz_law_refused F13 m13 b13 b_ValueError b_isinstance  ec_NoPane ec_NoPlace ec_Taken ki_NoPane_NoPane_true ki_NoPane_NoPlace_false ki_NoPane_Round_false ki_NoPane_Taken_false ki_NoPlace_NoPane_false ki_NoPlace_NoPlace_true ki_NoPlace_Round_false ki_NoPlace_Taken_false ki_Taken_NoPane_false ki_Taken_NoPlace_false ki_Taken_Round_false ki_Taken_Taken_true kt_NoPane_ValueError_true kt_NoPlace_ValueError_true kt_Taken_ValueError_true mg_NoPane mg_NoPlace mg_Round mg_Taken 
  have h14 : FnAt l.prog w K mg base "_law_told" 4 (Fz_law_told cv) := okz_law_told F14 m14 b14   cl_Panes ek_BookError mg_BookError sb_NoPane_BookError sb_NoPlace_BookError sb_Taken_BookError h4 h8 h10 h12 h9 h7 h13
  have h15 : FnAt l.prog w K mg base "_law_back" 1 Fz_law_back := okz_law_back F15 m15 b15    
  have h16 : FnAt l.prog w K mg base "_law_done" 2 Fz_law_done := okz_law_done F16 m16 b16 b_len b_range   h15
  have h17 : MtAt l.prog w K mg base (cv 3) "names" 1 (FzPanes_names cv) := okzPanes_names F17 ⟨a17, i17, k17⟩ b17 b_sorted  cl_Panes na_Panes_shown 
  have h18 : MtAt l.prog w K mg base (cv 3) "steps" 1 (FzPanes_steps cv) := okzPanes_steps F18 ⟨a18, i18, k18⟩ b18 b_list  cl_Panes na_Panes_row 
  have h19 : MtAt l.prog w K mg base (cv 3) "done" 1 (FzPanes_done cv) := okzPanes_done F19 ⟨a19, i19, k19⟩ b19   cl_Panes na_Panes_made 
  have h20 : MtX l.prog w K mg base (cv 3) "seen" 3 (FzPanes_seen cv) := okzPanes_seen F20 ⟨a20, i20, k20⟩ b20 b_len  cl_Panes na_Panes_row h6
  exact fnOk_spB (cv := cv) ⟨ne_NoPlace_NoPane, ne_NoPlace_Taken, ne_NoPane_Taken⟩ (okzlaw F21 b_len b_max b_min b_range b_sorted  cl_Panes h0 h19 h17 h6 h20 h18 h16 h2 h3 h14)
theorem walk {l : PySem.W.OpenLaw} {q : Program} {loose : List Str} {XP : (Str → Option Value) → Heap → Prop} {YP : World → Heap → Prop} {d : DefRec} {K : Params → PySem.W.Frag} (hn : l.most = some 63) (hdf : d.params.defaults = [])
    (hY : ∀ (w : World) (h : Heap), YP w h → (K w.params).In h)
    (F : ∀ (w : World) (mg : Str → Option Value) (fa : Addr) (h : Heap), (K w.params).In h → h.Ns mainGlobals mg → mg d.name = some (.ref fa) →
      ∃ fd : FuncData, (∀ (s : Shared) (u : Value), BindsTo s fd ⟨[u], []⟩ [("_law_script", u)]) ∧ ∀ base : Heap, (K w.params).In base → base.Ns mainGlobals mg → FnOk l.prog w (K w.params) mg base CX0 5 fa fd ["_law_script"] (spB (K w.params) apart Fzlaw)) :
    PySem.W.WalkO q loose XP YP l.row.toRowW d [] (fun f vs => PySem.call f vs) :=
  L2.walk_of (n := 63) (k := 5) (x := "_law_script") (CX := fun _ => CX0) (sp := fun w => spB (K w.params) apart Fzlaw) hn (by decide) hdf ⟨rfl, by decide, by decide⟩ hY F (fun _ H a ns hl ho hS cv hcv => DL.law_sp (law_true cv hcv) H a ns hl ho hS) fun _ _ _ _ _ z => z
end K40
open PySem PySem.W PyProof.Rows
set_option maxRecDepth 100000
set_option maxHeartbeats 0
open_top hd for PySem.Challenge.rw_cardplaces_k40_panes
theorem PySem.Challenge.cw_cardplaces_k40_panes_holds : PySem.Challenge.rw_cardplaces_k40_panes.Holds := by
  refine hd ?_
  k_fill
  refine K40.walk (l := PySem.Challenge.rw_cardplaces_k40_panes) rfl rfl (fun w h Y => PySem.W.kIn_of Y) ?F
  case F =>
    intro w mg fa h KX G hmg
    refine' K40.all_mk KX G hmg ?a_Panes ?a_BookError ?a_NoPane ?a_NoPlace ?a_Round ?a_Taken ?a0 ?i0 ?l0 ?c0 ?k0 ?a1 ?l1 ?c1 ?k1 ?a2 ?l2 ?c2 ?k2 ?a3 ?l3 ?c3 ?k3 ?a4 ?i4 ?l4 ?c4 ?k4 ?a5 ?i5 ?l5 ?c5 ?k5 ?a6 ?i6 ?l6 ?c6 ?k6 ?a7 ?i7 ?l7 ?c7 ?k7 ?a8 ?i8 ?l8 ?c8 ?k8 ?a9 ?i9 ?l9 ?c9 ?k9 ?a10 ?i10 ?l10 ?c10 ?k10 ?a11 ?l11 ?c11 ?k11 ?a12 ?i12 ?l12 ?c12 ?k12 ?a13 ?l13 ?c13 ?k13 ?a14 ?l14 ?c14 ?k14 ?a15 ?l15 ?c15 ?k15 ?a16 ?l16 ?c16 ?k16 ?a17 ?i17 ?l17 ?c17 ?k17 ?a18 ?i18 ?l18 ?c18 ?k18 ?a19 ?i19 ?l19 ?c19 ?k19 ?a20 ?i20 ?l20 ?c20 ?k20 ?a21 ?l21 ?c21 ?k21 ?pg_Panes ?hd_Panes ?po_Panes ?sa_Panes ?mk_Panes ?kc_Panes ?na_Panes_made ?na_Panes_row ?na_Panes_shown ?e2_NoPane ?g1_NoPane ?g2_NoPane ?g3_NoPane ?e3_NoPane ?g4_NoPane ?e2_NoPlace ?g1_NoPlace ?g2_NoPlace ?g3_NoPlace ?e3_NoPlace ?g4_NoPlace ?e2_Taken ?g1_Taken ?g2_Taken ?g3_Taken ?e3_Taken ?g4_Taken ?e1_BookError ?e2_BookError ?e3_BookError ?y_NoPane ?s_NoPane_NoPane ?y_NoPlace ?n_NoPane_NoPlace ?ne_NoPane_NoPlace ?e2_Round ?y_Round ?n_NoPane_Round ?ne_NoPane_Round ?y_Taken ?n_NoPane_Taken ?ne_NoPane_Taken ?n_NoPlace_NoPane ?ne_NoPlace_NoPane ?s_NoPlace_NoPlace ?n_NoPlace_Round ?ne_NoPlace_Round ?n_NoPlace_Taken ?ne_NoPlace_Taken ?n_Taken_NoPane ?ne_Taken_NoPane ?n_Taken_NoPlace ?ne_Taken_NoPlace ?n_Taken_Round ?ne_Taken_Round ?s_Taken_Taken ?t_NoPane_ValueError ?t_NoPlace_ValueError ?t_Taken_ValueError ?s_NoPane_BookError ?s_NoPlace_BookError ?s_Taken_BookError ?xx_NoPane ?xx_NoPlace ?xx_Taken ?z_ValueError ?z_isinstance ?z_len ?z_list ?z_max ?z_min ?z_range ?z_sorted ?z_tuple
    (case a_Panes => k_is)
    (case a_BookError => k_is)
    (case a_NoPane => k_is)
    (case a_NoPlace => k_is)
    (case a_Round => k_is)
    (case a_Taken => k_is)
    (case a0 => k_is)
    (case i0 => k_is)
    (case l0 => k_is)
    (case c0 => k_is)
    (case k0 => k_is)
    (case a1 => k_is)
    (case l1 => k_is)
    (case c1 => k_is)
    (case k1 => k_is)
    (case a2 => k_is)
    (case l2 => k_is)
    (case c2 => k_is)
    (case k2 => k_is)
    (case a3 => k_is)
    (case l3 => k_is)
    (case c3 => k_is)
    (case k3 => k_is)
    (case a4 => k_is)
    (case i4 => k_is)
    (case l4 => k_is)
    (case c4 => k_is)
    (case k4 => k_is)
    (case a5 => k_is)
    (case i5 => k_is)
    (case l5 => k_is)
    (case c5 => k_is)
    (case k5 => k_is)
    (case a6 => k_is)
    (case i6 => k_is)
    (case l6 => k_is)
    (case c6 => k_is)
    (case k6 => k_is)
    (case a7 => k_is)
    (case i7 => k_is)
    (case l7 => k_is)
    (case c7 => k_is)
    (case k7 => k_is)
    (case a8 => k_is)
    (case i8 => k_is)
    (case l8 => k_is)
    (case c8 => k_is)
    (case k8 => k_is)
    (case a9 => k_is)
    (case i9 => k_is)
    (case l9 => k_is)
    (case c9 => k_is)
    (case k9 => k_is)
    (case a10 => k_is)
    (case i10 => k_is)
    (case l10 => k_is)
    (case c10 => k_is)
    (case k10 => k_is)
    (case a11 => k_is)
    (case l11 => k_is)
    (case c11 => k_is)
    (case k11 => k_is)
    (case a12 => k_is)
    (case i12 => k_is)
    (case l12 => k_is)
    (case c12 => k_is)
    (case k12 => k_is)
    (case a13 => k_is)
    (case l13 => k_is)
    (case c13 => k_is)
    (case k13 => k_is)
    (case a14 => k_is)
    (case l14 => k_is)
    (case c14 => k_is)
    (case k14 => k_is)
    (case a15 => k_is)
    (case l15 => k_is)
    (case c15 => k_is)
    (case k15 => k_is)
    (case a16 => k_is)
    (case l16 => k_is)
    (case c16 => k_is)
    (case k16 => k_is)
    (case a17 => k_is)
    (case i17 => k_is)
    (case l17 => k_is)
    (case c17 => k_is)
    (case k17 => k_is)
    (case a18 => k_is)
    (case i18 => k_is)
    (case l18 => k_is)
    (case c18 => k_is)
    (case k18 => k_is)
    (case a19 => k_is)
    (case i19 => k_is)
    (case l19 => k_is)
    (case c19 => k_is)
    (case k19 => k_is)
    (case a20 => k_is)
    (case i20 => k_is)
    (case l20 => k_is)
    (case c20 => k_is)
    (case k20 => k_is)
    (case a21 => k_is)
    (case l21 => k_is)
    (case c21 => k_is)
    (case k21 => k_is)
    (case pg_Panes => k_is)
    (case hd_Panes => k_is)
    (case po_Panes => k_is)
    (case sa_Panes => k_is)
    (case mk_Panes => k_is)
    (case kc_Panes => k_is)
    (case na_Panes_made => k_is)
    (case na_Panes_row => k_is)
    (case na_Panes_shown => k_is)
    (case e2_NoPane => k_is)
    (case g1_NoPane => k_is)
    (case g2_NoPane => k_is)
    (case g3_NoPane => k_is)
    (case e3_NoPane => k_is)
    (case g4_NoPane => k_is)
    (case e2_NoPlace => k_is)
    (case g1_NoPlace => k_is)
    (case g2_NoPlace => k_is)
    (case g3_NoPlace => k_is)
    (case e3_NoPlace => k_is)
    (case g4_NoPlace => k_is)
    (case e2_Taken => k_is)
    (case g1_Taken => k_is)
    (case g2_Taken => k_is)
    (case g3_Taken => k_is)
    (case e3_Taken => k_is)
    (case g4_Taken => k_is)
    (case e1_BookError => k_is)
    (case e2_BookError => k_is)
    (case e3_BookError => k_is)
    (case y_NoPane => k_is)
    (case s_NoPane_NoPane => k_is)
    (case y_NoPlace => k_is)
    (case n_NoPane_NoPlace => k_is)
    (case ne_NoPane_NoPlace => decide)
    (case e2_Round => k_is)
    (case y_Round => k_is)
    (case n_NoPane_Round => k_is)
    (case ne_NoPane_Round => decide)
    (case y_Taken => k_is)
    (case n_NoPane_Taken => k_is)
    (case ne_NoPane_Taken => decide)
    (case n_NoPlace_NoPane => k_is)
    (case ne_NoPlace_NoPane => decide)
    (case s_NoPlace_NoPlace => k_is)
    (case n_NoPlace_Round => k_is)
    (case ne_NoPlace_Round => decide)
    (case n_NoPlace_Taken => k_is)
    (case ne_NoPlace_Taken => decide)
    (case n_Taken_NoPane => k_is)
    (case ne_Taken_NoPane => decide)
    (case n_Taken_NoPlace => k_is)
    (case ne_Taken_NoPlace => decide)
    (case n_Taken_Round => k_is)
    (case ne_Taken_Round => decide)
    (case s_Taken_Taken => k_is)
    (case t_NoPane_ValueError => k_is)
    (case t_NoPlace_ValueError => k_is)
    (case t_Taken_ValueError => k_is)
    (case s_NoPane_BookError => k_is)
    (case s_NoPlace_BookError => k_is)
    (case s_Taken_BookError => k_is)
    (case xx_NoPane => k_exc)
    (case xx_NoPlace => k_exc)
    (case xx_Taken => k_exc)
    (case z_ValueError => k_is)
    (case z_isinstance => k_is)
    (case z_len => k_is)
    (case z_list => k_is)
    (case z_max => k_is)
    (case z_min => k_is)
    (case z_range => k_is)
    (case z_sorted => k_is)
    (case z_tuple => k_is)

end
