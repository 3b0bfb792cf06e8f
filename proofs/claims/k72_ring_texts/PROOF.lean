import PyProof.Rows.All
import Wide.All
import OpenK.AllK
import Wide.FinOn
import Lean
import PyProof.EqAt
import PyProof.EqKinds
import PyProof.TupleCall
import PyProof.NeKinds
import PyProof.CompFree
import PyProof.CompUse
import PyProof.ZipIter
import PyProof.StrWalks
import PyProof.ListRange
import PyProof.ListMulRoad
import KE.KMinBuiltin
import PyProof.Rows.CallKw2
import KE.KSortTup
import PyProof.StrCalls2
import PyProof.StrLawsChain
import PyProof.StrLawsTight
import PyProof.Rows.StrItems
import KE.KxAffix
import PySem.Challenge.RW_cardplaces_k72_ring_texts
set_option Elab.async false
set_option linter.all false
set_option maxRecDepth 100000
namespace L2
open PySem PySem.Spec PyProof.Rows
noncomputable abbrev Key:=Sum Int Str
noncomputable def keyIs : Key → Value → Bool
 | .inl k, v => Value.isInt k v
 | .inr x, v => Value.isStrOf x v
noncomputable def keyH (w : World) : Key → Int
 | .inl k => hashInt k
 | .inr x => hashStr w x
theorem keyIs_shape : ∀ {k : Key} {v : Value}, keyIs k v = true → (∃ i t, k = Sum.inl i ∧ v = Value.int i t) ∨ (∃ x t, k = Sum.inr x ∧ v = Value.str x t)
 | .inl i, v, h => by
  obtain ⟨t, e⟩:=Value.isInt_shape (k:=i) (v:=v) h
  exact .inl ⟨i, t, rfl, e⟩
 | .inr x, v, h => by
  obtain ⟨t, e⟩:=Value.isStrOf_shape (x:=x) (v:=v) h
  exact .inr ⟨x, t, rfl, e⟩
theorem keyIs_int (i : Int) (t : Tok) : keyIs (.inl i) (.int i t) = true:=by simp [keyIs, Value.isInt]
theorem keyIs_str (x : Str) (t : Tok) : keyIs (.inr x) (.str x t) = true:=by simp [keyIs, Value.isStrOf]
theorem key_ll (a b : Int) : decide ((Sum.inl a : Key) = Sum.inl b) = (a == b):=by
 by_cases e : a = b
 ·subst e; simp
 ·have h : ¬ (Sum.inl a : Key) = Sum.inl b:=fun q => e (Sum.inl.inj q)
  rw [decide_eq_false h]
  exact (beq_eq_false_iff_ne.mpr e).symm
theorem key_rr (a b : Str) : decide ((Sum.inr a : Key) = Sum.inr b) = decide (a = b):=by
 by_cases e : a = b
 ·subst e; simp
 ·have h : ¬ (Sum.inr a : Key) = Sum.inr b:=fun q => e (Sum.inr.inj q)
  rw [decide_eq_false h, decide_eq_false e]
theorem key_lr (a : Int) (b : Str) : decide ((Sum.inl a : Key) = Sum.inr b) = false:=decide_eq_false (fun q => nomatch q)
theorem key_rl (a : Str) (b : Int) : decide ((Sum.inr a : Key) = Sum.inl b) = false:=decide_eq_false (fun q => nomatch q)
noncomputable def mixKind (prog : Program) (w : World) : PySem.KeyKind prog w Key where
 is:=keyIs
 hash:=keyH w
 inj:=fun v a b ha hb => by
  rcases keyIs_shape ha with ⟨i, t, rfl, rfl⟩ | ⟨x, t, rfl, rfl⟩
  ·rcases keyIs_shape hb with ⟨j, u, rfl, e⟩ | ⟨y, u, rfl, e⟩
   ·injection e with e1 _; rw [e1]
   ·exact nomatch e
  ·rcases keyIs_shape hb with ⟨j, u, rfl, e⟩ | ⟨y, u, rfl, e⟩
   ·exact nomatch e
   ·injection e with e1 _; rw [e1]
 byValue:=fun k v h => by
  rcases keyIs_shape h with ⟨i, t, rfl, rfl⟩ | ⟨x, t, rfl, rfl⟩ <;> rfl
 pyHash:=fun hv h => by
  rcases keyIs_shape hv with ⟨i, t, rfl, rfl⟩ | ⟨x, t, rfl, rfl⟩
  ·exact wpAny_pyHash_int h
  ·exact wpAny_pyHash_str h
 eqBool:=fun hu hv h => by
  rcases keyIs_shape hu with ⟨i, t, rfl, rfl⟩ | ⟨x, t, rfl, rfl⟩
  ·rcases keyIs_shape hv with ⟨j, u, rfl, rfl⟩ | ⟨y, u, rfl, rfl⟩
   ·rw [key_ll] at h; exact wpAny_eqBool_int h
   ·rw [key_lr] at h; exact SeqAt.EqAt.int_str i t y u _ _ _ _ h
  ·rcases keyIs_shape hv with ⟨j, u, rfl, rfl⟩ | ⟨y, u, rfl, rfl⟩
   ·rw [key_rl] at h; exact SeqAt.EqAt.str_int x t j u _ _ _ _ h
   ·rw [key_rr] at h; exact wpAny_eqBool_str h
 «strs»:=fun k x t v h => by
  rcases keyIs_shape h with ⟨i, u, rfl, e⟩ | ⟨y, u, rfl, e⟩
  ·exact nomatch e
  ·injection e with e1 _
   subst e1
   cases v <;> rfl
theorem mixKind_int (prog : Program) (w : World) (i : Int) (t : Tok) : (mixKind prog w).is (.inl i) (.int i t) = true:=keyIs_int i t
theorem mixKind_str (prog : Program) (w : World) (x : Str) (t : Tok) : (mixKind prog w).is (.inr x) (.str x t) = true:=keyIs_str x t
end L2
namespace L2
open PySem PySem.Spec PyProof.Rows
inductive V where
 | non | bl (b : Bool) | int (i : Int) | str (x : Str) | byt (b : Array UInt8) | flt (b : UInt64) | ref (a : Addr) | ty (n : String)
 deriving DecidableEq
noncomputable def RelV : V → Value → Prop
 | .non, u => u = Value.none
 | .bl b, u => u = Value.bool b
 | .int i, u => ∃ t, u = Value.int i t
 | .str x, u => ∃ t, u = Value.str x t
 | .byt b, u => ∃ t, u = Value.bytes b t
 | .flt b, u => ∃ t, u = Value.float b t
 | .ref a, u => u = Value.ref a
 | .ty n, u => u = Value.type n
noncomputable abbrev Vals : List V → List Value → Prop:=Paired RelV
theorem Vals.length {xs : List V} {us : List Value} (r : Vals xs us) : xs.length = us.length:=Paired.length r
theorem Vals.get : ∀ {xs : List V} {us : List Value} {i : Nat} {x : V}, Vals xs us → xs[i]? = some x → ∃ u, us[i]? = some u ∧ RelV x u
 | _, _, _, _, .nil, e => by simp at e
 | _, _, 0, _, .cons r _, e => by simp at e; subst e; exact ⟨_, rfl, r⟩
 | _, _, i + 1, x, .cons _ t, e => by
  obtain ⟨u, h1, h2⟩:=Vals.get (i:=i) (x:=x) t (by simpa using e)
  exact ⟨u, by simpa using h1, h2⟩
theorem Vals.append : ∀ {xs ys : List V} {us ws : List Value}, Vals xs us → Vals ys ws → Vals (xs ++ ys) (us ++ ws)
 | _, _, _, _, .nil, s => s
 | _, _, _, _, .cons r t, s => .cons r (Vals.append t s)
theorem Vals.take : ∀ {xs : List V} {us : List Value} (n : Nat), Vals xs us → Vals (xs.take n) (us.take n)
 | _, _, 0, _ => .nil
 | _, _, _ + 1, .nil => .nil
 | _, _, n + 1, .cons r t => .cons r (Vals.take n t)
theorem Vals.drop : ∀ {xs : List V} {us : List Value} (n : Nat), Vals xs us → Vals (xs.drop n) (us.drop n)
 | _, _, 0, r => r
 | _, _, _ + 1, .nil => .nil
 | _, _, n + 1, .cons _ t => Vals.drop n t
noncomputable def RelO : Option V → Option Value → Prop
 | some v, some u => RelV v u
 | none, none => True
 | _, _ => False
noncomputable def KV {κ : Type} : List (κ × V) → List (κ × Value) → Prop:=Paired fun (p : κ × V) (q : κ × Value) => p.1 = q.1 ∧ RelV p.2 q.2
noncomputable def kV : Key → V
 | .inl i => .int i
 | .inr x => .str x
inductive HO where
 /-- a list -/
 | lst (xs : List V)
 /-- a tuple (never changes) -/
 | tup (xs : List V)
 /-- a dict whose keys are ints and texts; one whose keys are tuples of ints and texts (the empty one is both) -/
 | dK (kvs : List (Key × V)) | dT (kvs : List (List Key × V))
 /-- a set of ints: its members, its size -/
 | set (S : Int → Bool) (n : Nat)
 /-- an instance of the class at C, its dict at dx, its attributes -/
 | ins (C dx : Addr) (fs : List (Str × V))
 /-- the dict of the instance at x -/
 | own (x : Addr)
 /-- the dict of an exception -/
 | xd (fs : List (Str × V))
 /-- a bound method, f of x -/
 | met (f x : Addr)
 /-- a range object lo, lo + 1, .. below hi -/
 | rng (lo hi : Int)
 /-- a thing that is known to the object (the script; a dict while a loop walks it): read, never written while it is so -/
 | frz (o : Obj) (u : HO)
 /-- a code object's table -/
 | tbl (ps : Array Value)
 /-- any other thing, by what is true of its one object (a def of one's own: SetO a S n:=HO.ext fun h => ..) -/
 | ext (φ : Heap → Prop)
noncomputable abbrev Hp:=Addr → Option HO
noncomputable def upd (H : Hp) (a : Addr) (o : HO) : Hp:=fun b => if b = a then some o else H b
theorem upd_same {H : Hp} {a : Addr} {o : HO} : upd H a o a = some o:=by unfold upd; rw [if_pos rfl]
theorem upd_ne {H : Hp} {a b : Addr} {o : HO} (h : b ≠ a) : upd H a o b = H b:=by unfold upd; rw [if_neg h]
theorem ne_of {H : Hp} {a b : Addr} {o u : HO} (h : H a = some o) (h' : H b = some u) (d : o ≠ u) : a ≠ b:=by
 intro e; subst e; rw [h] at h'; exact d (Option.some.inj h')
theorem ne_of_none {H : Hp} {a b : Addr} {o : HO} (h : H a = some o) (h' : H b = none) : a ≠ b:=by
 intro e; subst e; rw [h] at h'; cases h'
section
variable (P : Program) (w : World)
noncomputable def ObjOk (H : Hp) (h : Heap) (a : Addr) : HO → Prop
 | .lst xs => xs.length ≤ sizeLine ∧ ∃ (its : List Value) (n : Nat), Vals xs its ∧ h.get? a = some { cls := .type "list", data := .seq its.toArray n }
 | .tup xs => xs.length ≤ sizeLine ∧ ∃ its : List Value, Vals xs its ∧ IsTup h a its.toArray
 | .dK kvs => kvs.length ≤ sizeLine ∧ (a == sysModules) = false ∧ ∃ vs, KV kvs vs ∧ h.DictOf (mixKind P w) a vs
 | .dT kvs => kvs.length ≤ sizeLine ∧ (a == sysModules) = false ∧ ∃ xs : List (List Key × Addr × Value),
   Paired (fun (p : List Key × V) (q : List Key × Addr × Value) => p.1 = q.1 ∧ H q.2.1 = some (.tup (p.1.map kV)) ∧ RelV p.2 q.2.2) kvs xs ∧
   ∃ o es ep, h.get? a = some o ∧ o.ExactDict ∧ o.data = .dict es ep ∧ es.toList = xs.map (entryOfKey (tupleKind (mixKind P w))) ∧ (xs.map (·.1)).Nodup
 | .set S n => h.SetOf (intKind P w) a S n
 | .ins C dx fs => H dx = some (.own a) ∧ fs.length ≤ 1000 ∧ dx ≠ a ∧ h.get? a = some (PySem.W.instObj C dx) ∧
   ∃ mA, h.Ns1 dx mA ∧ (∀ f, RelO (fs.lookup f) (mA f)) ∧ PySem.Within mA (fs.map (·.1))
 | .own _ => ∃ o, h.get? a = some o
 | .xd fs => ∃ mA, h.Ns1 a mA ∧ ∀ f, RelO (fs.lookup f) (mA f)
 | .rng lo hi => ∃ t u v, h.get? a = some { cls := .type "range", data := .fields #[.int lo t, .int hi u, .int 1 v] }
 | .frz o u => h.get? a = some o ∧ ObjOk H h a u
 | .tbl ps => h.get? a = some { cls:=.none, data:=.fields ps }
 | .met f x => h.get? a = some (PySem.W.methodObj (.ref f) (.ref x))
 | .ext φ => φ h ∧ (∃ o, h.get? a = some o) ∧ ∀ h1 h2 : Heap, φ h1 → (∀ o, h1.get? a = some o → h2.get? a = some o) → φ h2
noncomputable def HOk (H : Hp) (h : Heap) : Prop:=∀ a o, H a = some o → ObjOk P w H h a o
end
section
variable {P : Program} {w : World} {H H' : Hp} {h h' : Heap} {a : Addr} {o : HO}
theorem ObjOk.lt (x : ObjOk P w H h a o) : a < h.objs.size:=by
 cases o with
 | lst xs => obtain ⟨_, _, _, _, e⟩:=x; exact Heap.lt_size e
 | tup xs => obtain ⟨_, _, _, p⟩:=x; exact p.lt
 | dK kvs => obtain ⟨_, _, _, _, o, _, _, e, _⟩:=x; exact Heap.lt_size e
 | dT kvs => obtain ⟨_, _, _, _, o, _, _, e, _⟩:=x; exact Heap.lt_size e
 | set S n => obtain ⟨o, _, _, _, e, _⟩:=x; exact Heap.lt_size e
 | ins C dx fs => obtain ⟨_, _, _, e, _⟩:=x; exact Heap.lt_size e
 | own y => obtain ⟨_, e⟩:=x; exact Heap.lt_size e
 | xd fs => obtain ⟨_, ⟨_, _, _, e, _⟩, _⟩:=x; exact Heap.lt_size e
 | rng lo hi => obtain ⟨_, _, _, e⟩:=x; exact Heap.lt_size e
 | frz ob u => obtain ⟨e, _⟩:=x; exact Heap.lt_size e
 | tbl ps => exact Heap.lt_size (show h.get? a = some _ from x)
 | met f y => exact Heap.lt_size (show h.get? a = some _ from x)
 | ext φ => obtain ⟨_, ⟨_, e⟩, _⟩:=x; exact Heap.lt_size e
theorem Paired.mapP {α β : Type} {F G : α → β → Prop} : ∀ {l₁ : List α} {l₂ : List β}, Paired F l₁ l₂ → (∀ a b, F a b → G a b) → Paired G l₁ l₂
 | _, _, .nil, _ => .nil
 | _, _, .cons r t, f => .cons (f _ _ r) (Paired.mapP t f)
theorem ObjOk.stay (x : ObjOk P w H h a o) (k : ∀ b u, (b = a ∨ H b = some (.own a)) → h.get? b = some u → h'.get? b = some u)
  (ho : ∀ b, H b = some (.own a) → H' b = some (.own a)) (ht : ∀ b xs, H b = some (.tup xs) → H' b = some (.tup xs)) : ObjOk P w H' h' a o:=by
 induction o with
 | lst xs => obtain ⟨z, its, n, r, e⟩:=x; exact ⟨z, its, n, r, k _ _ (.inl rfl) e⟩
 | tup xs => obtain ⟨z, its, r, ob, e, c⟩:=x; exact ⟨z, its, r, ob, k _ _ (.inl rfl) e, c⟩
 | dK kvs => obtain ⟨z, y, vs, r, ob, es, ep, e, c⟩:=x; exact ⟨z, y, vs, r, ob, es, ep, k _ _ (.inl rfl) e, c⟩
 | dT kvs =>
  obtain ⟨z, y, xs, r, ob, es, ep, e, c⟩:=x
  exact ⟨z, y, xs, Paired.mapP r fun p q z => ⟨z.1, ht _ _ z.2.1, z.2.2⟩, ob, es, ep, k _ _ (.inl rfl) e, c⟩
 | set S n => obtain ⟨ob, es, ep, t, e, c⟩:=x; exact ⟨ob, es, ep, t, k _ _ (.inl rfl) e, c⟩
 | ins C dx fs =>
  obtain ⟨d, z, ne, e, mA, ⟨od, es, ep, e2, c⟩, r⟩:=x
  exact ⟨ho _ d, z, ne, k _ _ (.inl rfl) e, mA, ⟨od, es, ep, k _ _ (.inr d) e2, c⟩, r⟩
 | own y => obtain ⟨ob, e⟩:=x; exact ⟨ob, k _ _ (.inl rfl) e⟩
 | xd fs => obtain ⟨mA, ⟨od, es, ep, e, c⟩, r⟩:=x; exact ⟨mA, ⟨od, es, ep, k _ _ (.inl rfl) e, c⟩, r⟩
 | rng lo hi => obtain ⟨t, u, v, e⟩:=x; exact ⟨t, u, v, k _ _ (.inl rfl) e⟩
 | frz ob u ih => obtain ⟨e, q⟩:=x; exact ⟨k _ _ (.inl rfl) e, ih q⟩
 | tbl ps =>
  have e : h.get? a = some { cls:=.none, data:=.fields ps }:=x
  show h'.get? a = some { cls:=.none, data:=.fields ps }
  exact k a _ (.inl rfl) e
 | met f y =>
  have e : h.get? a = some (PySem.W.methodObj (.ref f) (.ref y)):=x
  show h'.get? a = some (PySem.W.methodObj (.ref f) (.ref y))
  exact k a _ (.inl rfl) e
 | ext φ => obtain ⟨p, ⟨o, e⟩, st⟩:=x; exact ⟨st _ _ p fun o q => k _ _ (.inl rfl) q, ⟨o, k _ _ (.inl rfl) e⟩, st⟩
theorem HOk.lt (x : HOk P w H h) (e : H a = some o) : a < h.objs.size:=(x a o e).lt
theorem HOk.fresh (x : HOk P w H h) (e : h.objs.size ≤ a) : H a = none:=by
 cases q : H a with
 | none => rfl
 | some u => exact absurd (Nat.lt_of_lt_of_le (x.lt q) e) (Nat.lt_irrefl _)
theorem HOk.kept (x : HOk P w H h) (k : ∀ b u, h.get? b = some u → h'.get? b = some u) : HOk P w H h':=fun a o e =>
 (x a o e).stay (fun b u _ q => k b u q) (fun _ q => q) fun _ _ q => q
theorem HOk.laid (x : HOk P w H h) (k : ∀ b u, h.get? b = some u → h'.get? b = some u) (hp : h.objs.size ≤ a) (new : ObjOk P w (upd H a o) h' a o) : HOk P w (upd H a o) h':=fun b u e => by
 have hn:=x.fresh hp
 by_cases hb : b = a
 ·subst hb; rw [upd_same] at e; cases e; exact new
 ·rw [upd_ne hb] at e
  exact (x b u e).stay (fun c v _ q => k c v q) (fun c q => by rw [upd_ne (ne_of_none q hn)]; exact q) fun c xs q => by rw [upd_ne (ne_of_none q hn)]; exact q
end
noncomputable def Rd (H : Hp) (a : Addr) (u : HO) : Prop:=H a = some u ∨ ∃ o, H a = some (.frz o u)
theorem Rd.ok {P : Program} {w : World} {H : Hp} {h : Heap} {a : Addr} {u : HO} (r : Rd H a u) (x : HOk P w H h) : ObjOk P w H h a u:=by
 rcases r with r | ⟨o, r⟩
 ·exact x a u r
 ·obtain ⟨_, q⟩:=x a _ r
  exact q
noncomputable def Mut : Option HO → Prop
 | some (.lst _) => True
 | some (.dK _) => True
 | some (.dT _) => True
 | some (.set _ _) => True
 | some (.ins _ _ _) => True
 | some (.ext _) => True
 | _ => False
section
variable {P : Program} {w : World} {H : Hp} {h h' : Heap} {x e : Addr} {o' : HO}
theorem HOk.write (ok : HOk P w H h) (mu : Mut (H x)) (he : e = x ∨ H e = some (.own x)) (k : ∀ b u, b ≠ e → h.get? b = some u → h'.get? b = some u) (heo : ∃ u, h'.get? e = some u)
  (new : ObjOk P w (upd H x o') h' x o') : HOk P w (upd H x o') h':=fun b u q => by
 have nown : ∀ c y, H c = some (.own y) → c ≠ x:=fun c y r z => by subst z; rw [r] at mu; exact mu
 have ntup : ∀ c xs, H c = some (.tup xs) → c ≠ x:=fun c xs r z => by subst z; rw [r] at mu; exact mu
 by_cases hb : b = x
 ·subst hb; rw [upd_same] at q; cases q; exact new
 ·rw [upd_ne hb] at q
  by_cases hbe : b = e
  ·have q' : H b = some (.own x):=by
    rcases he with z | z
    ·exact absurd (hbe.trans z) hb
    ·rw [hbe]; exact z
   rw [q] at q'; cases q'
   obtain ⟨v, hv⟩:=heo
   exact ⟨v, by rw [hbe]; exact hv⟩
  ·refine (ok b u q).stay (fun c v hc r => k c v ?_ r) (fun c r => by rw [upd_ne (nown c b r)]; exact r) fun c xs r => by rw [upd_ne (ntup c xs r)]; exact r
   rcases hc with rfl | hc
   ·exact hbe
   ·rintro rfl
    rcases he with z | z
    ·exact nown c b hc z
    ·rw [hc] at z; cases z; exact hb rfl
end
structure Un (fs ex : List Addr) (H H' : Hp) (h h' : Heap) : Prop where
 keep : ∀ b o, h.get? b = some o → H b = none → b ∉ fs → b ∉ ex → h'.get? b = some o
 slot : ∀ b o, h.get? b = some o → H b = none → b ∈ fs → b ∉ ex → ∃ sl, h'.get? b = some { o with slots:=sl }
 free : ∀ b o, h.get? b = some o → H b = none → b ∉ ex → H' b = none
 there : ∀ b o, h.get? b = some o → b ∉ ex → ∃ o', h'.get? b = some o'
 tups : ∀ b xs, H b = some (.tup xs) → H' b = some (.tup xs)
 frzs : ∀ b o u, H b = some (.frz o u) → H' b = some (.frz o u)
 tbls : ∀ b ps, H b = some (.tbl ps) → ∃ more, H' b = some (.tbl (ps ++ more))
section
variable {fs fs' ex ex' : List Addr} {H H1 H2 : Hp} {h h1 h2 h' : Heap} {a x e : Addr} {o : HO}
theorem Un.any (u : Un fs ex H H1 h h1) {b : Addr} {ob : Obj} (q : h.get? b = some ob) (n : H b = none) (hx : b ∉ ex) : ∃ sl, h1.get? b = some { ob with slots:=sl }:=by
 by_cases hb : b ∈ fs
 ·exact u.slot b ob q n hb hx
 ·exact ⟨ob.slots, u.keep b ob q n hb hx⟩
theorem Un.kept (k : ∀ b u, h.get? b = some u → h'.get? b = some u) : Un fs ex H H h h' :=
 ⟨fun b ob q _ _ _ => k b ob q, fun b ob q _ _ _ => ⟨ob.slots, k b ob q⟩, fun _ _ _ n _ => n, fun b ob q _ => ⟨ob, k b ob q⟩, fun _ _ q => q, fun _ _ _ q => q, fun _ ps q => ⟨#[], by rw [q]; simp⟩⟩
theorem Un.refl : Un fs ex H H h h:=Un.kept fun _ _ q => q
theorem Un.laid (k : ∀ b u, h.get? b = some u → h'.get? b = some u) (hp : h.objs.size ≤ a) (hn : H a = none) : Un fs ex H (upd H a o) h h' where
 keep:=fun b u q _ _ _ => k b u q
 slot:=fun b u q _ _ _ => ⟨u.slots, k b u q⟩
 free:=fun b u q n _ => by rw [upd_ne (Nat.ne_of_lt (Nat.lt_of_lt_of_le (Heap.lt_size q) hp))]; exact n
 there:=fun b u q _ => ⟨u, k b u q⟩
 tups:=fun b xs q => by rw [upd_ne (ne_of_none q hn)]; exact q
 frzs:=fun b u xs q => by rw [upd_ne (ne_of_none q hn)]; exact q
 tbls:=fun b ps q => ⟨#[], by rw [upd_ne (ne_of_none q hn), q]; simp⟩
theorem Un.write (mu : Mut (H x)) (he : e = x ∨ H e = some (.own x)) (k : ∀ b u, b ≠ e → h.get? b = some u → h'.get? b = some u) (heo : ∃ u, h'.get? e = some u) : Un fs ex H (upd H x o) h h':=by
 have hx : ∀ b, H b = none → b ≠ x:=fun b n z => by subst z; rw [n] at mu; exact mu
 have hb : ∀ b, H b = none → b ≠ e:=fun b n z => by
  subst z
  rcases he with r | r
  ·exact hx b n r
  ·rw [n] at r; cases r
 have hm : ∀ b u, H b = some u → ¬ Mut (some u) → b ≠ x:=fun b u q nm z => by subst z; rw [q] at mu; exact nm mu
 refine ⟨fun b u q n _ _ => k b u (hb b n) q, fun b u q n _ _ => ⟨u.slots, k b u (hb b n) q⟩, fun b u q n _ => by rw [upd_ne (hx b n)]; exact n, fun b u q _ => ?_,
  fun b xs q => by rw [upd_ne (hm b _ q fun z => z)]; exact q, fun b u xs q => by rw [upd_ne (hm b _ q fun z => z)]; exact q, fun b ps q => ⟨#[], by rw [upd_ne (hm b _ q fun z => z), q]; simp⟩⟩
 by_cases hbe : b = e
 ·subst hbe; exact heo
 ·exact ⟨u, k b u hbe q⟩
end
noncomputable def trk (h : Heap) (H : Hp) : List Addr:=(List.range h.objs.size).filter fun a => (H a).isSome
noncomputable def hidT (h : Heap) (H : Hp) : Heap:=PySem.W.hideAll h (trk h H)
theorem hidT_size (h : Heap) (H : Hp) : (hidT h H).objs.size = h.objs.size:=PySem.W.hideAll_size _ _
theorem hidT_get {h : Heap} {H : Hp} {b : Addr} {o : Obj} (e : h.get? b = some o) (n : H b = none) : (hidT h H).get? b = some o :=
 PySem.W.hideAll_get _ e fun hm => by
  have q : (H b).isSome = true:=(List.mem_filter.mp hm).2
  rw [n] at q; simp at q
theorem of_hidT {h : Heap} {H : Hp} {b : Addr} {o : Obj} (e : (hidT h H).get? b = some o) : h.get? b = some o ∧ H b = none:=by
 have e' : h.get? b = some o:=PySem.W.of_hideAll (trk h H) e
 refine ⟨e', ?_⟩
 cases q : H b with
 | none => rfl
 | some x =>
  have hm : b ∈ trk h H:=List.mem_filter.mpr ⟨List.mem_range.mpr (Heap.lt_size e'), by simp [q]⟩
  have z : (hidT h H).get? b = none:=PySem.W.hideAll_none (trk h H) hm
  rw [z] at e; cases e
noncomputable def allNews (g h : Heap) (L : Addr) : List (Addr × Obj):=(List.range h.objs.size).filterMap fun a => if a = L ∨ (g.get? a).isSome = true then none else (h.get? a).map fun o => (a, o)
noncomputable def rest (g h : Heap) (L d : Addr) : List (Addr × Obj):=(allNews g h L).filter fun p => decide (p.1 ≠ d)
end L2
namespace L2
open PySem PySem.Spec PyProof.Rows
structure Mod (K : PySem.W.Frag) (mg : Str → Option Value) (base : Heap) : Prop where
 kin : K.In base
 glob : base.Ns mainGlobals mg
 blt : ∃ mb, base.Ns builtinsNs mb ∧ ∀ x : Str, x ≠ "__name__" → mb x = bootBuiltins x
 nolimit : base.NoLimit
structure Cx where
 prog : Program
 w : World
 K : PySem.W.Frag
 mg : Str → Option Value
 base : Heap
 A : Around
 N : List Str
 s₀ : Shared
 H₀ : Hp
 env : Env
 outer : List Env
 stack : List Env
 ex : List Addr
 fn : Str → Bool
 calm : Bool
 pn : List (Addr × Obj)
 xe : Value → Shared → Prop
noncomputable def frs (l : List Env) : List Addr:=l.filterMap (·.frame)
noncomputable abbrev Cx.fs (X : Cx) : List Addr:=frs X.outer
noncomputable def Vis (sc : Scope) (x : Str) : Prop:=sc.names.lookup x = some .local ∨ sc.names.lookup x = some .cell ∨ sc.names.lookup x = some .free
noncomputable def Loc (sc : Scope) (x : Str) : Prop:=sc.names.lookup x = some .local ∨ sc.names.lookup x = some .cell
noncomputable def Look (env : Env) (h : Heap) (m : Str → Option Value) (x : Str) (u : Value) : Prop :=
 (env.kindOf x = some .local ∧ m x = some u) ∨ ((env.kindOf x = some .cell ∨ env.kindOf x = some .free) ∧ ∃ c, env.cells.lookup x = some c ∧ h.IsCell c (some u))
structure Cx.Ok (X : Cx) : Prop where
 mod : Mod X.K X.mg X.base
 kind : X.env.scope.kind = .function
 glob : X.env.globals = mainGlobals
 blt : X.env.builtins = builtinsNs
 above : X.s₀.heap.objs.size ≤ X.env.locals
 inj : ∀ x y c, X.env.cells.lookup x = some c → X.env.cells.lookup y = some c → x = y
 has : ∀ x, (X.env.kindOf x = some .cell ∨ X.env.kindOf x = some .free) → ∃ c, X.env.cells.lookup x = some c
 cab : ∀ x c, X.fn x = true → X.env.cells.lookup x = some c → X.s₀.heap.objs.size ≤ c
 hd : X.calm = true → X.A.handled = none
 frames : X.A.frames = some X.stack
 stk : X.stack = X.outer ∨ (X.stack = X.env :: X.outer ∧ X.env.frame = some X.env.locals)
 exf : ∀ b ∈ X.ex, b ≠ X.env.locals ∧ ∀ x c, X.env.cells.lookup x = some c → c ≠ b
 bs : ∀ b o, X.base.get? b = some o → X.s₀.heap.get? b = some o ∧ X.H₀ b = none
 bsz : X.base.objs.size ≤ X.s₀.heap.objs.size
 noex : ∀ b o, X.base.get? b = some o → b ∉ X.ex
 exfs : ∀ b ∈ X.ex, b ∉ X.fs
 funs : X.s₀.heap.FunFrames X.base X.outer
 frf : ∀ b ∈ X.fs, X.H₀ b = none
structure Inv (X : Cx) (pins : List (Addr × Obj)) (σ : List (Option V)) (H : Hp) (s : Shared) : Prop where
 ok : X.Ok
 os : s.os = X.s₀.os
 bare : AllBare s.gens
 base : Un X.fs X.ex X.H₀ H X.s₀.heap s.heap
 loc : ∃ m, s.heap.Ns X.env.locals m ∧ ∀ (i : Nat) (x : Str) (v : V), X.N[i]? = some x → σ[i]? = some (some v) → Vis X.env.scope x → ∃ u, RelV v u ∧ Look X.env s.heap m x u
 cell : ∀ x c, X.env.cells.lookup x = some c → ∃ v, s.heap.IsCell c v
 free : H X.env.locals = none
 freeC : ∀ x c, X.env.cells.lookup x = some c → H c = none
 pin : ∀ p ∈ X.pn ++ pins, s.heap.get? p.1 = some p.2 ∧ H p.1 = none ∧ p.1 ≠ X.env.locals ∧ p.1 ∉ X.fs ∧ ∀ v, p.2.data ≠ .cell v
 hok : HOk X.prog X.w H s.heap
 len : σ.length = X.N.length
section
variable {X : Cx} {pins : List (Addr × Obj)} {σ : List (Option V)} {H H' : Hp} {s : Shared} {h' : Heap}
theorem Cx.Ok.nofr (ok : X.Ok) {b : Addr} {o : Obj} (e : X.base.get? b = some o) : b ∉ X.fs:=fun hb => by
 have:=(ok.funs.mem hb).1
 rw [e] at this; cases this
theorem Inv.bs (I : Inv X pins σ H s) : ∀ b o, X.base.get? b = some o → s.heap.get? b = some o ∧ H b = none:=fun b o e =>
 ⟨I.base.keep b o (I.ok.bs b o e).1 (I.ok.bs b o e).2 (I.ok.nofr e) (I.ok.noex b o e), I.base.free b o (I.ok.bs b o e).1 (I.ok.bs b o e).2 (I.ok.noex b o e)⟩
theorem Inv.bk (I : Inv X pins σ H s) : ∀ b o, X.base.get? b = some o → s.heap.get? b = some o:=fun b o e => (I.bs b o e).1
theorem Inv.mod (I : Inv X pins σ H s) : Mod X.K X.mg X.base:=I.ok.mod
theorem Inv.kIn (I : Inv X pins σ H s) : X.K.In s.heap:=I.ok.mod.kin.keeps I.bk
theorem Inv.lt (I : Inv X pins σ H s) : X.env.locals < s.heap.objs.size:=let ⟨_, hn, _⟩:=I.loc; hn.lt
theorem Inv.sz (I : Inv X pins σ H s) : X.s₀.heap.objs.size ≤ s.heap.objs.size:=Nat.le_trans I.ok.above (Nat.le_of_lt I.lt)
theorem Inv.nofs (I : Inv X pins σ H s) {a : Addr} (h : s.heap.objs.size ≤ a) : a ∉ X.fs:=fun hb => by
 obtain ⟨_, o, ho, _⟩:=I.ok.funs.mem hb
 exact absurd (Nat.lt_of_lt_of_le (Heap.lt_size ho) (Nat.le_trans I.sz h)) (Nat.lt_irrefl _)
theorem Inv.cne (I : Inv X pins σ H s) : ∀ x c, X.env.cells.lookup x = some c → c ≠ X.env.locals:=fun x c e z => by
 obtain ⟨v, o, ho, hd⟩:=I.cell x c e
 obtain ⟨m, ⟨o', es, ep, ho', hd', _⟩, _⟩:=I.loc
 rw [z, ho'] at ho; cases ho; rw [hd'] at hd; cases hd
theorem Inv.funs (I : Inv X pins σ H s) : s.heap.FunFrames X.base X.outer:=by
 have all : ∀ (l : List Env), (∀ b ∈ frs l, b ∈ X.fs) → X.s₀.heap.FunFrames X.base l → s.heap.FunFrames X.base l:=by
  intro l
  induction l with
  | nil => intro _ _; trivial
  | cons env r ih =>
   intro hs hl
   obtain ⟨hk, ⟨L, o, hf, hn, ho, hd⟩, hr⟩:=hl
   have hL : L ∈ X.fs:=hs L (by unfold frs; rw [List.filterMap_cons, hf]; exact List.mem_cons_self)
   obtain ⟨sl, e⟩:=I.base.slot L o ho (I.ok.frf L hL) hL fun z => I.ok.exfs L z hL
   exact ⟨hk, ⟨L, _, hf, hn, e, hd⟩, ih (fun b hb => hs b (by unfold frs; rw [List.filterMap_cons, hf]; exact List.mem_cons_of_mem _ hb)) hr⟩
 exact all X.outer (fun _ hb => hb) I.ok.funs
theorem Inv.stack (I : Inv X pins σ H s) : s.heap.FunFrames X.base X.stack:=by
 rcases I.ok.stk with e | ⟨e, hf⟩
 ·rw [e]; exact I.funs
 ·rw [e]
  obtain ⟨m, hn, _⟩:=I.loc
  refine .cons (by rw [I.ok.kind]; decide) hf hn ?_ I.funs
  exact Heap.get?_none_of_le (Nat.le_trans I.ok.bsz I.ok.above)
theorem Inv.stkSub (I : Inv X pins σ H s) : ∀ b ∈ frs X.stack, b ∈ X.env.locals :: X.fs:=fun b hb => by
 rcases I.ok.stk with e | ⟨e, hf⟩
 ·rw [e] at hb; exact List.mem_cons_of_mem _ hb
 ·rw [e] at hb
  unfold frs at hb
  rw [List.filterMap_cons, hf] at hb
  exact hb
theorem Inv.stkFree (I : Inv X pins σ H s) : ∀ b ∈ frs X.stack, H b = none:=fun b hb => by
 rcases List.mem_cons.mp (I.stkSub b hb) with e | hb
 ·rw [e]; exact I.free
 ·obtain ⟨_, o, ho, _⟩:=I.ok.funs.mem hb
  exact I.base.free b o ho (I.ok.frf b hb) fun z => I.ok.exfs b z hb
theorem Inv.step {g' : Array GenState} {t' : Nat} {d' : Drawn} {ch : List Addr} (I : Inv X pins σ H s)
  (hch : ∀ b ∈ ch, (b ∈ X.ex ∨ X.s₀.heap.objs.size ≤ b) ∧ b ≠ X.env.locals ∧ (∀ x c, X.env.cells.lookup x = some c → c ≠ b) ∧ ∀ p ∈ X.pn ++ pins, p.1 ≠ b)
  (keep : ∀ b o, b ≠ X.env.locals → b ∉ X.fs → b ∉ ch → s.heap.get? b = some o → H b = none → h'.get? b = some o)
  (slot : ∀ b o, b ≠ X.env.locals → b ∈ X.fs → b ∉ ch → s.heap.get? b = some o → H b = none → ∃ sl, h'.get? b = some { o with slots:=sl }) (free : ∀ b o, b ∉ ch → s.heap.get? b = some o → H b = none → H' b = none)
  (there : ∀ b o, b ∉ ch → s.heap.get? b = some o → ∃ o', h'.get? b = some o')
  (tups : ∀ b xs, H b = some (.tup xs) → H' b = some (.tup xs)) (frzs : ∀ b o u, H b = some (.frz o u) → H' b = some (.frz o u)) (tbls : ∀ b ps, H b = some (.tbl ps) → ∃ more, H' b = some (.tbl (ps ++ more)))
  (ns : ∀ m, s.heap.Ns X.env.locals m → h'.Ns X.env.locals m) (hok : HOk X.prog X.w H' h') (hg : AllBare g') :
  Inv X pins σ H' { s with heap:=h', gens:=g', drawn:=d', toks:=t' }:=by
 have neL : ∀ b o, X.s₀.heap.get? b = some o → b ≠ X.env.locals:=fun b o e => Nat.ne_of_lt (Nat.lt_of_lt_of_le (Heap.lt_size e) I.ok.above)
 have neC : ∀ b o, X.s₀.heap.get? b = some o → b ∉ X.ex → b ∉ ch:=fun b o e hx hb => by
  rcases (hch b hb).1 with z | z
  ·exact hx z
  ·exact absurd (Nat.lt_of_lt_of_le (Heap.lt_size e) z) (Nat.lt_irrefl _)
 have cellK : ∀ x c, X.env.cells.lookup x = some c → ∀ v, s.heap.IsCell c v → h'.IsCell c v:=fun x c e v ⟨o, ho, hd⟩ => by
  have nch : c ∉ ch:=fun z => (hch c z).2.2.1 x c e rfl
  by_cases hc : c ∈ X.fs
  ·obtain ⟨sl, q⟩:=slot c o (I.cne x c e) hc nch ho (I.freeC x c e)
   exact ⟨_, q, hd⟩
  ·exact ⟨o, keep c o (I.cne x c e) hc nch ho (I.freeC x c e), hd⟩
 refine ⟨I.ok, I.os, hg, ⟨fun b o e n hb hx => ?_, fun b o e n hb hx => ?_, fun b o e n hx => ?_, fun b o e hx => ?_, fun b xs e => tups b xs (I.base.tups b xs e), fun b o xs e => frzs b o xs (I.base.frzs b o xs e), fun b ps e => ?_⟩, ?_, fun x c e => ?_, ?_, fun x c e => ?_, fun p hp => ?_, hok, I.len⟩
 ·exact keep b o (neL b o e) hb (neC b o e hx) (I.base.keep b o e n hb hx) (I.base.free b o e n hx)
 ·obtain ⟨sl, e1⟩:=I.base.slot b o e n hb hx
  obtain ⟨sl', e2⟩:=slot b _ (neL b o e) hb (neC b o e hx) e1 (I.base.free b o e n hx)
  exact ⟨sl', e2⟩
 ·obtain ⟨o', e1⟩:=I.base.there b o e hx
  exact free b o' (neC b o e hx) e1 (I.base.free b o e n hx)
 ·obtain ⟨o', e1⟩:=I.base.there b o e hx
  exact there b o' (neC b o e hx) e1
 ·obtain ⟨m1, e1⟩:=I.base.tbls b ps e
  obtain ⟨m2, e2⟩:=tbls b _ e1
  exact ⟨m1 ++ m2, by rw [e2, Array.append_assoc]⟩
 ·obtain ⟨m, hn, hl⟩:=I.loc
  refine ⟨m, ns m hn, fun i x v e1 e2 e3 => ?_⟩
  obtain ⟨u, r, l⟩:=hl i x v e1 e2 e3
  refine ⟨u, r, ?_⟩
  rcases l with l | ⟨k, c, e, z⟩
  ·exact .inl l
  ·exact .inr ⟨k, c, e, cellK x c e _ z⟩
 ·obtain ⟨v, z⟩:=I.cell x c e
  exact ⟨v, cellK x c e v z⟩
 ·obtain ⟨m, ⟨o, _, _, ho, _⟩, _⟩:=I.loc
  exact free _ o (fun z => (hch _ z).2.1 rfl) ho I.free
 ·obtain ⟨v, o, ho, hd⟩:=I.cell x c e
  exact free c o (fun z => (hch c z).2.2.1 x c e rfl) ho (I.freeC x c e)
 ·obtain ⟨e, n, ne, nf, d⟩:=I.pin p hp
  have nch : p.1 ∉ ch:=fun z => (hch p.1 z).2.2.2 p hp rfl
  exact ⟨keep p.1 p.2 ne nf nch e n, free p.1 p.2 nch e n, ne, nf, d⟩
theorem Inv.un {t' : Nat} (I : Inv X pins σ H s) (u : Un X.fs [] H H' s.heap h') (hok : HOk X.prog X.w H' h') : Inv X pins σ H' { s with heap:=h', toks:=t' }:=by
 obtain ⟨m, ⟨o, es, ep, ho, r⟩, _⟩:=id I.loc
 obtain ⟨sl, hL⟩:=u.any ho I.free (by simp)
 exact I.step (g':=s.gens) (d':=s.drawn) (ch:=[]) (fun _ z => nomatch z) (fun b o _ hb _ e n => u.keep b o e n hb (by simp)) (fun b o _ hb _ e n => u.slot b o e n hb (by simp)) (fun b o _ e n => u.free b o e n (by simp)) (fun b o _ e => u.there b o e (by simp)) u.tups u.frzs u.tbls (fun m' hm => by
  obtain ⟨o', es', ep', ho', r'⟩:=hm
  rw [ho] at ho'; cases ho'
  exact ⟨_, es', ep', hL, r'⟩) hok I.bare
theorem Inv.call {g' : Array GenState} {t' : Nat} {d' : Drawn} {ch : List Addr} (I : Inv X pins σ H s) (u : Un (frs X.stack) ch H H' s.heap h') (hok : HOk X.prog X.w H' h') (hg : AllBare g')
  (hch : ∀ b ∈ ch, (b ∈ X.ex ∨ X.s₀.heap.objs.size ≤ b) ∧ b ≠ X.env.locals ∧ (∀ x c, X.env.cells.lookup x = some c → c ≠ b) ∧ ∀ p ∈ X.pn ++ pins, p.1 ≠ b) :
  Inv X pins σ H' { s with heap:=h', gens:=g', drawn:=d', toks:=t' }:=by
 obtain ⟨m, ⟨o, es, ep, ho, r⟩, _⟩:=id I.loc
 obtain ⟨sl, hL⟩:=u.any ho I.free fun z => (hch _ z).2.1 rfl
 exact I.step (ch:=ch) hch (fun b o hL hb hc e n => u.keep b o e n (fun z => (List.mem_cons.mp (I.stkSub b z)).elim hL hb) hc) (fun b o _ _ hc e n => u.any e n hc) (fun b o hc e n => u.free b o e n hc) (fun b o hc e => u.there b o e hc) u.tups u.frzs u.tbls (fun m' hm => by
  obtain ⟨o', es', ep', ho', r'⟩:=hm
  rw [ho] at ho'; cases ho'
  exact ⟨_, es', ep', hL, r'⟩) hok hg
theorem Inv.turned {t' : Nat} {it : Addr} (I : Inv X pins σ H s) (k : ∀ b o, b ≠ it → s.heap.get? b = some o → h'.get? b = some o) (hn : H it = none) (hL : it ≠ X.env.locals)
  (h1 : it ∈ X.ex ∨ X.s₀.heap.objs.size ≤ it) (h2 : ∀ x c, X.env.cells.lookup x = some c → c ≠ it) (h3 : ∀ p ∈ X.pn ++ pins, p.1 ≠ it) : Inv X pins σ H { s with heap:=h', toks:=t' }:=by
 have nit : ∀ b u, H b = some u → b ≠ it:=fun b u e z => by rw [z, hn] at e; cases e
 refine I.step (g':=s.gens) (d':=s.drawn) (ch:=[it]) (fun b hb => ?_) (fun b o _ _ hc e _ => k b o (fun z => hc (by simp [z])) e) (fun b o _ _ hc e _ => ⟨o.slots, k b o (fun z => hc (by simp [z])) e⟩) (fun _ _ _ _ n => n)
  (fun b o hc e => ⟨o, k b o (fun z => hc (by simp [z])) e⟩) (fun _ _ e => e) (fun _ _ _ e => e) (fun b ps e => ⟨#[], by rw [e]; simp⟩) (fun m hm => ?_) (fun b u e => ?_) I.bare
 ·have e : b = it:=by simpa using hb
  subst e
  exact ⟨h1, hL, h2, h3⟩
 ·obtain ⟨o, es, ep, ho, r⟩:=hm
  exact ⟨o, es, ep, k _ o (Ne.symm hL) ho, r⟩
 ·refine (I.hok b u e).stay (fun c v hc q => k c v ?_ q) (fun _ q => q) fun _ _ q => q
  rcases hc with z | z
  ·rw [z]; exact nit b u e
  ·exact nit c _ z
theorem Inv.tok (I : Inv X pins σ H s) (t : Nat) : Inv X pins σ H { s with toks:=t }:=I.un (h':=s.heap) (t':=t) Un.refl I.hok
theorem Inv.kept {t' : Nat} (I : Inv X pins σ H s) (k : ∀ b u, s.heap.get? b = some u → h'.get? b = some u) : Inv X pins σ H { s with heap:=h', toks:=t' }:=I.un (Un.kept k) (I.hok.kept k)
theorem Inv.laid {a : Addr} {o : HO} {t' : Nat} (I : Inv X pins σ H s) (k : ∀ b u, s.heap.get? b = some u → h'.get? b = some u) (hp : s.heap.objs.size ≤ a) (new : ObjOk X.prog X.w (upd H a o) h' a o) :
  Inv X pins σ (upd H a o) { s with heap:=h', toks:=t' }:=I.un (Un.laid k hp (I.hok.fresh hp)) (I.hok.laid k hp new)
theorem Inv.write {x e : Addr} {o : HO} {t' : Nat} (I : Inv X pins σ H s) (mu : Mut (H x)) (he : e = x ∨ H e = some (.own x)) (k : ∀ b u, b ≠ e → s.heap.get? b = some u → h'.get? b = some u) (heo : ∃ u, h'.get? e = some u)
  (new : ObjOk X.prog X.w (upd H x o) h' x o) : Inv X pins σ (upd H x o) { s with heap:=h', toks:=t' }:=I.un (Un.write mu he k heo) (I.hok.write mu he k heo new)
theorem Inv.weak {σ' : List (Option V)} (I : Inv X pins σ H s) (hl : σ'.length = σ.length) (w : ∀ (i : Nat) v, σ'[i]? = some (some v) → σ[i]? = some (some v)) : Inv X pins σ' H s :=
 ⟨I.ok, I.os, I.bare, I.base, let ⟨m, hn, hl'⟩:=I.loc; ⟨m, hn, fun i x v e1 e2 e3 => hl' i x v e1 (w i v e2) e3⟩, I.cell, I.free, I.freeC, I.pin, I.hok, hl.trans I.len⟩
theorem Inv.pins_of {pins' : List (Addr × Obj)} (I : Inv X pins σ H s) (h : ∀ p ∈ pins', s.heap.get? p.1 = some p.2 ∧ H p.1 = none ∧ p.1 ≠ X.env.locals ∧ p.1 ∉ X.fs ∧ ∀ v, p.2.data ≠ .cell v) : Inv X pins' σ H s :=
 ⟨I.ok, I.os, I.bare, I.base, I.loc, I.cell, I.free, I.freeC, fun p hp => (List.mem_append.mp hp).elim (fun z => I.pin p (List.mem_append_left _ z)) (h p), I.hok, I.len⟩
theorem nodup_ix {N : List Str} (hN : N.Nodup) {i j : Nat} {x : Str} (a : N[i]? = some x) (b : N[j]? = some x) : i = j:=by
 obtain ⟨h1, e1⟩:=List.getElem?_eq_some_iff.mp a
 obtain ⟨h2, e2⟩:=List.getElem?_eq_some_iff.mp b
 exact (List.getElem_inj hN).mp (e1.trans e2.symm)
theorem store_ok2 {M : Model} {A : Around} {E : Value → Shared → Prop} {i : Nat} {x : Str} {v : V} {u : Value} {Q : Unit → Shared → Prop} (I : Inv X pins σ H s) (hN : X.N.Nodup) (hi : X.N[i]? = some x) (hx : Loc X.env.scope x) (r : RelV v u)
  (h : ∀ s', Inv X pins (σ.set i (some v)) H s' → (∃ a, Heap.SameBut a s.heap s'.heap ∧ (a = X.env.locals ∨ X.env.cells.lookup x = some a)) → Q () s') (hf : X.fn x = true ∨ X.env.scope.names.lookup x = some .local:=by first | exact .inl rfl | exact .inr rfl | assumption) : wpAny M A (storeName X.env x u) Q E s:=by
 obtain ⟨m, hn, hl⟩:=id I.loc
 have hcls : (X.env.scope.kind == .class || (X.env.scope.kind == .module && X.env.locals != X.env.globals)) = false:=by rw [I.ok.kind]; rfl
 have hiσ : i < σ.length:=by rw [I.len]; exact (List.getElem?_eq_some_iff.mp hi).1
 have cne:=I.cne
 have tracked : ∀ {a : Addr} {h' : Heap}, (∃ o, s.heap.get? a = some o ∧ H a = none) → Heap.SameBut a s.heap h' → HOk X.prog X.w H h':=fun {a h'} ha hs b ob e => by
  obtain ⟨_, _, hfree⟩:=ha
  refine (I.hok b ob e).stay (fun c w' hc q => (hs.2 c ?_).trans q) (fun _ q => q) fun _ _ q => q
  rintro rfl
  rcases hc with rfl | hc
  ·rw [hfree] at e; cases e
  ·rw [hfree] at hc; cases hc
 rcases hx with hk | hk
 ·refine wpAny_storeName_local hk hn (fun h' hn' hs => ?_) hcls
  obtain ⟨oL, _, _, hoL, _⟩:=id hn
  refine h _ ⟨I.ok, I.os, I.bare, ⟨fun b o e n hb hx => ?_, fun b o e n hb hx => ?_, I.base.free, fun b o e hx => ?_, I.base.tups, I.base.frzs, I.base.tbls⟩, ⟨_, hn', fun j y v' e1 e2 e3 => ?_⟩, fun y c e => ?_, I.free, I.freeC, fun p hp => ?_, tracked ⟨oL, hoL, I.free⟩ hs, by simpa using I.len⟩ ⟨_, hs, .inl rfl⟩
  ·exact (hs.2 b (Nat.ne_of_lt (Nat.lt_of_lt_of_le (Heap.lt_size e) I.ok.above))).trans (I.base.keep b o e n hb hx)
  ·obtain ⟨sl, e1⟩:=I.base.slot b o e n hb hx
   exact ⟨sl, (hs.2 b (Nat.ne_of_lt (Nat.lt_of_lt_of_le (Heap.lt_size e) I.ok.above))).trans e1⟩
  ·obtain ⟨o', e1⟩:=I.base.there b o e hx
   exact ⟨o', (hs.2 b (Nat.ne_of_lt (Nat.lt_of_lt_of_le (Heap.lt_size e) I.ok.above))).trans e1⟩
  ·by_cases hj : j = i
   ·subst hj
    rw [hi] at e1; cases e1
    rw [List.getElem?_set_self hiσ] at e2
    cases e2
    exact ⟨u, r, .inl ⟨hk, by simp⟩⟩
   ·rw [List.getElem?_set_ne (Ne.symm hj)] at e2
    obtain ⟨u', r', q⟩:=hl j y v' e1 e2 e3
    refine ⟨u', r', ?_⟩
    rcases q with ⟨k, e⟩ | ⟨k, c, e, z⟩
    ·refine .inl ⟨k, ?_⟩
     have : y ≠ x:=fun e => hj (nodup_ix hN e1 (e ▸ hi))
     simp [this, e]
    ·exact .inr ⟨k, c, e, z.sameBut hs (cne y c e)⟩
  ·obtain ⟨w', z⟩:=I.cell y c e
   exact ⟨w', z.sameBut hs (cne y c e)⟩
  ·obtain ⟨e, n, ne, nf, d⟩:=I.pin p hp
   exact ⟨(hs.2 p.1 ne).trans e, n, ne, nf, d⟩
 ·have hfn : X.fn x = true:=by
   rcases hf with z | z
   ·exact z
   ·rw [z] at hk; cases hk
  obtain ⟨c, hc⟩:=I.ok.has x (.inl hk)
  obtain ⟨w', z⟩:=I.cell x c hc
  refine wpAny_storeName_cell I.ok.kind hk hc z (fun h' hc' hs => ?_)
  obtain ⟨oc, hoc, hocd⟩:=id z
  refine h { s with heap:=h' } ⟨I.ok, I.os, I.bare, ⟨fun b o e n hb hx => ?_, fun b o e n hb hx => ?_, I.base.free, fun b o e hx => ?_, I.base.tups, I.base.frzs, I.base.tbls⟩, ⟨m, hn.sameBut hs (Ne.symm (cne x c hc)), fun j y v' e1 e2 e3 => ?_⟩, fun y c' e => ?_, I.free, I.freeC, fun p hp => ?_, tracked ⟨oc, hoc, I.freeC x c hc⟩ hs, by simpa using I.len⟩ ⟨c, hs, .inr hc⟩
  ·exact (hs.2 b (Nat.ne_of_lt (Nat.lt_of_lt_of_le (Heap.lt_size e) (I.ok.cab x c hfn hc)))).trans (I.base.keep b o e n hb hx)
  ·obtain ⟨sl, e1⟩:=I.base.slot b o e n hb hx
   exact ⟨sl, (hs.2 b (Nat.ne_of_lt (Nat.lt_of_lt_of_le (Heap.lt_size e) (I.ok.cab x c hfn hc)))).trans e1⟩
  ·obtain ⟨o', e1⟩:=I.base.there b o e hx
   exact ⟨o', (hs.2 b (Nat.ne_of_lt (Nat.lt_of_lt_of_le (Heap.lt_size e) (I.ok.cab x c hfn hc)))).trans e1⟩
  ·by_cases hj : j = i
   ·subst hj
    rw [hi] at e1; cases e1
    rw [List.getElem?_set_self hiσ] at e2
    cases e2
    exact ⟨u, r, .inr ⟨.inl hk, c, hc, hc'⟩⟩
   ·rw [List.getElem?_set_ne (Ne.symm hj)] at e2
    obtain ⟨u', r', q⟩:=hl j y v' e1 e2 e3
    refine ⟨u', r', ?_⟩
    rcases q with q | ⟨k, c', e, z'⟩
    ·exact .inl q
    ·refine .inr ⟨k, c', e, z'.sameBut hs ?_⟩
     rintro rfl
     exact hj (nodup_ix hN e1 (I.ok.inj _ _ _ e hc ▸ hi))
  ·by_cases hcc : c' = c
   ·subst hcc; exact ⟨_, hc'⟩
   ·obtain ⟨w2, z2⟩:=I.cell y c' e
    exact ⟨w2, z2.sameBut hs hcc⟩
  ·obtain ⟨e, n, ne, nf, d⟩:=I.pin p hp
   refine ⟨(hs.2 p.1 ?_).trans e, n, ne, nf, d⟩
   intro q
   rw [q, hoc] at e
   have q' : oc = p.2:=Option.some.inj e
   exact d w' (by rw [← q']; exact hocd)
theorem store_ok {M : Model} {A : Around} {E : Value → Shared → Prop} {i : Nat} {x : Str} {v : V} {u : Value} {Q : Unit → Shared → Prop} (I : Inv X pins σ H s) (hN : X.N.Nodup) (hi : X.N[i]? = some x) (hx : Loc X.env.scope x) (r : RelV v u)
  (h : ∀ s', Inv X pins (σ.set i (some v)) H s' → Q () s') (hf : X.fn x = true ∨ X.env.scope.names.lookup x = some .local:=by first | exact .inl rfl | exact .inr rfl | assumption) : wpAny M A (storeName X.env x u) Q E s :=
 store_ok2 I hN hi hx r (fun s' I' _ => h s' I') hf
theorem Inv.call' {s' : Shared} {ch : List Addr} (I : Inv X pins σ H s) (ho : s'.os = s.os) (u : Un (frs X.stack) ch H H' s.heap s'.heap) (hok : HOk X.prog X.w H' s'.heap) (hg : AllBare s'.gens)
  (hch : ∀ b ∈ ch, (b ∈ X.ex ∨ X.s₀.heap.objs.size ≤ b) ∧ b ≠ X.env.locals ∧ (∀ x c, X.env.cells.lookup x = some c → c ≠ b) ∧ ∀ p ∈ X.pn ++ pins, p.1 ≠ b) : Inv X pins σ H' s':=by
 obtain ⟨h', g', d', t', o'⟩:=s'
 have e : o' = s.os:=ho
 subst e
 exact I.call (g':=g') (t':=t') (d':=d') u hok hg hch
end
noncomputable abbrev XK:=Value → Option Addr → Hp → Prop
noncomputable abbrev St:=List (Option V)
noncomputable abbrev VK:=V → Hp → Prop
noncomputable abbrev TE:=St → Hp → VK → Prop
noncomputable abbrev TT:=St → Hp → (Bool → Hp → Prop) → Prop
noncomputable abbrev TA:=St → Hp → (List V → Hp → Prop) → Prop
structure Ends where
 nx : St → Hp → Prop
 rt : VK
 bk : St → Hp → Prop:=fun _ _ => False
 ct : St → Hp → Prop:=fun _ _ => False
noncomputable abbrev TS:=Ends → St → Hp → Prop
noncomputable def EP (X : Cx) (pins : List (Addr × Obj)) (σ : St) (Q : VK) (u : Value) (s' : Shared) : Prop:=∃ v H', Inv X pins σ H' s' ∧ RelV v u ∧ Q v H'
noncomputable def TP (X : Cx) (pins : List (Addr × Obj)) (σ : St) (Q : Bool → Hp → Prop) (b : Bool) (s' : Shared) : Prop:=∃ H', Inv X pins σ H' s' ∧ Q b H'
noncomputable def AP (X : Cx) (pins : List (Addr × Obj)) (σ : St) (Q : List V → Hp → Prop) (us : List Value) (s' : Shared) : Prop:=∃ vs H', Inv X pins σ H' s' ∧ Vals vs us ∧ Q vs H'
noncomputable def SP (X : Cx) (pins : List (Addr × Obj)) (D : Ends) (f : Flow) (s' : Shared) : Prop :=
 match f with
 | .next => ∃ σ' H', Inv X pins σ' H' s' ∧ D.nx σ' H'
 | .brk => ∃ σ' H', Inv X pins σ' H' s' ∧ D.bk σ' H'
 | .cont => ∃ σ' H', Inv X pins σ' H' s' ∧ D.ct σ' H'
 | .ret u => ∃ v σ' H', Inv X pins σ' H' s' ∧ RelV v u ∧ D.rt v H'
noncomputable def PE (X : Cx) (e : Expr) (t : TE) : Prop :=
 ∀ (pins : List (Addr × Obj)) (s : Shared) (σ : St) (H : Hp) (Q : VK), Inv X pins σ H s → t σ H Q → wpAny (model X.prog X.w) X.A (eval e X.env) (EP X pins σ Q) X.xe s
noncomputable def PT (X : Cx) (e : Expr) (t : TT) : Prop :=
 ∀ (pins : List (Addr × Obj)) (s : Shared) (σ : St) (H : Hp) (Q : Bool → Hp → Prop), Inv X pins σ H s → t σ H Q → wpAny (model X.prog X.w) X.A (isTrue e X.env (eval e X.env)) (TP X pins σ Q) X.xe s
noncomputable def PW (X : Cx) (e : Expr) (t : TT) : Prop :=
 ∀ (whole : Sem Value) (pins : List (Addr × Obj)) (s : Shared) (σ : St) (H : Hp) (Q : Bool → Hp → Prop), Inv X pins σ H s → t σ H Q → wpAny (model X.prog X.w) X.A (isTrue e X.env whole) (TP X pins σ Q) X.xe s
theorem PW.pt {X : Cx} {e : Expr} {t : TT} (h : PW X e t) : PT X e t:=h _
noncomputable def PA (X : Cx) (es : List Expr) (t : TA) : Prop :=
 ∀ (pos : Pos) (pins : List (Addr × Obj)) (s : Shared) (σ : St) (H : Hp) (Q : List V → Hp → Prop), Inv X pins σ H s → t σ H Q → wpAny (model X.prog X.w) X.A (spliced (backTo pos (starEach es X.env))) (AP X pins σ Q) X.xe s
noncomputable def PS (X : Cx) (st : Stmt) (t : TS) : Prop :=
 ∀ (pins : List (Addr × Obj)) (s : Shared) (σ : St) (H : Hp) (D : Ends), Inv X pins σ H s → t D σ H → wpAny (model X.prog X.w) X.A (exec st X.env) (SP X pins D) X.xe s
noncomputable def PSs (X : Cx) (st : List Stmt) (t : TS) : Prop :=
 ∀ (pins : List (Addr × Obj)) (s : Shared) (σ : St) (H : Hp) (D : Ends), Inv X pins σ H s → t D σ H → wpAny (model X.prog X.w) X.A (execs st X.env) (SP X pins D) X.xe s
theorem thn {α : Type} {t : Sem α} {Q Q' : α → Shared → Prop} {M : Model} {A : Around} {E : Value → Shared → Prop} {s : Shared} (h : wpAny M A t Q E s) (hQ : ∀ a s, Q a s → Q' a s) : wpAny M A t Q' E s:=wpAny_mono h hQ fun _ _ x => x
end L2
namespace L2
open PySem PySem.Spec PyProof.Rows
section
variable {X : Cx}
noncomputable def tVar (i : Nat) : TE:=fun σ H Q => ∃ v, σ[i]? = some (some v) ∧ Q v H
noncomputable def tC (v : V) : TE:=fun _ H Q => Q v H
theorem pe_var {i : Nat} {x : Str} {pos : Pos} (hN : X.N[i]? = some x) (hv : Vis X.env.scope x) (hd : (x == ("__debug__" : Str)) = false := by decide) (hcd : (x == ("__classdict__" : Str)) = false := by decide) : PE X (.Name x pos) (tVar i) := by
 intro pins s σ H Q I h
 obtain ⟨v, e, h⟩:=h
 obtain ⟨m, hn, hl⟩:=I.loc
 obtain ⟨u, r, l⟩:=hl i x v hN e hv
 have fin : EP X pins σ Q u s:=⟨v, H, I, r, h⟩
 rcases l with ⟨hk, hm⟩ | ⟨hk, c, hc, hcell⟩
 ·exact wpAny_Name (wpAny_loadName_local I.ok.kind hk hn hm fin) hd
 ·rcases hk with hk | hk
  ·exact wpAny_Name (wpAny_loadName_cell I.ok.kind hk hc hcell fin) hd
  ·exact wpAny_Name (wpAny_loadName_free I.ok.kind hk hc hcell fin hcd) hd
theorem pe_int {i j pos} : PE X (.Constant (.int i) j pos) (tC (.int i)):=fun _ _ _ H _ I h => wpAny_Constant_int ⟨.int i, H, I.tok _, ⟨_, rfl⟩, h⟩
theorem pe_bl {b j pos} : PE X (.Constant (.bool b) j pos) (tC (.bl b)):=fun _ _ _ H _ I h => Constant_bool ⟨.bl b, H, I, rfl, h⟩
theorem pe_non {j pos} : PE X (.Constant .none j pos) (tC .non):=fun _ _ _ H _ I h => Constant_none ⟨.non, H, I, rfl, h⟩
theorem pe_str {x j pos} : PE X (.Constant (.str x) j pos) (tC (.str x)):=fun _ _ _ H _ I h => Calls.Constant_str ⟨.str x, H, I.tok _, ⟨_, rfl⟩, h⟩
noncomputable def Gl (X : Cx) (x : Str) : Prop:=X.env.kindOf x = some .globalImplicit
theorem ld_glob {E : Value → Shared → Prop} {pins : List (Addr × Obj)} {s : Shared} {σ : St} {H : Hp} {x : Str} {u : Value} {pos : Pos} {Q : Value → Shared → Prop} (I : Inv X pins σ H s) (hg : Gl X x) (hm : X.mg x = some u) (h : Q u s)
  (hd : (x == ("__debug__" : Str)) = false := by decide) : wpAny (model X.prog X.w) X.A (eval (.Name x pos) X.env) Q E s :=
 Calls.Name_function_global I.ok.kind hg (Calls.loadGlobal_global (by rw [I.ok.glob]; exact I.mod.glob.keeps I.bk) hm h) hd
theorem ld_blt {E : Value → Shared → Prop} {pins : List (Addr × Obj)} {s : Shared} {σ : St} {H : Hp} {x : Str} {u : Value} {pos : Pos} {Q : Value → Shared → Prop} (I : Inv X pins σ H s) (hg : Gl X x) (hm : X.mg x = none) (hv : bootBuiltins x = some u) (h : Q u s)
  (hn : x ≠ "__name__" := by decide) (hd : (x == ("__debug__" : Str)) = false := by decide) : wpAny (model X.prog X.w) X.A (eval (.Name x pos) X.env) Q E s := by
 obtain ⟨mb, h1, h2⟩:=I.mod.blt
 exact Calls.Name_function_global I.ok.kind hg (Calls.loadGlobal_builtin (by rw [I.ok.glob]; exact I.mod.glob.keeps I.bk) hm (by rw [I.ok.blt]; exact h1.keeps I.bk) ((h2 x hn).trans hv) h) hd
theorem pe_glob {x : Str} {v : V} {u : Value} {pos : Pos} (hg : Gl X x) (hm : X.mg x = some u) (r : RelV v u) (hd : (x == ("__debug__" : Str)) = false := by decide) : PE X (.Name x pos) (tC v) :=
 fun _ _ _ H _ I h => ld_glob I hg hm ⟨v, H, I, r, h⟩ hd
theorem pe_bltn {x : Str} {v : V} {u : Value} {pos : Pos} (hg : Gl X x) (hm : X.mg x = none) (hv : bootBuiltins x = some u) (r : RelV v u) (hn : x ≠ "__name__" := by decide) (hd : (x == ("__debug__" : Str)) = false := by decide) : PE X (.Name x pos) (tC v) :=
 fun _ _ _ H _ I h => ld_blt I hg hm hv ⟨v, H, I, r, h⟩ hn hd
variable {a b : Expr} {ta tb : TE} {pos : Pos}
noncomputable def tB (t : TE) : TT:=fun σ H Q => t σ H fun x H1 => ∃ c, x = .bl c ∧ Q c H1
theorem pt_val {e : Expr} {t : TE} (h : PE X e t) (he : ∀ whole, isTrue e X.env whole = (do let v ← whole; standAt e.pos; holding [v] (truthy v)):=by intro _; rfl) : PT X e (tB t):=by
 intro pins s σ H Q I hw
 refine isTrue_plain (thn (h pins s σ H _ I hw) fun v s1 ⟨x, H1, I1, r1, q1⟩ => ?_) (he _)
 obtain ⟨d, rfl, q⟩:=q1
 cases r1
 exact wpAny_truthy_bool ⟨H1, I1, q⟩
variable {tA tB' : TT} {rest : List Expr}
noncomputable def tAnd (t u : TT) : TT:=fun σ H Q => t σ H fun c H1 => if c = true then u σ H1 Q else Q false H1
noncomputable def tOr (t u : TT) : TT:=fun σ H Q => t σ H fun c H1 => if c = true then Q true H1 else u σ H1 Q
noncomputable def tNot (t : TT) : TT:=fun σ H Q => t σ H fun c H1 => Q (!c) H1
theorem pw_and1 (ha : PT X a tA) : PW X (.BoolOp .And [a] pos) tA:=by
 intro wh pins s σ H Q I h
 refine isTrue_and (thn (ha pins s σ H Q I h) fun c s1 e => ?_)
 cases c with
 | true => exact isTrue_and_nil e
 | false => exact e
theorem pw_or1 (ha : PT X a tA) : PW X (.BoolOp .Or [a] pos) tA:=by
 intro wh pins s σ H Q I h
 refine isTrue_or (thn (ha pins s σ H Q I h) fun c s1 e => ?_)
 cases c with
 | false => exact isTrue_or_nil e
 | true => exact e
theorem pw_and (ha : PT X a tA) (hb : PW X (.BoolOp .And (b :: rest) pos) tB') : PW X (.BoolOp .And (a :: b :: rest) pos) (tAnd tA tB'):=by
 intro wh pins s σ H Q I h
 refine isTrue_and (thn (ha pins s σ H _ I h) fun c s1 ⟨H1, I1, q1⟩ => ?_)
 cases c with
 | true => exact hb wh pins s1 σ H1 Q I1 q1
 | false => exact ⟨H1, I1, q1⟩
theorem pw_or (ha : PT X a tA) (hb : PW X (.BoolOp .Or (b :: rest) pos) tB') : PW X (.BoolOp .Or (a :: b :: rest) pos) (tOr tA tB'):=by
 intro wh pins s σ H Q I h
 refine isTrue_or (thn (ha pins s σ H _ I h) fun c s1 ⟨H1, I1, q1⟩ => ?_)
 cases c with
 | true => exact ⟨H1, I1, q1⟩
 | false => exact hb wh pins s1 σ H1 Q I1 q1
theorem pt_not (ha : PT X a tA) : PT X (.UnaryOp .Not a pos) (tNot tA):=by
 intro pins s σ H Q I h
 exact isTrue_not (ha pins s σ H (fun c H1 => Q (!c) H1) I h)
noncomputable def tAndV (ta tb : TE) : TE:=fun σ H Q => ta σ H fun x H1 => ∃ c, x = .bl c ∧ if c = true then tb σ H1 Q else Q (.bl false) H1
noncomputable def tNotV (ta : TE) : TE:=fun σ H Q => ta σ H fun x H1 => ∃ c, x = .bl c ∧ Q (.bl (!c)) H1
theorem pe_one {op} {t : TE} (h : PE X a t) : PE X (.BoolOp op [a] pos) t:=fun pins s σ H Q I hw => BoolOp_one (h pins s σ H Q I hw)
theorem pe_and (ha : PE X a ta) (hb : PE X (.BoolOp .And (b :: rest) pos) tb) : PE X (.BoolOp .And (a :: b :: rest) pos) (tAndV ta tb):=by
 intro pins s σ H Q I h
 refine BoolOp_and (thn (ha pins s σ H _ I h) fun v s1 ⟨x, H1, I1, r1, q1⟩ => ?_)
 obtain ⟨c, rfl, q1⟩:=q1
 cases r1
 refine wpAny_truthy_bool ?_
 cases c with
 | true => exact hb pins s1 σ H1 Q I1 q1
 | false => exact ⟨.bl false, H1, I1, rfl, q1⟩
theorem pe_not (ha : PE X a ta) : PE X (.UnaryOp .Not a pos) (tNotV ta):=by
 intro pins s σ H Q I h
 refine UnaryOp_ (thn (ha pins s σ H _ I h) fun v s1 ⟨x, H1, I1, r1, q1⟩ => ?_)
 obtain ⟨c, rfl, q1⟩:=q1
 cases r1
 exact not_of (wpAny_truthy_bool ⟨.bl (!c), H1, I1, rfl, q1⟩)
noncomputable def tIf (t : TT) (ta tb : TE) : TE:=fun σ H Q => t σ H fun c H1 => if c = true then ta σ H1 Q else tb σ H1 Q
theorem pe_ifExp {c : Expr} (hc : PT X c tA) (ha : PE X a ta) (hb : PE X b tb) : PE X (.IfExp c a b pos) (tIf tA ta tb):=by
 intro pins s σ H Q I h
 refine wpAny_IfExp (thn (hc pins s σ H _ I h) fun d s1 ⟨H1, I1, q1⟩ => ?_)
 cases d with
 | true => exact ha pins s1 σ H1 Q I1 q1
 | false => exact hb pins s1 σ H1 Q I1 q1
end
end L2
namespace L2
open PySem PySem.Spec PyProof.Rows
noncomputable def SqL (K : PySem.W.Frag) (H : Hp) (a : Addr) (xs : List V) : Prop :=
 Rd H a (.lst xs) ∨
  ∃ (o : Obj) (its : Array Value) (n : Nat), K.lookup a = some o ∧ o.cls = .type "list" ∧ o.dict = none ∧ o.data = .seq its n ∧ its.size ≤ sizeLine ∧ Vals xs its.toList
noncomputable def SqT (K : PySem.W.Frag) (H : Hp) (a : Addr) (xs : List V) : Prop :=
 Rd H a (.tup xs) ∨
  ∃ (o : Obj) (its : Array Value) (n : Nat), K.lookup a = some o ∧ o.cls = .type "tuple" ∧ o.data = .seq its n ∧ its.size ≤ sizeLine ∧ Vals xs its.toList
noncomputable def absV : Value → Option V
 | .none => some .non
 | .bool b => some (.bl b)
 | .int i _ => some (.int i)
 | .str x _ => some (.str x)
 | .bytes b _ => some (.byt b)
 | .float b _ => some (.flt b)
 | .ref a => some (.ref a)
 | .type n => some (.ty n)
 | _ => none
theorem RelV.abs {x : V} {u : Value} (r : RelV x u) : absV u = some x:=by
 cases x with
 | non => cases r; rfl
 | bl _ => cases r; rfl
 | int _ => obtain ⟨t, rfl⟩:=r; rfl
 | str _ => obtain ⟨t, rfl⟩:=r; rfl
 | byt _ => obtain ⟨t, rfl⟩:=r; rfl
 | flt _ => obtain ⟨t, rfl⟩:=r; rfl
 | ref _ => cases r; rfl
 | ty _ => cases r; rfl
theorem RelV.inj {x y : V} {u : Value} (r : RelV x u) (q : RelV y u) : x = y:=Option.some.inj (r.abs.symm.trans q.abs)
theorem Vals.inj : ∀ {xs ys : List V} {us : List Value}, Vals xs us → Vals ys us → xs = ys
 | _, _, _, .nil, .nil => rfl
 | _, _, _, .cons r t, .cons r' t' => by rw [r.inj r', Vals.inj t t']
section
variable {X : Cx} {pins : List (Addr × Obj)} {σ : St} {H : Hp} {s : Shared} {a : Addr} {xs ys : List V}
theorem SqL.of {K : PySem.W.Frag} (h : H a = some (.lst xs)) : SqL K H a xs:=.inl (.inl h)
theorem SqT.of {K : PySem.W.Frag} (h : H a = some (.tup xs)) : SqT K H a xs:=.inl (.inl h)
theorem Inv.list (I : Inv X pins σ H s) (h : SqL X.K H a xs) : ∃ its : List Value, Vals xs its ∧ PlainL s.heap a its.toArray ∧ xs.length ≤ sizeLine:=by
 rcases h with h | ⟨o, its, n, hk, hc, hd, hs, hz, r⟩
 ·obtain ⟨z, its, n, r, e⟩:=h.ok I.hok
  exact ⟨its, r, ⟨_, n, e, rfl, rfl, rfl⟩, z⟩
 ·refine ⟨its.toList, r, ⟨o, n, I.kIn a o hk, hc, hd, by simpa using hs⟩, ?_⟩
  have e:=r.length
  simp only [Array.length_toList] at e
  omega
theorem Inv.tuple (I : Inv X pins σ H s) (h : SqT X.K H a xs) : ∃ its : List Value, Vals xs its ∧ IsTup s.heap a its.toArray ∧ xs.length ≤ sizeLine:=by
 rcases h with h | ⟨o, its, n, hk, hc, hs, hz, r⟩
 ·obtain ⟨z, its, r, p⟩:=h.ok I.hok
  exact ⟨its, r, p, z⟩
 ·refine ⟨its.toList, r, ⟨o, I.kIn a o hk, hc, n, by simpa using hs⟩, ?_⟩
  have e:=r.length
  simp only [Array.length_toList] at e
  omega
theorem Inv.list_inj (I : Inv X pins σ H s) (h : SqL X.K H a xs) (h' : SqL X.K H a ys) : xs = ys:=by
 obtain ⟨its, r, ⟨o, n, e, _, _, d⟩, _⟩:=I.list h
 obtain ⟨its', r', ⟨o', n', e', _, _, d'⟩, _⟩:=I.list h'
 rw [e] at e'; cases e'
 rw [d] at d'
 injection d' with d1 _
 have : its = its':=by simpa using congrArg Array.toList d1
 subst this
 exact r.inj r'
theorem Inv.tuple_inj (I : Inv X pins σ H s) (h : SqT X.K H a xs) (h' : SqT X.K H a ys) : xs = ys:=by
 obtain ⟨its, r, ⟨o, e, _, n, d⟩, _⟩:=I.tuple h
 obtain ⟨its', r', ⟨o', e', _, n', d'⟩, _⟩:=I.tuple h'
 rw [e] at e'; cases e'
 rw [d] at d'
 injection d' with d1 _
 have : its = its':=by simpa using congrArg Array.toList d1
 subst this
 exact r.inj r'
end
noncomputable abbrev Cx.wish (X : Cx) (E : Value → Shared → Prop) : Cx:={ X with xe:=E }
noncomputable abbrev Cx.nox (X : Cx) : Cx:=X.wish fun _ _ => False
theorem Cx.Ok.wish {X : Cx} (ok : X.Ok) (E : Value → Shared → Prop) : (X.wish E).Ok :=
 ⟨ok.mod, ok.kind, ok.glob, ok.blt, ok.above, ok.inj, ok.has, ok.cab, ok.hd, ok.frames, ok.stk, ok.exf, ok.bs, ok.bsz, ok.noex, ok.exfs, ok.funs, ok.frf⟩
theorem Cx.Ok.unwish {X : Cx} {E : Value → Shared → Prop} (ok : (X.wish E).Ok) : X.Ok :=
 ⟨ok.mod, ok.kind, ok.glob, ok.blt, ok.above, ok.inj, ok.has, ok.cab, ok.hd, ok.frames, ok.stk, ok.exf, ok.bs, ok.bsz, ok.noex, ok.exfs, ok.funs, ok.frf⟩
section
variable {X : Cx} {pins : List (Addr × Obj)} {σ : St} {H : Hp} {s : Shared} {E : Value → Shared → Prop}
theorem Inv.wish (I : Inv X pins σ H s) (E : Value → Shared → Prop) : Inv (X.wish E) pins σ H s:=⟨I.ok.wish E, I.os, I.bare, I.base, I.loc, I.cell, I.free, I.freeC, I.pin, I.hok, I.len⟩
theorem Inv.unwish (I : Inv (X.wish E) pins σ H s) : Inv X pins σ H s:=⟨I.ok.unwish, I.os, I.bare, I.base, I.loc, I.cell, I.free, I.freeC, I.pin, I.hok, I.len⟩
theorem SP.unwish {D : Ends} {f : Flow} {s' : Shared} (h : SP (X.wish E) pins D f s') : SP X pins D f s':=by
 cases f with
 | next => obtain ⟨σ', H', I, q⟩:=h; exact ⟨σ', H', I.unwish, q⟩
 | brk => obtain ⟨σ', H', I, q⟩:=h; exact ⟨σ', H', I.unwish, q⟩
 | cont => obtain ⟨σ', H', I, q⟩:=h; exact ⟨σ', H', I.unwish, q⟩
 | ret u => obtain ⟨v, σ', H', I, r, q⟩:=h; exact ⟨v, σ', H', I.unwish, r, q⟩
theorem PSs.nox {st : List Stmt} {t : TS} (h : PSs X.nox st t) : PSs X st t:=fun pins s σ H D I hw =>
 wpAny_mono (h pins s σ H D (I.wish _) hw) (fun _ _ q => q.unwish) fun _ _ z => False.elim z
end
section
variable {X : Cx} {st : Stmt} {rest : List Stmt} {t u : TS} {e : Expr} {te : TE} {pos : Pos}
noncomputable def tNext : TS:=fun D σ H => D.nx σ H
noncomputable def tSeq (t u : TS) : TS:=fun D σ H => t { D with nx:=u D } σ H
theorem pss_nil : PSs X [] tNext:=fun _ _ σ H _ I h => wpAny_execs_nil ⟨σ, H, I, h⟩
theorem pss_cons (h1 : PS X st t) (h2 : PSs X rest u) : PSs X (st :: rest) (tSeq t u):=by
 intro pins s σ H D I h
 refine wpAny_execs_cons (thn (h1 pins s σ H { D with nx:=u D } I h) fun f s1 q => ?_)
 cases f with
 | next =>
  obtain ⟨σ', H', I', q⟩:=q
  exact h2 pins s1 σ' H' D I' q
 | ret v => exact q
 | brk => exact q
 | cont => exact q
theorem pss_one (h1 : PS X st t) : PSs X [st] t:=by
 intro pins s σ H D I h
 refine wpAny_execs_cons (thn (h1 pins s σ H D I h) fun f s1 q => ?_)
 cases f with
 | next => exact wpAny_execs_nil q
 | ret v => exact q
 | brk => exact q
 | cont => exact q
theorem Inv.quiet {pins : List (Addr × Obj)} {σ : St} {H : Hp} {s : Shared} (I : Inv X pins σ H s) : interactive X.env = false:=by simp [interactive, I.ok.kind]
noncomputable def tDrop (te : TE) : TS:=fun D σ H => te σ H fun _ H1 => D.nx σ H1
theorem ps_expr (he : PE X e te) (hs : swapsWith e none pos.line X.env = pure false:=by rfl) : PS X (.Expr e pos) (tDrop te):=by
 intro pins s σ H D I h
 exact wpAny_Expr_any (thn (he pins s σ H _ I h) fun v s1 ⟨x, H1, I1, r1, q1⟩ => ⟨σ, H1, I1, q1⟩) I.quiet hs
noncomputable def tRet (te : TE) : TS:=fun D σ H => te σ H D.rt
theorem ps_ret (he : PE X e te) : PS X (.Return (some e) pos) (tRet te):=by
 intro pins s σ H D I h
 exact wpAny_Return_some (thn (he pins s σ H _ I h) fun v s1 ⟨x, H1, I1, r1, q1⟩ => ⟨x, σ, H1, I1, r1, q1⟩)
noncomputable def tIfS (c : TT) (t u : TS) : TS:=fun D σ H => c σ H fun b H1 => if b = true then t D σ H1 else u D σ H1
theorem ps_if {c : Expr} {a b : List Stmt} {tc : TT} (hc : PT X c tc) (ha : PSs X a t) (hb : PSs X b u) : PS X (.If c a b pos) (tIfS tc t u):=by
 intro pins s σ H D I h
 refine wpAny_If (thn (hc pins s σ H _ I h) fun d s1 ⟨H1, I1, q1⟩ => ?_)
 cases d with
 | true => exact ha pins s1 σ H1 D I1 q1
 | false => exact hb pins s1 σ H1 D I1 q1
end
noncomputable abbrev TG:=V → St → Hp → (St → Hp → Prop) → Prop
noncomputable abbrev TGs:=List V → St → Hp → (St → Hp → Prop) → Prop
noncomputable def PG (X : Cx) (target : Expr) (t : TG) : Prop :=
 ∀ (pins : List (Addr × Obj)) (s : Shared) (σ : St) (H : Hp) (v : V) (u : Value) (Q : St → Hp → Prop), Inv X pins σ H s → RelV v u → t v σ H Q →
  wpAny (model X.prog X.w) X.A (assign target X.env u) (fun _ s' => ∃ σ' H', Inv X pins σ' H' s' ∧ Q σ' H') X.xe s
noncomputable def PGs (X : Cx) (ts : List Expr) (t : TGs) : Prop :=
 ∀ (pins : List (Addr × Obj)) (s : Shared) (σ : St) (H : Hp) (vs : List V) (us : List Value) (Q : St → Hp → Prop), Inv X pins σ H s → Vals vs us → t vs σ H Q →
  wpAny (model X.prog X.w) X.A (assignInOrder ((assignEach ts X.env).map (·.2)) us) (fun _ s' => ∃ σ' H', Inv X pins σ' H' s' ∧ Q σ' H') X.xe s
section
variable {X : Cx} {pos : Pos}
noncomputable def gName (i : Nat) : TG:=fun v σ H Q => Q (σ.set i (some v)) H
theorem pg_name {i : Nat} {x : Str} (hN : X.N.Nodup) (hi : X.N[i]? = some x) (hx : Loc X.env.scope x) (hf : X.fn x = true ∨ X.env.scope.names.lookup x = some .local:=by first | exact .inl rfl | exact .inr rfl | assumption) : PG X (.Name x pos) (gName i):=by
 intro pins s σ H v u Q I r h
 exact wpAny_assign_Name (store_ok I hN hi hx r (fun s' I' => ⟨_, H, I', h⟩) hf)
noncomputable def gNil : TGs:=fun vs σ H Q => vs = [] ∧ Q σ H
noncomputable def gCons (t : TG) (u : TGs) : TGs:=fun vs σ H Q => ∃ v r, vs = v :: r ∧ t v σ H fun σ' H' => u r σ' H' Q
theorem pgs_nil : PGs X [] gNil:=by
 intro pins s σ H vs us Q I r h
 obtain ⟨e, h⟩:=h
 subst e
 cases r
 exact assignInOrder_nil ⟨σ, H, I, h⟩
theorem pgs_cons {e : Expr} {es : List Expr} {t : TG} {u : TGs} (h1 : PG X e t) (h2 : PGs X es u)
  (hs : (assignEach (e :: es) X.env).map (·.2) = assign e X.env :: (assignEach es X.env).map (·.2):=by rfl) : PGs X (e :: es) (gCons t u):=by
 intro pins s σ H vs us Q I r h
 obtain ⟨v, vr, e1, h⟩:=h
 subst e1
 cases r with
 | cons r rr =>
  rw [hs]
  refine assignInOrder_cons (thn (h1 pins s σ H _ _ _ I r h) fun _ s1 ⟨σ1, H1, I1, q1⟩ => ?_)
  exact h2 pins s1 σ1 H1 _ _ Q I1 rr q1
noncomputable def gTup (K : PySem.W.Frag) (n : Nat) (t : TGs) : TG:=fun v σ H Q => ∃ a xs, v = .ref a ∧ SqT K H a xs ∧ xs.length = n ∧ t xs σ H Q
theorem pg_tup {es : List Expr} {k : Nat} {t : TGs} {n : Nat} (hc : X.calm = true) (h : PGs X es t)
  (hn : (assignEach es X.env).length = n:=by rfl) (hst : (assignEach es X.env).findIdx? (·.1) = none:=by rfl) : PG X (.Tuple es k pos) (gTup X.K n t):=by
 intro pins s σ H v u Q I r hw
 obtain ⟨a, xs, e1, hq, hl, hw⟩:=hw
 subst e1
 cases r
 obtain ⟨its, rv, ht, hz⟩:=I.tuple hq
 refine assign_Tuple_tuple (I.ok.hd hc) ht (by simp [hn, ← hl, rv.length]) hst fun h' hx => ?_
 have I1 : Inv X pins σ H { s with heap:=h' }:=I.kept (t':=s.toks) fun b o e => hx b o (Nat.ne_of_lt (Heap.lt_size e)) e
 exact h pins _ σ H xs _ Q I1 (by simpa using rv) hw
noncomputable def tAsg (te : TE) (g : TG) : TS:=fun D σ H => te σ H fun x H1 => g x σ H1 D.nx
theorem ps_set {i : Nat} {x : Str} {e : Expr} {te : TE} {pos' : Pos} (hN : X.N.Nodup) (hi : X.N[i]? = some x) (hx : Loc X.env.scope x) (he : PE X e te) (hs : swapsWith e (some (.Name x pos')) pos.line X.env = pure false:=by rfl) (hf : X.fn x = true ∨ X.env.scope.names.lookup x = some .local:=by first | exact .inl rfl | exact .inr rfl | assumption) :
  PS X (.Assign [.Name x pos'] e pos) (tAsg te (gName i)):=by
 intro pins s σ H D I h
 refine wpAny_Assign_Name (thn (he pins s σ H _ I h) fun v s1 ⟨y, H1, I1, r1, q1⟩ => ?_) hs
 exact store_ok I1 hN hi hx r1 (fun s2 I2 => ⟨_, H1, I2, q1⟩) hf
noncomputable def tPar (i j : Nat) (ta : TA) : TS:=fun D σ H => ta σ H fun vs H1 => ∃ v w, vs = [v, w] ∧ D.nx ((σ.set i (some v)).set j (some w)) H1
theorem ps_par {i j : Nat} {x y : Str} {a b : Expr} {ta : TA} {px py pt : Pos} {kt k2 pt2} (hc : X.calm = true) (hN : X.N.Nodup) (hi : X.N[i]? = some x) (hj : X.N[j]? = some y) (hij : i ≠ j)
  (hx : X.env.scope.names.lookup x = some .local) (hy : X.env.scope.names.lookup y = some .local) (ha : PA X [a, b] ta)
  (hw : swappedStores [.Tuple [.Name x px, .Name y py] kt pt] (.Tuple [a, b] k2 pt2) X.env = pure (some [x, y]))
  (hs : swapsWithSole [.Tuple [.Name x px, .Name y py] kt pt] (.Tuple [a, b] k2 pt2) pos.line X.env = pure false:=by rfl) :
  PS X (.Assign [.Tuple [.Name x px, .Name y py] kt pt] (.Tuple [a, b] k2 pt2) pos) (tPar i j ta):=by
 intro pins s σ H D I h
 rw [exec_Assign_arm]
 refine wpAny_bind (wpAny_standAt ?_)
 rw [hs]
 refine wpAny_bind (wpAny_pure ?_)
 rw [if_neg (by decide)]
 refine wpAny_bind (Tuple_ (thn (ha _ pins s σ H _ I h) fun us s1 ⟨vs, H1, I1, r1, q1⟩ => ?_))
 obtain ⟨v, w, e1, q1⟩:=q1
 subst e1
 obtain ⟨u1, u2, rfl, rv, rw'⟩ : ∃ u1 u2, us = [u1, u2] ∧ RelV v u1 ∧ RelV w u2:=by
  cases r1 with
  | cons p q =>
   cases q with
   | cons p' q' =>
    cases q'
    exact ⟨_, _, rfl, p, p'⟩
 refine wpAny_newObj_type ?_ (by show 2 ≤ sizeLine; decide)
 have I2 : Inv X pins σ H1 { s1 with heap := s1.heap.push { cls := .type "tuple", data := .seq [u1, u2].toArray } } := I1.kept (t' := s1.toks) fun b o e => Heap.get?_push_of_some _ e
 rw [hw]
 refine wpAny_bind (wpAny_pure ?_)
 show wpAny (model X.prog X.w) X.A (do rule "assign.swapped-stores"; let items ← unpackItems (.ref s1.heap.objs.size) 2 none; assignInOrder [fun v => bindName X.env y v, fun v => bindName X.env x v] items.reverse; pure Flow.next) _ _ _
 refine wpAny_bind (wpAny_rule (wpAny_bind (unpackItems_tuple (items:=#[u1, u2]) (I.ok.hd hc) (IsTup.new s1.heap _) fun h' hx' => ?_)))
 have I3:=I2.kept (h':=h') (t':=s1.toks) fun b o e => hx' b o (Nat.ne_of_lt (Heap.lt_size e)) e
 show wpAny _ _ (assignInOrder [fun v => bindName X.env y v, fun v => bindName X.env x v] [u2, u1] >>= fun _ => pure Flow.next) _ _ _
 refine wpAny_bind (assignInOrder_cons (wpAny_bindName (store_ok I3 hN hj (.inl hy) rw' (fun s2 I4 => ?_) (.inr hy))))
 refine assignInOrder_cons (wpAny_bindName (store_ok I4 hN hi (.inl hx) rv (fun s3 I5 => assignInOrder_nil (wpAny_pure ?_)) (.inr hx)))
 rw [List.set_comm _ _ (Ne.symm hij)] at I5
 exact ⟨_, H1, I5, q1⟩
end
section
variable {X : Cx} {pos : Pos}
end
structure It where
 go : Nat → Hp → Prop
 yld : Nat → Hp → V → Hp → Prop
 stop : Nat → Hp → Prop
noncomputable def FpOk (X : Cx) (pins : List (Addr × Obj)) (H : Hp) (b : Addr) : Prop :=
 H b = none ∧ b ≠ X.env.locals ∧ b ∉ X.fs ∧ (b ∈ X.ex ∨ X.s₀.heap.objs.size ≤ b) ∧ (∀ x c, X.env.cells.lookup x = some c → c ≠ b) ∧ ∀ p ∈ X.pn ++ pins, p.1 ≠ b
theorem Inv.fpOk {X : Cx} {pins : List (Addr × Obj)} {σ : St} {H H' : Hp} {s : Shared} {b : Addr} (I : Inv X pins σ H s) (hb : s.heap.objs.size ≤ b) (hn : H' b = none) : FpOk X pins H' b:=by
 refine ⟨hn, Nat.ne_of_gt (Nat.lt_of_lt_of_le I.lt hb), I.nofs hb, .inr (Nat.le_trans I.sz hb), fun x c e z => ?_, fun p hp z => ?_⟩
 ·obtain ⟨v, q⟩:=I.cell x c e
  exact absurd (Nat.lt_of_lt_of_le q.lt (by rw [z]; exact hb)) (Nat.lt_irrefl _)
 ·exact absurd (Nat.lt_of_lt_of_le (Heap.lt_size (I.pin p hp).1) (by rw [z]; exact hb)) (Nat.lt_irrefl _)
structure Turn (P : Program) (w : World) (K : PySem.W.Frag) (tg : Expr) (J : It) (fp : List Addr) (it : Addr) (tn : Nat → Heap → Prop) : Prop where
 mem : it ∈ fp
 obj : ∀ i h, tn i h → ∀ b ∈ fp, ∃ o, h.get? b = some o ∧ ∀ v, o.data ≠ .cell v
 keep : ∀ i h h', tn i h → (∀ b ∈ fp, ∀ o, h.get? b = some o → h'.get? b = some o) → tn i h'
 item : ∀ (X : Cx), X.prog = P → X.w = w → X.K = K → X.calm = true → ∀ (i : Nat) (pins : List (Addr × Obj)) (s : Shared) (σ : St) (H : Hp) (E : Value → Shared → Prop), Inv X pins σ H s → (∀ b ∈ fp, FpOk X pins H b) → tn i s.heap → J.go i H →
  wpAny (model P w) X.A (pyNext (.ref it)) (fun r s1 => ∃ u, r = some u ∧
   wpAny (model P w) X.A (letOwnedTupleGo tg (.ref it) u) (fun _ s2 => ∃ x H', Inv X pins σ H' s2 ∧ RelV x u ∧ J.yld i H x H' ∧ tn (i + 1) s2.heap ∧ ∀ b ∈ fp, H' b = none) E s1) E s
 done : ∀ (X : Cx), X.prog = P → X.w = w → X.K = K → X.calm = true → ∀ (i : Nat) (pins : List (Addr × Obj)) (s : Shared) (σ : St) (H : Hp) (E : Value → Shared → Prop), Inv X pins σ H s → (∀ b ∈ fp, FpOk X pins H b) → tn i s.heap → J.stop i H →
  wpAny (model P w) X.A (pyNext (.ref it)) (fun r s1 => r = none ∧ Inv X pins σ H s1) E s
 self : ∀ (A : Around) (i : Nat) (s : Shared) (Q : Value → Shared → Prop) (E : Value → Shared → Prop), tn i s.heap → Q (.ref it) s → wpAny (model P w) A (pyIter (.ref it)) Q E s
noncomputable abbrev TI:=St → Hp → (It → Hp → Prop) → Prop
noncomputable def PIE (X : Cx) (pins : List (Addr × Obj)) (σ : St) (tg : Expr) (R : It → Hp → Prop) (itv : Value) (s2 : Shared) : Prop :=
 ∃ (it : Addr) (fp : List Addr) (tn : Nat → Heap → Prop) (J : It) (H' : Hp), itv = .ref it ∧ Inv X pins σ H' s2 ∧ Turn X.prog X.w X.K tg J fp it tn ∧ tn 0 s2.heap ∧ (∀ b ∈ fp, FpOk X pins H' b) ∧ R J H'
noncomputable def PI (X : Cx) (tg iter : Expr) (wi : TI) : Prop :=
 ∀ (pins : List (Addr × Obj)) (s : Shared) (σ : St) (H : Hp) (R : It → Hp → Prop), Inv X pins σ H s → wi σ H R →
  wpAny (model X.prog X.w) X.A (eval iter X.env) (fun v s1 => wpAny (model X.prog X.w) X.A (pyIter v) (PIE X pins σ tg R) X.xe s1) X.xe s
theorem go_of {M : Model} {A : Around} {E : Value → Shared → Prop} {s : Shared} {tg : Expr} {it : Addr} {u : Value} {o : Obj} {n : String} {vs : Array Value} {Q : Unit → Shared → Prop} (ho : s.heap.get? it = some o) (hc : o.cls = .type n) (hd : o.data = .fields vs)
    (hn : ["enumerate", "zip", "dict_itemiterator", "dict_reverseitemiterator", "odict_iterator", "itertools.zip_longest", "itertools.pairwise"].contains n = false) (hQ : Q () s) : wpAny M A (letOwnedTupleGo tg (.ref it) u) Q E s := by
  unfold letOwnedTupleGo
  cases tg <;> first
    | exact wpAny_pure hQ
    | (cases u <;> first
        | exact wpAny_pure hQ
        | (refine wpAny_bind (wpAny_load ho ?_)
           rw [hc, hd]
           show wpAny M A (if (["enumerate", "zip", "dict_itemiterator", "dict_reverseitemiterator", "odict_iterator", "itertools.zip_longest", "itertools.pairwise"].contains n && vs[0]? == some (rawInt _)) = true then _ else _) Q E s
           rw [if_neg (by intro h; rw [hn, Bool.false_and] at h; cases h)]
           exact wpAny_pure hQ))
noncomputable def Itl (K : PySem.W.Frag) (a : Addr) : It :=
 ⟨fun i H => ∃ xs x, SqL K H a xs ∧ xs[i]? = some x, fun i H x H' => H' = H ∧ ∀ xs, SqL K H a xs → xs[i]? = some x, fun i H => ∃ xs, SqL K H a xs ∧ xs.length ≤ i⟩
noncomputable def Itt (K : PySem.W.Frag) (a : Addr) : It :=
 ⟨fun i H => ∃ xs x, SqT K H a xs ∧ xs[i]? = some x, fun i H x H' => H' = H ∧ ∀ xs, SqT K H a xs → xs[i]? = some x, fun i H => ∃ xs, SqT K H a xs ∧ xs.length ≤ i⟩
noncomputable def Itr (lo : Int) (n : Nat) : It:=⟨fun i _ => i < n, fun i H x H' => H' = H ∧ x = .int (lo + i), fun i _ => n ≤ i⟩
theorem turn_list {P : Program} {w : World} {K : PySem.W.Frag} {tg : Expr} (a it : Addr) : Turn P w K tg (Itl K a) [it] it (fun i h => h.IsListIter it a i) where
 mem:=by simp
 obj:=fun i h st b hb => by
  have e : b = it:=by simpa using hb
  subst e
  obtain ⟨o, e, c, d⟩:=st
  exact ⟨o, e, fun v z => by rw [d] at z; cases z⟩
 keep:=fun i h h' st k => st.at fun o e => k it (by simp) o e
 item:=by
  intro X hP hw hK hc i pins s σ H E I hf st hg
  subst hP hw hK
  obtain ⟨xs, x, hq, hx⟩:=hg
  obtain ⟨its, rv, p, hz⟩:=I.list hq
  obtain ⟨u, hu, ru⟩:=rv.get hx
  obtain ⟨f0, f1, f2, f3, f4, f5⟩:=hf it (by simp)
  refine wpAny_pyNext_list_item st p.isList (x:=u) (by simpa using hu) fun h' st' sb => ?_
  have I1 : Inv X pins σ H { s with heap:=h' }:=I.turned (t':=s.toks) (fun b o hb e => (sb.2 b hb).trans e) f0 f1 f3 f4 f5
  obtain ⟨o, e, c, d⟩:=id st'
  exact ⟨u, rfl, go_of (s:={ s with heap:=h' }) e c d (by decide) ⟨x, H, I1, ru, ⟨rfl, fun ys hy => by rw [I.list_inj hy hq]; exact hx⟩, st', fun b hb => (hf b hb).1⟩⟩
 done:=by
  intro X hP hw hK hc i pins s σ H E I hf st hg
  subst hP hw hK
  obtain ⟨xs, hq, hx⟩:=hg
  obtain ⟨its, rv, p, hz⟩:=I.list hq
  obtain ⟨f0, f1, f2, f3, f4, f5⟩:=hf it (by simp)
  have hl:=rv.length
  exact wpAny_pyNext_list_end (I.ok.hd hc) st p.isList (by simp; omega) fun h' eb => ⟨rfl, I.turned (t':=s.toks) (fun b o hb e => eb b o hb e) f0 f1 f3 f4 f5⟩
 self:=fun _ _ _ _ _ st h => wpAny_pyIter_listiter st h
theorem turn_tuple {P : Program} {w : World} {K : PySem.W.Frag} {tg : Expr} (a it : Addr) : Turn P w K tg (Itt K a) [it] it (fun i h => h.IsTupleIter it a i) where
 mem:=by simp
 obj:=fun i h st b hb => by
  have e : b = it:=by simpa using hb
  subst e
  obtain ⟨o, e, c, d⟩:=st
  exact ⟨o, e, fun v z => by rw [d] at z; cases z⟩
 keep:=fun i h h' st k => st.at fun o e => k it (by simp) o e
 item:=by
  intro X hP hw hK hc i pins s σ H E I hf st hg
  subst hP hw hK
  obtain ⟨xs, x, hq, hx⟩:=hg
  obtain ⟨its, rv, p, hz⟩:=I.tuple hq
  obtain ⟨u, hu, ru⟩:=rv.get hx
  obtain ⟨f0, f1, f2, f3, f4, f5⟩:=hf it (by simp)
  refine wpAny_pyNext_tuple_item st (show s.heap.IsTuple a its.toArray from p) (x:=u) (by simpa using hu) fun h' st' sb => ?_
  have I1 : Inv X pins σ H { s with heap:=h' }:=I.turned (t':=s.toks) (fun b o hb e => (sb.2 b hb).trans e) f0 f1 f3 f4 f5
  obtain ⟨o, e, c, d⟩:=id st'
  exact ⟨u, rfl, go_of (s:={ s with heap:=h' }) e c d (by decide) ⟨x, H, I1, ru, ⟨rfl, fun ys hy => by rw [I.tuple_inj hy hq]; exact hx⟩, st', fun b hb => (hf b hb).1⟩⟩
 done:=by
  intro X hP hw hK hc i pins s σ H E I hf st hg
  subst hP hw hK
  obtain ⟨xs, hq, hx⟩:=hg
  obtain ⟨its, rv, p, hz⟩:=I.tuple hq
  obtain ⟨f0, f1, f2, f3, f4, f5⟩:=hf it (by simp)
  have hl:=rv.length
  exact wpAny_pyNext_tuple_end (I.ok.hd hc) st (show s.heap.IsTuple a its.toArray from p) (by simp; omega) fun h' eb => ⟨rfl, I.turned (t':=s.toks) (fun b o hb e => eb b o hb e) f0 f1 f3 f4 f5⟩
 self:=fun _ _ _ _ _ st h => wpAny_pyIter_tupleiter st h
theorem turn_range {P : Program} {w : World} {K : PySem.W.Frag} {tg : Expr} (it : Addr) (lo : Int) (n : Nat) : Turn P w K tg (Itr lo n) [it] it (fun i h => IsRangeIter h it (lo + (i : Nat) * 1) ((n : Int) - (i : Nat)) 1) where
 mem:=by simp
 obj:=fun i h st b hb => by
  have e : b = it:=by simpa using hb
  subst e
  exact ⟨_, st, fun v z => by
   have z' : Data.fields _ = Data.cell v:=z
   cases z'⟩
 keep:=fun i h h' st k => k it (by simp) _ st
 item:=by
  intro X hP hw hK hc i pins s σ H E I hf st hg
  subst hP hw hK
  obtain ⟨f0, f1, f2, f3, f4, f5⟩:=hf it (by simp)
  have W:=Walks.range (prog:=X.prog) (w:=X.w) (I.ok.hd hc) it lo 1 n
  refine W.item i s _ _ hg st fun v h' tk hv st' kk => ?_
  obtain ⟨t, rfl⟩:=hv
  have I1 : Inv X pins σ H { s with heap:=h', toks:=tk }:=I.turned (fun b o hb e => kk b o (by simpa using hb) e) f0 f1 f3 f4 f5
  refine ⟨_, rfl, go_of (s := { s with heap := h', toks := tk }) (n := "range_iterator") st' rfl rfl (by decide) ⟨.int (lo + i), H, I1, ⟨t, ?_⟩, ⟨rfl, rfl⟩, st', fun b hb => (hf b hb).1⟩⟩
  rw [Int.mul_one]
 done:=by
  intro X hP hw hK hc i pins s σ H E I hf st hg
  subst hP hw hK
  obtain ⟨f0, f1, f2, f3, f4, f5⟩:=hf it (by simp)
  exact wpAny_pyNext_range_end (I.ok.hd hc) st (by have : n ≤ i:=hg; omega) fun h' eb => ⟨rfl, I.turned (t':=s.toks) (fun b o hb e => eb b o hb e) f0 f1 f3 f4 f5⟩
 self:=fun _ _ _ _ _ st h => wpAny_pyIter_rangeiter st h
end L2
namespace L2
open PySem PySem.Spec PyProof.Rows
section
variable {X : Cx} {tg : Expr}
noncomputable def iList (K : PySem.W.Frag) (tl : TE) : TI:=fun σ H R => tl σ H fun x H1 => ∃ a, x = .ref a ∧ (∃ xs, SqL K H1 a xs) ∧ R (Itl K a) H1
noncomputable def iTup (K : PySem.W.Frag) (tl : TE) : TI:=fun σ H R => tl σ H fun x H1 => ∃ a, x = .ref a ∧ (∃ xs, SqT K H1 a xs) ∧ R (Itt K a) H1
theorem pi_list {l : Expr} {tl : TE} (hl : PE X l tl) : PI X tg l (iList X.K tl):=by
 intro pins s σ H R I h
 refine thn (hl pins s σ H _ I h) fun v s1 ⟨x, H1, I1, r1, q1⟩ => ?_
 obtain ⟨a, e, ⟨xs, hq⟩, q⟩:=q1
 subst e
 cases r1
 obtain ⟨its, rv, p, hz⟩:=I1.list hq
 refine wpAny_pyIter_list p.isList ?_
 refine ⟨s1.heap.objs.size, [s1.heap.objs.size], _, _, H1, rfl, I1.kept (t':=s1.toks) fun b o e => Heap.get?_push_of_some _ e, turn_list a _, ⟨_, Heap.get?_push_size _ rfl, rfl, rfl⟩, fun b hb => ?_, q⟩
 have e : b = s1.heap.objs.size:=by simpa using hb
 subst e
 exact I1.fpOk (Nat.le_refl _) (I1.hok.fresh (Nat.le_refl _))
theorem pi_tup {l : Expr} {tl : TE} (hl : PE X l tl) : PI X tg l (iTup X.K tl):=by
 intro pins s σ H R I h
 refine thn (hl pins s σ H _ I h) fun v s1 ⟨x, H1, I1, r1, q1⟩ => ?_
 obtain ⟨a, e, ⟨xs, hq⟩, q⟩:=q1
 subst e
 cases r1
 obtain ⟨its, rv, p, hz⟩:=I1.tuple hq
 refine wpAny_pyIter_tuple (show s1.heap.IsTuple a its.toArray from p) ?_
 refine ⟨s1.heap.objs.size, [s1.heap.objs.size], _, _, H1, rfl, I1.kept (t':=s1.toks) fun b o e => Heap.get?_push_of_some _ e, turn_tuple a _, ⟨_, Heap.get?_push_size _ rfl, rfl, rfl⟩, fun b hb => ?_, q⟩
 have e : b = s1.heap.objs.size:=by simpa using hb
 subst e
 exact I1.fpOk (Nat.le_refl _) (I1.hok.fresh (Nat.le_refl _))
theorem range_it {pins : List (Addr × Obj)} {σ : St} {H : Hp} {s : Shared} {R : It → Hp → Prop} {E : Value → Shared → Prop} {lo hi : Int} {t u v : Tok} {tk : Nat} (I : Inv X pins σ H s) (h1 : -(2 ^ 62) ≤ lo) (h2 : lo < 2 ^ 62) (h3 : -(2 ^ 62) ≤ hi) (h4 : hi < 2 ^ 62)
  (q : R (Itr lo (hi - lo).toNat) H) : wpAny (model X.prog X.w) X.A (pyIter (.ref s.heap.objs.size)) (PIE X pins σ tg R) E { s with heap := s.heap.push { cls := .type "range", data := .fields #[.int lo t, .int hi u, .int 1 v] }, toks := tk } := by
 refine wpAny_pyIter_range (IsRange.new ..) (small_one h1 h2 h3 h4) ?_
 have I1 : Inv X pins σ H { s with heap := s.heap.push { cls := .type "range", data := .fields #[.int lo t, .int hi u, .int 1 v] }, toks := tk } := I.kept fun b o e => Heap.get?_push_of_some _ e
 refine ⟨(s.heap.push { cls := .type "range", data := .fields #[.int lo t, .int hi u, .int 1 v] }).objs.size, [(s.heap.push { cls := .type "range", data := .fields #[.int lo t, .int hi u, .int 1 v] }).objs.size], _, _, H, rfl,
  I1.kept (t':=tk) fun b o e => Heap.get?_push_of_some _ e, turn_range _ lo (hi - lo).toNat, ?_, fun b hb => ?_, q⟩
 ·have e1 : lo + ((0 : Nat) : Int) * 1 = lo:=by simp
  have e2 : (((hi - lo).toNat : Nat) : Int) - ((0 : Nat) : Int) = Builtin.Range.rangeSize lo hi 1:=by rw [rangeSize_one]; split <;> omega
  show IsRangeIter _ _ (lo + ((0 : Nat) : Int) * 1) ((((hi - lo).toNat : Nat) : Int) - ((0 : Nat) : Int)) 1
  rw [e1, e2]
  exact Heap.get?_push_size _ rfl
 ·have e : b = (s.heap.push { cls := .type "range", data := .fields #[.int lo t, .int hi u, .int 1 v] }).objs.size := by simpa using hb
  subst e
  exact I1.fpOk (Nat.le_refl _) (I1.hok.fresh (Nat.le_refl _))
noncomputable def iRng1 (ta : TA) : TI:=fun σ H R => ta σ H fun vs H1 => ∃ j : Int, vs = [.int j] ∧ -(2 ^ 62) ≤ j ∧ j < 2 ^ 62 ∧ R (Itr 0 j.toNat) H1
theorem pi_range1 {a : Expr} {ta : TA} {p pos : Pos} (hg : Gl X "range") (hm : X.mg "range" = none) (ha : PA X [a] ta) (hs : starEach [a] X.env = [(false, eval a X.env)] := by rfl) : PI X tg (.Call (.Name "range" p) [a] [] pos) (iRng1 ta) := by
 intro pins s σ H R I h
 refine Call_ (ld_blt I hg hm boot_range (PyProof.Rows.callWith_type1 (thn (ha pos pins s σ H _ I h) fun us s1 ⟨vs, H1, I1, r1, q1⟩ => ?_) hs rfl))
 obtain ⟨j, e, q1, q2, q⟩:=q1
 subst e
 cases r1 with
 | cons r rr =>
  cases rr
  obtain ⟨t, rfl⟩:=r
  exact call_range_1 (range_it I1 (by omega) (by omega) q1 q2 (by simpa using q))
noncomputable def tFor (wi : TI) (g : TG) (tb : TS) : TS:=fun D σ H => wi σ H fun J H1 => ∃ W : Nat → Nat → St → Hp → Prop, (∃ m, W 0 m σ H1) ∧ ∀ i m σ H, W i m σ H →
 (J.stop i H ∧ D.nx σ H) ∨ (J.go i H ∧ ∃ N : St → Hp → Prop, (∀ σ' H', N σ' H' → ∃ m', m' < m ∧ W (i + 1) m' σ' H') ∧ ∀ x H', J.yld i H x H' → g x σ H' fun σ2 H2 => tb { D with nx:=N, ct:=N, bk:=D.nx } σ2 H2)
noncomputable def pinsAt (fp : List Addr) (h : Heap) : List (Addr × Obj):=fp.filterMap fun b => (h.get? b).map fun o => (b, o)
theorem mem_pinsAt {fp : List Addr} {h : Heap} {b : Addr} {o : Obj} (hb : b ∈ fp) (e : h.get? b = some o) : (b, o) ∈ pinsAt fp h:=List.mem_filterMap.mpr ⟨b, hb, by rw [e]; rfl⟩
theorem of_pinsAt {fp : List Addr} {h : Heap} {p : Addr × Obj} (hp : p ∈ pinsAt fp h) : p.1 ∈ fp ∧ h.get? p.1 = some p.2:=by
 obtain ⟨b, hb, e⟩:=List.mem_filterMap.mp hp
 cases q : h.get? b with
 | none => rw [q] at e; cases e
 | some o =>
  rw [q] at e
  have e' : (b, o) = p:=Option.some.inj e
  subst e'
  exact ⟨hb, q⟩
theorem Inv.pinned {pins : List (Addr × Obj)} {σ : St} {H : Hp} {s : Shared} {fp : List Addr} (I : Inv X pins σ H s) (hf : ∀ b ∈ fp, FpOk X pins H b) (ho : ∀ b ∈ fp, ∃ o, s.heap.get? b = some o ∧ ∀ v, o.data ≠ .cell v) : Inv X (pins ++ pinsAt fp s.heap) σ H s :=
 I.pins_of fun p hp => (List.mem_append.mp hp).elim (fun z => I.pin p (List.mem_append_right _ z)) fun z => by
  obtain ⟨hb, e⟩:=of_pinsAt z
  obtain ⟨f0, f1, f2, _⟩:=hf p.1 hb
  obtain ⟨o, e', d⟩:=ho p.1 hb
  rw [e] at e'; cases e'
  exact ⟨e, f0, f1, f2, d⟩
theorem Inv.unpinned {pins pl : List (Addr × Obj)} {σ : St} {H : Hp} {s : Shared} (I : Inv X (pins ++ pl) σ H s) : Inv X pins σ H s:=I.pins_of fun p hp => I.pin p (List.mem_append_right _ (List.mem_append_left _ hp))
theorem ps_for {iter : Expr} {body : List Stmt} {wi : TI} {g : TG} {tb : TS} {pos : Pos} (hp : PassesOwn (model X.prog X.w) X.A X.env X.xe) (hc : X.calm = true) (hi : PI X tg iter wi) (hg : PG X tg g) (hb : PSs X body tb)
  (hs : ∀ x, foldedSetIterable iter X.env x = pure x:=by intro _; rfl) : PS X (.For tg iter body [] pos) (tFor wi g tb):=by
 intro pins s σ H D I h
 refine wpAny_For (thn (hi pins s σ H _ I h) fun v s1 h1 => thn h1 fun itv s2 h2 => ?_) hs
 obtain ⟨it, fp, tn, J, H2, e, I2, T, st2, f2, W, ⟨m0, w0⟩, turn⟩:=h2
 subst e
 have stat : ∀ {H' : Hp}, (∀ b ∈ fp, H' b = none) → ∀ b ∈ fp, FpOk X pins H' b:=fun hn b hb => ⟨hn b hb, (f2 b hb).2⟩
 refine codeAny_forLoop_any (fun n s' => ∃ i σ' H', Inv X pins σ' H' s' ∧ tn i s'.heap ∧ (∀ b ∈ fp, H' b = none) ∧ W i n σ' H') ?_ m0 ⟨0, σ, H2, I2, st2, fun b hb => (f2 b hb).1, w0⟩
 rintro n s3 ⟨i, σ3, H3, I3, st3, fr3, w3⟩
 rcases turn i n σ3 H3 w3 with ⟨stop, qn⟩ | ⟨go, N, hN, step⟩
 ·refine wpAny_passesOwn hp (thn (T.done X rfl rfl rfl hc i pins s3 σ3 H3 X.xe I3 (stat fr3) st3 stop) fun r s4 ⟨hr, I4⟩ => ?_)
  subst hr
  exact wpAny_execs_nil ⟨σ3, H3, I4, qn⟩
 ·refine wpAny_passesOwn hp (thn (T.item X rfl rfl rfl hc i pins s3 σ3 H3 X.xe I3 (stat fr3) st3 go) fun r s4 ⟨u, hr, h4⟩ => ?_)
  subst hr
  refine wpAny_passesOwn hp (thn h4 fun _ s5 ⟨x, H5, I5, r5, y5, st5, fr5⟩ => ?_)
  have I5':=I5.pinned (stat fr5) (T.obj _ _ st5)
  refine wpAny_passesOwn hp (thn (hg _ s5 σ3 H5 x u _ I5' r5 (step x H5 y5)) fun _ s6 ⟨σ6, H6, I6, q6⟩ => ?_)
  refine wpAny_passesOwn hp (thn (hb _ s6 σ6 H6 _ I6 q6) fun f s7 q7 => ?_)
  have again : ∀ {σ7 : St} {H7 : Hp}, Inv X (pins ++ pinsAt fp s5.heap) σ7 H7 s7 → N σ7 H7 → ∃ m, m < n ∧ ∃ i σ' H', Inv X pins σ' H' s7 ∧ tn i s7.heap ∧ (∀ b ∈ fp, H' b = none) ∧ W i m σ' H':=fun {σ7 H7} I7 n7 => by
   obtain ⟨m', hm, w7⟩:=hN σ7 H7 n7
   refine ⟨m', hm, i + 1, σ7, H7, I7.unpinned, T.keep _ _ _ st5 fun b hb o e => (I7.pin (b, o) (List.mem_append_right _ (List.mem_append_right _ (mem_pinsAt hb e)))).1, fun b hb => ?_, w7⟩
   obtain ⟨o, e, d⟩:=T.obj _ _ st5 b hb
   exact (I7.pin (b, o) (List.mem_append_right _ (List.mem_append_right _ (mem_pinsAt hb e)))).2.1
  cases f with
  | next => obtain ⟨σ7, H7, I7, n7⟩:=q7; exact again I7 n7
  | cont => obtain ⟨σ7, H7, I7, n7⟩:=q7; exact again I7 n7
  | brk => obtain ⟨σ7, H7, I7, q7⟩:=q7; exact ⟨σ7, H7, I7.unpinned, q7⟩
  | ret v => obtain ⟨x7, σ7, H7, I7, r7, q7⟩:=q7; exact ⟨x7, σ7, H7, I7.unpinned, r7, q7⟩
end
end L2
namespace L2
open PySem PySem.Spec PyProof.Rows
noncomputable abbrev R2:=V → V → Hp → VK → Prop
noncomputable def OpR (X : Cx) (f : Value → Value → Sem Value) (r : R2) : Prop :=
 ∀ (pins : List (Addr × Obj)) (s : Shared) (σ : St) (H : Hp) (x y : V) (v u : Value) (Q : VK), Inv X pins σ H s → RelV x v → RelV y u → r x y H Q →
  wpAny (model X.prog X.w) X.A (f v u) (EP X pins σ Q) X.xe s
noncomputable def UnR (X : Cx) (f : Value → Sem Value) (r : V → Hp → VK → Prop) : Prop :=
 ∀ (pins : List (Addr × Obj)) (s : Shared) (σ : St) (H : Hp) (x : V) (v : Value) (Q : VK), Inv X pins σ H s → RelV x v → r x H Q →
  wpAny (model X.prog X.w) X.A (f v) (EP X pins σ Q) X.xe s
noncomputable def CallR (X : Cx) (f : Value) (r : List V → Hp → VK → Prop) : Prop :=
 ∀ (pins : List (Addr × Obj)) (s : Shared) (σ : St) (H : Hp) (xs : List V) (us : List Value) (Q : VK), Inv X pins σ H s → Vals xs us → r xs H Q →
  wpAny (model X.prog X.w) X.A (call f us) (EP X pins σ Q) X.xe s
noncomputable def tOp (r : R2) (ta tb : TE) : TE:=fun σ H Q => ta σ H fun x H1 => tb σ H1 fun y H2 => r x y H2 Q
noncomputable def tUn (r : V → Hp → VK → Prop) (ta : TE) : TE:=fun σ H Q => ta σ H fun x H1 => r x H1 Q
noncomputable def rI (C : Int → Int → Prop) (g : Int → Int → V) : R2:=fun x y H Q => ∃ i j, x = .int i ∧ y = .int j ∧ C i j ∧ Q (g i j) H
noncomputable def rI0 (g : Int → Int → V) : R2:=fun x y H Q => ∃ i j, x = .int i ∧ y = .int j ∧ Q (g i j) H
noncomputable def rU (g : Int → V) : V → Hp → VK → Prop:=fun x H Q => ∃ i, x = .int i ∧ Q (g i) H
section
variable {X : Cx} {a b c : Expr} {ta tb tc : TE} {pos : Pos}
theorem binT (ha : PE X a ta) (hb : PE X b tb) {pins : List (Addr × Obj)} {s : Shared} {σ : St} {H : Hp} {R : V → V → Hp → Prop} (I : Inv X pins σ H s)
  (h : ta σ H fun x H1 => tb σ H1 fun y H2 => R x y H2) {Q : Value → Shared → Prop} {f : Value → Value → Sem Value}
  (hf : ∀ v u s2 x y H2, Inv X pins σ H2 s2 → RelV x v → RelV y u → R x y H2 → wpAny (model X.prog X.w) X.A (f v u) Q X.xe s2) :
  wpAny (model X.prog X.w) X.A (eval a X.env) (fun v s₁ => wpAny (model X.prog X.w) X.A (eval b X.env) (fun u s₂ => wpAny (model X.prog X.w) X.A (f v u) Q X.xe s₂) X.xe s₁) X.xe s:=by
 refine thn (ha pins s σ H _ I h) fun v s1 ⟨x, H1, I1, r1, q1⟩ => ?_
 refine thn (hb pins s1 σ H1 _ I1 q1) fun u s2 ⟨y, H2, I2, r2, q2⟩ => ?_
 exact hf v u s2 x y H2 I2 r1 r2 q2
theorem pe_op {op : Operator} {r : R2} (ho : OpR X (binaryOp op) r) (ha : PE X a ta) (hb : PE X b tb) : PE X (.BinOp a op b pos) (tOp r ta tb):=by
 intro pins s σ H Q I h
 exact wpAny_BinOp (binT ha hb I h fun v u s2 x y H2 I2 rx ry q => ho pins s2 σ H2 x y v u Q I2 rx ry q)
theorem pe_un {op : UnaryOp} {r : V → Hp → VK → Prop} (ho : UnR X (unaryOp op) r) (ha : PE X a ta) : PE X (.UnaryOp op a pos) (tUn r ta):=by
 intro pins s σ H Q I h
 exact UnaryOp_ (thn (ha pins s σ H _ I h) fun v s1 ⟨x, H1, I1, r1, q1⟩ => ho pins s1 σ H1 x v Q I1 r1 q1)
theorem opI {f : Value → Value → Sem Value} {C : Int → Int → Prop} {g : Int → Int → Int}
  (rule : ∀ (i j : Int) (t u : Tok) (s : Shared) (Q : Value → Shared → Prop) (E : Value → Shared → Prop), C i j → Q (.int (g i j) s.toks) { s with toks:=s.toks + 1 } → wpAny (model X.prog X.w) X.A (f (.int i t) (.int j u)) Q E s) :
  OpR X f (rI C fun i j => .int (g i j)):=by
 intro pins s σ H x y v u Q I rx ry h
 obtain ⟨i, j, rfl, rfl, hc, q⟩:=h
 obtain ⟨t, rfl⟩:=rx
 obtain ⟨t', rfl⟩:=ry
 exact rule i j t t' s _ _ hc ⟨.int (g i j), H, I.tok _, ⟨_, rfl⟩, q⟩
theorem opI0 {f : Value → Value → Sem Value} {g : Int → Int → Int}
  (rule : ∀ (i j : Int) (t u : Tok) (s : Shared) (Q : Value → Shared → Prop) (E : Value → Shared → Prop), Q (.int (g i j) s.toks) { s with toks:=s.toks + 1 } → wpAny (model X.prog X.w) X.A (f (.int i t) (.int j u)) Q E s) :
  OpR X f (rI0 fun i j => .int (g i j)):=by
 intro pins s σ H x y v u Q I rx ry h
 obtain ⟨i, j, rfl, rfl, q⟩:=h
 obtain ⟨t, rfl⟩:=rx
 obtain ⟨t', rfl⟩:=ry
 exact rule i j t t' s _ _ ⟨.int (g i j), H, I.tok _, ⟨_, rfl⟩, q⟩
theorem opB0 {f : Value → Value → Sem Value} {g : Int → Int → Bool}
  (rule : ∀ (i j : Int) (t u : Tok) (s : Shared) (Q : Value → Shared → Prop) (E : Value → Shared → Prop), Q (.bool (g i j)) s → wpAny (model X.prog X.w) X.A (f (.int i t) (.int j u)) Q E s) :
  OpR X f (rI0 fun i j => .bl (g i j)):=by
 intro pins s σ H x y v u Q I rx ry h
 obtain ⟨i, j, rfl, rfl, q⟩:=h
 obtain ⟨t, rfl⟩:=rx
 obtain ⟨t', rfl⟩:=ry
 exact rule i j t t' s _ _ ⟨.bl (g i j), H, I, rfl, q⟩
noncomputable def CDiv (i j : Int) : Prop:=0 < j ∧ j < 1073741824
noncomputable def CMul (i j : Int) : Prop:=(-(2 ^ 64) < i ∧ i < 2 ^ 64) ∨ (-(2 ^ 64) < j ∧ j < 2 ^ 64)
theorem CMul.ok {i j : Int} (h : CMul i j) : IntMulOk i j:=by
 rcases h with ⟨h1, h2⟩ | ⟨h1, h2⟩
 ·exact .of_left (intBits_le_64 h1 h2)
 ·exact .of_right (intBits_le_64 h1 h2)
theorem op_add : OpR X (binaryOp .Add) (rI0 fun i j => .int (i + j)):=opI0 fun _ _ _ _ _ _ _ q => add_int q
theorem op_sub : OpR X (binaryOp .Sub) (rI0 fun i j => .int (i - j)):=opI0 fun _ _ _ _ _ _ _ q => sub_int q
theorem op_mul : OpR X (binaryOp .Mult) (rI CMul fun i j => .int (i * j)):=opI fun _ _ _ _ _ _ _ hc q => mul_int q hc.ok
theorem op_fdiv : OpR X (binaryOp .FloorDiv) (rI CDiv fun i j => .int (i / j)):=opI fun i j _ _ _ _ _ hc q => by
 have h1 : (0 : Int) < j:=hc.1
 have h2 : j < 1073741824:=hc.2
 exact floordiv_int (by omega) (by rw [Int.fdiv_eq_ediv_of_nonneg i (by omega)]; exact q) (.inl (PyProof.noPylong_small (by omega)))
theorem op_mod : OpR X (binaryOp .Mod) (rI (fun _ j => 0 < j) fun i j => .int (i % j)):=opI fun i j _ _ _ _ _ hc q => by
 have h1 : (0 : Int) < j:=hc
 exact mod_int' (by omega) (by rw [Int.fmod_eq_emod_of_nonneg i (by omega)]; exact q)
theorem unI {f : Value → Sem Value} {g : Int → Int}
  (rule : ∀ (i : Int) (t : Tok) (s : Shared) (Q : Value → Shared → Prop) (E : Value → Shared → Prop), Q (.int (g i) s.toks) { s with toks:=s.toks + 1 } → wpAny (model X.prog X.w) X.A (f (.int i t)) Q E s) :
  UnR X f (rU fun i => .int (g i)):=by
 intro pins s σ H x v Q I rx h
 obtain ⟨i, rfl, q⟩:=h
 obtain ⟨t, rfl⟩:=rx
 exact rule i t s _ _ ⟨.int (g i), H, I.tok _, ⟨_, rfl⟩, q⟩
theorem un_neg : UnR X (unaryOp .USub) (rU fun i => .int (-i)):=unI fun _ _ _ _ _ q => neg_int q
end
section
variable {X : Cx} {a b c : Expr} {ta tb tc : TE} {pos : Pos}
theorem fin_bl {pins : List (Addr × Obj)} {σ : St} {H : Hp} {s : Shared} {Q : VK} {k k' : Bool} (I : Inv X pins σ H s) (q : Q (.bl k) H) (e : k = k') : EP X pins σ Q (.bool k') s:=by
 subst e
 exact ⟨.bl k, H, I, rfl, q⟩
theorem op_lt : OpR X (compareOp .Lt) (rI0 fun i j => .bl (decide (i < j))):=opB0 fun _ _ _ _ _ _ _ q => lt_int q
theorem op_le : OpR X (compareOp .LtE) (rI0 fun i j => .bl (decide (i ≤ j))):=opB0 fun _ _ _ _ _ _ _ q => le_int q
theorem op_gt : OpR X (compareOp .Gt) (rI0 fun i j => .bl (decide (j < i))):=opB0 fun _ _ _ _ _ _ _ q => gt_int q
theorem op_isN : OpR X (compareOp .Is) (fun x y H Q => y = .non ∧ Q (.bl (decide (x = .non))) H):=by
 intro pins s σ H x y v u Q I rx ry h
 obtain ⟨rfl, q⟩:=h
 cases ry
 refine is_none_gen (fin_bl I q ?_)
 cases x <;> first
  | (cases rx; rfl)
  | (obtain ⟨t, rfl⟩:=rx; rfl)
theorem nomark (b : Expr) {op : CmpOp} (h : op ≠ .In:=by decide) (h2 : op ≠ .NotIn:=by decide) : behindInMarks op b = false:=by
 have e1 : (op == CmpOp.In) = false:=by cases op <;> first | rfl | exact absurd rfl h
 have e2 : (op == CmpOp.NotIn) = false:=by cases op <;> first | rfl | exact absurd rfl h2
 cases b <;> simp [behindInMarks, e1, e2]
theorem pe_cmpR {op : CmpOp} {r : R2} (ho : OpR X (compareOp op) r) (ha : PE X a ta) (hb : PE X b tb) (hm : behindInMarks op b = false) : PE X (.Compare a [op] [b] pos) (tOp r ta tb):=by
 intro pins s σ H Q I h
 exact wpAny_Compare1 (binT ha hb I h fun v u s2 x y H2 I2 rx ry q => ho pins s2 σ H2 x y v u Q I2 rx ry q) hm
noncomputable def tTest (t : TE) : TT:=fun σ H Q => t σ H fun x H' => ∃ k, x = .bl k ∧ Q k H'
theorem pt_cmpR {op : CmpOp} {r : R2} (ho : OpR X (compareOp op) r) (ha : PE X a ta) (hb : PE X b tb) (hm : behindInMarks op b = false) : PT X (.Compare a [op] [b] pos) (tTest (tOp r ta tb)):=by
 intro pins s σ H Q I h
 refine wpAny_isTrue_Compare1 (thn (ha pins s σ H _ I h) fun v s1 ⟨x, H1, I1, r1, q1⟩ => thn (hb pins s1 σ H1 _ I1 q1) fun u s2 ⟨y, H2, I2, r2, q2⟩ =>
  thn (ho pins s2 σ H2 x y v u _ I2 r1 r2 q2) fun c s3 ⟨z, H3, I3, r3, k, e, q3⟩ => ?_) hm
 subst e
 cases r3
 exact wpAny_truthy_bool ⟨H3, I3, q3⟩
noncomputable def tChain (r r' : R2) (ta tb tc : TE) : TE:=fun σ H Q => ta σ H fun x H1 => tb σ H1 fun y H2 => r x y H2 fun z H3 => ∃ k, z = .bl k ∧
 (if k = true then tc σ H3 fun w' H4 => r' y w' H4 Q else Q (.bl false) H3)
theorem pe_chain {op op' : CmpOp} {r r' : R2} (ho : OpR X (compareOp op) r) (ho' : OpR X (compareOp op') r') (ha : PE X a ta) (hb : PE X b tb) (hc : PE X c tc)
  (hm : lastMarks [op, op'] [b, c] = false:=by with_unfolding_all rfl) : PE X (.Compare a [op, op'] [b, c] pos) (tChain r r' ta tb tc):=by
 intro pins s σ H Q I h
 refine Compare_chain (thn (ha pins s σ H _ I h) fun v s1 ⟨x, H1, I1, r1, q1⟩ => chain_link (thn (hb pins s1 σ H1 _ I1 q1) fun u s2 ⟨y, H2, I2, r2, q2⟩ =>
  thn (ho pins s2 σ H2 x y v u _ I2 r1 r2 q2) fun d s3 ⟨z, H3, I3, r3, k, e, q3⟩ => ?_)) hm
 subst e
 cases r3
 refine wpAny_truthy_bool ?_
 cases k with
 | false => exact ite_ff ⟨.bl false, H3, I3, rfl, q3⟩
 | true => exact ite_tt (chain_last (thn (hc pins s3 σ H3 _ I3 q3) fun w' s4 ⟨z', H4, I4, r4, q4⟩ => ho' pins s4 σ H4 y z' u w' Q I4 r2 r4 q4))
theorem line63 : (sizeLine : Nat) < 2 ^ 63:=by rw [sizeLine_eq]; decide
theorem op_add_str : OpR X (binaryOp .Add) (fun x y H Q => ∃ i j, x = .str i ∧ y = .str j ∧ i.length + j.length ≤ sizeLine ∧ Q (.str (i ++ j)) H):=by
 intro pins s σ H x y v u Q I rx ry h
 obtain ⟨i, j, rfl, rfl, hz, q⟩:=h
 obtain ⟨t, rfl⟩:=rx
 obtain ⟨t', rfl⟩:=ry
 exact add_str (fun t' tk => ⟨.str (i ++ j), H, I.tok _, ⟨_, rfl⟩, q⟩) hz
theorem vals1 {x : V} {us : List Value} (r : Vals [x] us) : ∃ u, us = [u] ∧ RelV x u:=by
 cases r with
 | cons r1 r2 => cases r2; exact ⟨_, rfl, r1⟩
theorem vals2 {x y : V} {us : List Value} (r : Vals [x, y] us) : ∃ u w', us = [u, w'] ∧ RelV x u ∧ RelV y w':=by
 cases r with
 | cons r1 r2 =>
  cases r2 with
  | cons r3 r4 => cases r4; exact ⟨_, _, rfl, r1, r3⟩
end
end L2
namespace L2
open PySem PySem.Spec PyProof.Rows
structure ObjM (h : Heap) (x dx C : Addr) (mA : Str → Option Value) : Prop where
 obj : h.get? x = some (PySem.W.instObj C dx)
 ns : h.Ns1 dx mA
 ne : dx ≠ x
theorem lookIn_ns {h : Heap} {dx : Addr} {mA : Str → Option Value} (n : h.Ns1 dx mA) : ∃ od, h.get? dx = some od ∧ ∀ name, PySem.W.lookIn name od = some (mA name):=by
 obtain ⟨o, es, ep, ho, hd, hk, _, hm⟩:=n
 refine ⟨o, ho, fun name => ?_⟩
 have e:=hm name
 unfold nsFind findBy at e
 rw [← Array.find?_toList] at e
 unfold PySem.W.lookIn
 rw [hd]
 dsimp only
 split
 ·rename_i y q
  rw [q] at e
  exact congrArg some e
 ·rename_i q
  rw [q] at e
  have a : es.toList.any (·.refKey) = false:=by
   rw [List.any_eq_false]
   intro y hy
   obtain ⟨z, t, hkey⟩:=hk y (Array.mem_toList_iff.mp hy)
   simp [DictEntry.refKey, hkey]
  have a' : ¬ es.toList.any (·.refKey) = true:=by rw [a]; exact Bool.false_ne_true
  rw [if_neg a']
  exact congrArg some e
theorem ObjM.look {h : Heap} {x dx C : Addr} {mA : Str → Option Value} (I : ObjM h x dx C mA) : ∃ od, PySem.W.InstAt h x (PySem.W.instObj C dx) C (some od) ∧ ∀ name, PySem.W.lookIn name od = some (mA name) :=
 let ⟨od, ho, hl⟩:=lookIn_ns I.ns
 ⟨od, ⟨I.obj, rfl, rfl, ho⟩, hl⟩
section
variable {prog : Program} {w : World} {A : Around} {E : Value → Shared → Prop} {s : Shared} {K : PySem.W.Frag} {x dx C f : Addr} {mA : Str → Option Value} {name : Str} {v : Value}
theorem get_map {expr : Bool} {Q : Value → Shared → Prop} (X : K.In s.heap) (I : ObjM s.heap x dx C mA) (hg : PySem.W.plainGet K C name = true) (hh : PySem.W.hasDictIn K C = true)
  (ha : PySem.W.findIn K (.ref C) name = some none) (hv : mA name = some v) (hv' : PySem.W.handedIn v = true) (h : Q v { s with toks:=s.toks + 1 }) :
  wpAny (model prog w) A (getAttr (.ref x) name expr) Q E s:=by
 obtain ⟨od, J, hl⟩:=I.look
 exact PySem.W.get_value X J (PySem.W.plainGet_of hg).1 (PySem.W.findObj_own hh ha rfl (by rw [hl, hv])) hv' h
theorem get_meth {pl : Sem Bool} {Q : Value × List Value → Shared → Prop} (X : K.In s.heap) (I : ObjM s.heap x dx C mA) (hg : PySem.W.plainGet K C name = true)
  (hf : PySem.W.findIn K (.ref C) name = some (some (.ref f))) (ht : PySem.W.isFn K (.ref f) = true) (hv : mA name = none) (h : Q (.ref f, [.ref x]) s) :
  wpAny (model prog w) A (getMethod (.ref x) name pl) Q E s:=by
 obtain ⟨od, J, hl⟩:=I.look
 exact PySem.W.method_fn X J (PySem.W.plainGet_of hg).1 (PySem.W.plainGet_of hg).2 hf (beq_iff_eq.mp ht) (by show (PySem.W.lookIn name od).map (·.isSome) = some false; rw [hl, hv]; rfl) h
theorem set_map {ns : List Str} {Q : Unit → Shared → Prop} (X : K.In s.heap) (I : ObjM s.heap x dx C mA)
  (hs : PySem.W.findIn K (.ref C) "__setattr__" = some (some (.builtin "object.__setattr__"))) (hp : PySem.W.plainOver K C = true) (ht : PySem.W.takerIn K C name = some none) (hh : PySem.W.hasDictIn K C = true)
  (hw : PySem.Within mA ns) (hsz : ns.length ≤ sizeLine)
  (h : ∀ h', ObjM h' x dx C (fun y => if y = name then some v else mA y) → Heap.SameBut dx s.heap h' → Q () { s with heap:=h', toks:=s.toks + 2 }) :
  wpAny (model prog w) A (setAttr (.ref x) name v) Q E s:=by
 obtain ⟨od, J, hl⟩:=I.look
 refine PySem.W.set_plain X J hs (PySem.W.osa_open (s:={ s with toks:=s.toks + 1 }) (r:=none) X J hp ht fun b => ?_)
 obtain ⟨cd, hc, hd'⟩:=PySem.W.any_some hh
 have hx : s.heap.get? x = some ⟨.ref C, some dx, .plain, #[]⟩:=I.obj
 refine wpAny_bind (wpAny_pure (wpAny_bind (wpAny_bind (wpAny_loadPart hx (wpAny_bind (PySem.W.Looks.here (s:={ s with toks:=s.toks + 1 }) (PySem.W.looks_clsIn X hc) ?_))))))
 rw [hd']
 refine wpAny_pure (a:=some dx) (wpAny_bind (wpAny_pure (wpAny_bind ?_)))
 refine wpAny_nsSet1 (s:={ s with toks:=s.toks + 1 }) I.ns fun h' hn2 hs2 => ?_
 obtain ⟨oD, esD, epD, hoD, hdD, hcD⟩:=hn2.count (PySem.Within.cons name v hw)
 refine wpAny_bind (wpAny_lookBehind hoD (by rw [hdD]; exact pastItsLine_dict (Nat.le_trans hcD (by rw [List.length_cons]; omega))) ?_)
 exact wpAny_pure (h _ ⟨(hs2.2 _ (Ne.symm I.ne)).trans I.obj, hn2, I.ne⟩ hs2)
theorem make_map {R : Result → Shared → Prop} {vs : List Value} {kw : List (Str × Value)} (X : K.In s.heap) (hm : PySem.W.makesIn K C = true)
  (hi : PySem.W.findIn K (.ref C) "__init__" = some (some (.ref f))) (hf : PySem.W.typeIn K (.ref f) = some (.type "function"))
  (h : codeAny (model prog w) (A.under (.builtin "type.__call__" ⟨.ref C :: vs, kw⟩)) (.call (.ref f) ⟨.ref (s.heap.objs.size + 1) :: vs, kw⟩) (PySem.W.InitBack (s.heap.objs.size + 1) R)
   { s with heap:=(s.heap.push PySem.W.emptyDict).push (PySem.W.instObj C s.heap.objs.size) }) :
  codeAny (model prog w) A (.call (.ref C) ⟨vs, kw⟩) R s:=by
 obtain ⟨hh, g, d, t, os⟩:=s
 exact PySem.W.make_core (PySem.W.makes_of X hm) (PySem.W.looks_findIn X hi) (fun self => PySem.W.bind_fn X self hf) (.inl rfl) h
end
noncomputable def putF (f : Str) (v : V) : List (Str × V) → List (Str × V)
 | [] => [(f, v)]
 | (g, x) :: r => if g = f then (g, v) :: r else (g, x) :: putF f v r
theorem lookup_putF (f g : Str) (v : V) : ∀ fs : List (Str × V), (putF f v fs).lookup g = if g = f then some v else fs.lookup g
 | [] => by
  show List.lookup g [(f, v)] = _
  by_cases h : g = f
  ·have hb : (g == f) = true:=beq_iff_eq.mpr h
   simp only [List.lookup, hb, if_pos h]
  ·have hb : (g == f) = false:=beq_eq_false_iff_ne.mpr h
   simp only [List.lookup, hb, if_neg h]
 | (k, x) :: r => by
  have ih:=lookup_putF f g v r
  rw [show putF f v ((k, x) :: r) = (if k = f then (k, v) :: r else (k, x) :: putF f v r) from rfl]
  by_cases hk : k = f
  ·rw [if_pos hk]
   by_cases h : g = k
   ·have hb : (g == k) = true:=beq_iff_eq.mpr h
    simp only [List.lookup, hb, if_pos (h.trans hk)]
   ·have hb : (g == k) = false:=beq_eq_false_iff_ne.mpr h
    simp only [List.lookup, hb, if_neg (fun e : g = f => h (e.trans hk.symm))]
  ·rw [if_neg hk]
   by_cases h : g = k
   ·have hb : (g == k) = true:=beq_iff_eq.mpr h
    simp only [List.lookup, hb, if_neg (fun e : g = f => hk (h.symm.trans e))]
   ·have hb : (g == k) = false:=beq_eq_false_iff_ne.mpr h
    simp only [List.lookup, hb]
    exact ih
theorem keys_putF (f : Str) (v : V) : ∀ fs : List (Str × V), f ∈ (putF f v fs).map (·.1) ∧ ∀ g, g ∈ fs.map (·.1) → g ∈ (putF f v fs).map (·.1)
 | [] => ⟨by simp [putF], fun g h => by simp at h⟩
 | (k, x) :: r => by
  obtain ⟨i1, i2⟩:=keys_putF f v r
  rw [show putF f v ((k, x) :: r) = (if k = f then (k, v) :: r else (k, x) :: putF f v r) from rfl]
  by_cases hk : k = f
  ·rw [if_pos hk]
   subst hk
   exact ⟨by simp, fun g h => by simpa using h⟩
  ·rw [if_neg hk]
   refine ⟨?_, fun g h => ?_⟩
   ·rw [List.map_cons]
    exact List.mem_cons_of_mem _ i1
   ·rw [List.map_cons] at h ⊢
    rcases List.mem_cons.mp h with e | e
    ·exact List.mem_cons.mpr (.inl e)
    ·exact List.mem_cons_of_mem _ (i2 g e)
theorem length_putF (f : Str) (v : V) : ∀ fs : List (Str × V), (putF f v fs).length ≤ fs.length + 1
 | [] => by simp [putF]
 | (k, x) :: r => by
  have ih:=length_putF f v r
  rw [show putF f v ((k, x) :: r) = (if k = f then (k, v) :: r else (k, x) :: putF f v r) from rfl]
  by_cases hk : k = f
  ·rw [if_pos hk, List.length_cons, List.length_cons]; omega
  ·rw [if_neg hk, List.length_cons, List.length_cons]; omega
theorem RelO.some_of {v : V} {o : Option Value} (r : RelO (some v) o) : ∃ u, o = some u ∧ RelV v u:=by
 cases o with
 | none => exact (show False from r).elim
 | some u => exact ⟨u, rfl, r⟩
theorem RelO.none_of {o : Option Value} (r : RelO none o) : o = none:=by
 cases o with
 | none => rfl
 | some u => exact (show False from r).elim
theorem handed_of {v : V} {u : Value} (r : RelV v u) : PySem.W.handedIn u = true:=by
 cases v with
 | non => cases (show u = Value.none from r); rfl
 | bl b => cases (show u = Value.bool b from r); rfl
 | int i => obtain ⟨t, e⟩:=(show ∃ t, u = Value.int i t from r); cases e; rfl
 | str x => obtain ⟨t, e⟩:=(show ∃ t, u = Value.str x t from r); cases e; rfl
 | byt b => obtain ⟨t, e⟩:=(show ∃ t, u = Value.bytes b t from r); cases e; rfl
 | flt b => obtain ⟨t, e⟩:=(show ∃ t, u = Value.float b t from r); cases e; rfl
 | ref a => cases (show u = Value.ref a from r); rfl
 | ty n => cases (show u = Value.type n from r); rfl
section
variable {P : Program} {w : World} {H H' : Hp} {h h' : Heap} {a C dx : Addr} {fs fs' : List (Str × V)}
theorem ins_get (hok : HOk P w H h) (e : H a = some (.ins C dx fs)) : ∃ mA, ObjM h a dx C mA ∧ (∀ f, RelO (fs.lookup f) (mA f)) ∧ PySem.Within mA (fs.map (·.1)) ∧ fs.length ≤ 1000 ∧ H dx = some (.own a):=by
 obtain ⟨d, z, ne, ob, mA, n, r, q⟩:=(show ObjOk P w H h a (.ins C dx fs) from hok a _ e)
 exact ⟨mA, ⟨ob, n, ne⟩, r, q, z, d⟩
end
structure Cls (K : PySem.W.Frag) (C : Addr) : Prop where
 pg : PySem.W.plainGet K C Str.empty = true
 hd : PySem.W.hasDictIn K C = true
 po : PySem.W.plainOver K C = true
 sa : PySem.W.findIn K (.ref C) "__setattr__" = some (some (.builtin "object.__setattr__"))
theorem Cls.get {K : PySem.W.Frag} {C : Addr} (c : Cls K C) (f : Str) : PySem.W.plainGet K C f = true:=c.pg
noncomputable def NoAttr (K : PySem.W.Frag) (C : Addr) (f : Str) : Prop:=PySem.W.findIn K (.ref C) f = some none
theorem NoAttr.taker {K : PySem.W.Frag} {C : Addr} {f : Str} (n : NoAttr K C f) : PySem.W.takerIn K C f = some none:=by
 unfold PySem.W.takerIn
 rw [show PySem.W.findIn K (.ref C) f = some none from n]
 rfl
structure Con (K : PySem.W.Frag) (C : Addr) (f : Str) (v : V) (u : Value) : Prop where
 at_ : PySem.W.findIn K (.ref C) f = some (some u)
 rel : RelV v u
 get : PySem.W.specialIn K u "__get__" = some none
 cp : PySem.W.copiedNames.contains f = false
structure Meth (K : PySem.W.Frag) (C : Addr) (m : Str) (f : Addr) : Prop where
 at_ : PySem.W.findIn K (.ref C) m = some (some (.ref f))
 fn : PySem.W.isFn K (.ref f) = true
 kp : PySem.W.keepIn K (.ref f) = true
section
variable {X : Cx} {pins : List (Addr × Obj)} {σ : St} {H : Hp} {s : Shared} {a C dx : Addr} {fs : List (Str × V)} {f : Str} {v : V} {A : Around} {E : Value → Shared → Prop}
theorem getattr_ok {b : Bool} {Q : Value → Shared → Prop} (I : Inv X pins σ H s) (e : H a = some (.ins C dx fs)) (c : Cls X.K C) (n : NoAttr X.K C f) (l : fs.lookup f = some v)
  (h : ∀ u s', Inv X pins σ H s' → RelV v u → Q u s') : wpAny (model X.prog X.w) A (getAttr (.ref a) f b) Q E s:=by
 obtain ⟨mA, O, r, _, _, _⟩:=ins_get I.hok e
 obtain ⟨u, hu, ru⟩:=RelO.some_of (v:=v) (o:=mA f) (by rw [← l]; exact r f)
 exact get_map I.kIn O (c.get f) c.hd n hu (handed_of ru) (h u _ (I.tok _) ru)
theorem getmeth_ok {m : Str} {g : Addr} {pl : Sem Bool} {Q : Value × List Value → Shared → Prop} (I : Inv X pins σ H s) (e : H a = some (.ins C dx fs)) (c : Cls X.K C) (k : Meth X.K C m g) (l : fs.lookup m = none)
  (h : Q (.ref g, [.ref a]) s) : wpAny (model X.prog X.w) A (getMethod (.ref a) m pl) Q E s:=by
 obtain ⟨mA, O, r, _, _, _⟩:=ins_get I.hok e
 have hn : mA m = none:=RelO.none_of (by rw [← l]; exact r m)
 exact get_meth I.kIn O (c.get m) k.at_ k.fn hn h
theorem setattr_ok {y : V} {u : Value} {Q : Unit → Shared → Prop} (I : Inv X pins σ H s) (e : H a = some (.ins C dx fs)) (c : Cls X.K C) (n : NoAttr X.K C f) (hl : fs.length < 1000) (ry : RelV y u)
  (h : ∀ s', Inv X pins σ (upd H a (.ins C dx (putF f y fs))) s' → Q () s') : wpAny (model X.prog X.w) A (setAttr (.ref a) f u) Q E s:=by
 obtain ⟨mA, O, r, wi, _, ho⟩:=ins_get I.hok e
 have hz : (fs.map (·.1)).length ≤ sizeLine:=by rw [List.length_map, sizeLine_eq]; omega
 refine set_map I.kIn O c.sa c.po n.taker c.hd wi hz fun h' O' sb => h _ ?_
 have hd : ∃ o, h'.get? dx = some o:=let ⟨o, _, _, e', _⟩:=O'.ns; ⟨o, e'⟩
 refine I.write (x:=a) (e:=dx) (by rw [e]; exact True.intro) (.inr ho) (fun b q hb z => (sb.2 b hb).trans z) hd ?_
 refine ⟨by rw [upd_ne O.ne]; exact ho, ?_, O.ne, O'.obj, _, O'.ns, fun g => ?_, fun g hg => ?_⟩
 ·have:=length_putF f y fs; omega
 ·show RelO ((putF f y fs).lookup g) (if g = f then some u else mA g)
  rw [lookup_putF]
  by_cases q : g = f
  ·rw [if_pos q, if_pos q]; exact ry
  ·rw [if_neg q, if_neg q]; exact r g
 ·by_cases q : g = f
  ·rw [q]; exact (keys_putF f y fs).1
  ·refine (keys_putF f y fs).2 g (wi g fun z => hg ?_)
   show (if g = f then some u else mA g) = none
   rw [if_neg q]; exact z
theorem Inv.made (I : Inv X pins σ H s) : Inv X pins σ (upd (upd H s.heap.objs.size (.own (s.heap.objs.size + 1))) (s.heap.objs.size + 1) (.ins C s.heap.objs.size []))
  { s with heap:=(s.heap.push PySem.W.emptyDict).push (PySem.W.instObj C s.heap.objs.size) }:=by
 have e1 : (s.heap.push PySem.W.emptyDict).get? s.heap.objs.size = some PySem.W.emptyDict:=Heap.get?_push_size s.heap rfl
 have e2 : ((s.heap.push PySem.W.emptyDict).push (PySem.W.instObj C s.heap.objs.size)).get? (s.heap.objs.size + 1) = some (PySem.W.instObj C s.heap.objs.size):=by
  have:=Heap.get?_push_size (s.heap.push PySem.W.emptyDict) (o:=PySem.W.instObj C s.heap.objs.size) rfl
  rwa [Heap.size_push] at this
 have e3 : (s.heap.push PySem.W.emptyDict).Ns s.heap.objs.size (fun _ => none):=⟨PySem.W.emptyDict, #[], _, e1, rfl, (fun e he => absurd he (by simp)), fun _ => rfl⟩
 have I1:=I.laid (a:=s.heap.objs.size) (o:=.own (s.heap.objs.size + 1)) (h':=s.heap.push PySem.W.emptyDict) (t':=s.toks) (fun b u q => Heap.get?_push_of_some _ q) (Nat.le_refl _) ⟨_, e1⟩
 refine I1.laid (a:=s.heap.objs.size + 1) (o:=.ins C s.heap.objs.size []) (t':=s.toks) (fun b u q => Heap.get?_push_of_some _ q) (Nat.le_of_eq (Heap.size_push _ _)) ?_
 have ne : s.heap.objs.size ≠ s.heap.objs.size + 1:=Nat.ne_of_lt (Nat.lt_succ_self _)
 refine ⟨by rw [upd_ne ne, upd_same], Nat.zero_le _, ne, e2, fun _ => none, (Heap.Ns1.of_empty e3).at fun o q => Heap.get?_push_of_some _ q, fun _ => True.intro, fun y hy => absurd rfl hy⟩
theorem attr_of {prog : Program} {w : World} {env : Env} {e : Expr} {f : Str} {pos : Pos} {s : Shared} {Q : Value → Shared → Prop} (hb : attributeBase e f env (eval e env) = eval e env)
  (h : wpAny (model prog w) A (eval e env) (fun o s₁ => wpAny (model prog w) A (getAttr o f true) Q E s₁) E s) : wpAny (model prog w) A (eval (.Attribute e f pos) env) Q E s :=
 Attribute_any_ h (by rw [arm_eval_Attribute, hb])
end
noncomputable def tFld (K : PySem.W.Frag) (ta : TE) (f : Str) : TE:=fun σ H Q => ta σ H fun x H1 => ∃ a C dx fs v, x = .ref a ∧ H1 a = some (.ins C dx fs) ∧ Cls K C ∧ NoAttr K C f ∧ fs.lookup f = some v ∧ Q v H1
noncomputable def sFld (K : PySem.W.Frag) (ta tv : TE) (f : Str) : TS:=fun D σ H => tv σ H fun y H1 => ta σ H1 fun x H2 => ∃ a C dx fs, x = .ref a ∧ H2 a = some (.ins C dx fs) ∧ Cls K C ∧ NoAttr K C f ∧ fs.length < 1000 ∧
 D.nx σ (upd H2 a (.ins C dx (putF f y fs)))
noncomputable def InOp (X : Cx) (op : Operator) (rd : V → V → Hp → VK → Prop) : Prop :=
 ∀ (pins : List (Addr × Obj)) (s : Shared) (σ : St) (H : Hp) (x y : V) (u v : Value) (Q : VK), Inv X pins σ H s → RelV x u → RelV y v → rd x y H Q → wpAny (model X.prog X.w) X.A (inplaceOp op u v) (EP X pins σ Q) X.xe s
noncomputable def sFldAug (K : PySem.W.Frag) (ta tv : TE) (rd : V → V → Hp → VK → Prop) (f : Str) : TS:=fun D σ H => ta σ H fun x H1 => ∃ a C dx fs v, x = .ref a ∧ H1 a = some (.ins C dx fs) ∧ Cls K C ∧ NoAttr K C f ∧ fs.lookup f = some v ∧
 tv σ H1 fun y H2 => rd v y H2 fun z H3 => ∃ dx' fs', H3 a = some (.ins C dx' fs') ∧ fs'.length < 1000 ∧ D.nx σ (upd H3 a (.ins C dx' (putF f z fs')))
section
variable {X : Cx} {o e value : Expr} {f : Str} {pos pos' tpos : Pos} {ta tv : TE}
theorem pe_fld (he : PE X e ta) (hb : attributeBase e f X.env (eval e X.env) = eval e X.env) : PE X (.Attribute e f pos) (tFld X.K ta f):=by
 intro pins s σ H Q I h
 refine attr_of hb (thn (he pins s σ H _ I h) fun u s1 ⟨x, H1, I1, rx, a, C, dx, fs, v, ex, ea, c, n, l, q⟩ => ?_)
 subst ex
 obtain rfl : u = Value.ref a:=rx
 exact getattr_ok I1 ea c n l fun u' s2 I2 ru => ⟨v, H1, I2, ru, q⟩
theorem ps_fld (ha : PE X o ta) (hv : PE X value tv) (hs : swapsWith value (some (.Attribute o f pos')) pos.line X.env = pure false) : PS X (.Assign [.Attribute o f pos'] value pos) (sFld X.K ta tv f):=by
 intro pins s σ H D I h
 refine plainObj_wpAny_Assign_Attribute (thn (hv pins s σ H _ I h) fun u s1 ⟨y, H1, I1, ry, q⟩ => thn (ha pins s1 σ H1 _ I1 q) fun ov s2 ⟨x, H2, I2, rx, a, C, dx, fs, ex, ea, c, n, l, q2⟩ => ?_) hs
 subst ex
 obtain rfl : ov = Value.ref a:=rx
 exact setattr_ok I2 ea c n l ry fun s3 I3 => ⟨σ, _, I3, q2⟩
theorem ps_fldaug {op : Operator} {rd : V → V → Hp → VK → Prop} (ha : PE X o ta) (hv : PE X value tv) (hop : InOp X op rd) : PS X (.AugAssign (.Attribute o f tpos) op value pos) (sFldAug X.K ta tv rd f):=by
 intro pins s σ H D I h
 refine wpAny_AugAssign_AttributeAny (thn (ha pins s σ H _ I h) fun ov s1 ⟨x, H1, I1, rx, a, C, dx, fs, v, ex, ea, c, n, l, q⟩ => ?_)
 subst ex
 obtain rfl : ov = Value.ref a:=rx
 refine getattr_ok I1 ea c n l fun u s2 I2 ru => thn (hv pins s2 σ H1 _ I2 q) fun w3 s3 ⟨y, H2, I3, ry, q3⟩ => thn (hop pins s3 σ H2 v y u w3 _ I3 ru ry q3) fun w4 s4 ⟨z, H3, I4, rz, dx', fs', ea', l', q4⟩ => ?_
 exact setattr_ok I4 ea' c n l' rz fun s5 I5 => ⟨σ, _, I5, q4⟩
noncomputable def rAdd : V → V → Hp → VK → Prop:=fun x y H Q => ∃ i j, x = .int i ∧ y = .int j ∧ Q (.int (i + j)) H
theorem in_add : InOp X .Add rAdd:=by
 rintro pins s σ H x y u v Q I rx ry ⟨i, j, rfl, rfl, q⟩
 obtain ⟨t, rfl⟩:=(show ∃ t, u = Value.int i t from rx)
 obtain ⟨t', rfl⟩:=(show ∃ t', v = Value.int j t' from ry)
 exact PyProof.Rows.iadd_int ⟨.int (i + j), H, I.tok _, ⟨_, rfl⟩, q⟩
end
section
variable {X : Cx} {pins : List (Addr × Obj)} {σ : St} {H : Hp} {s : Shared} {A : Around} {E : Value → Shared → Prop} {Q : Value → Shared → Prop} {c : Value} {b : Bool}
inductive TyOf (K : PySem.W.Frag) (H : Hp) : V → Value → Prop where
 | non : TyOf K H .non (.type "NoneType")
 | bl (x : Bool) : TyOf K H (.bl x) (.type "bool")
 | int (i : Int) : TyOf K H (.int i) (.type "int")
 | str (x : Str) : TyOf K H (.str x) (.type "str")
 | flt (x : UInt64) : TyOf K H (.flt x) (.type "float")
 | lst {a : Addr} {xs : List V} (e : H a = some (.lst xs)) : TyOf K H (.ref a) (.type "list")
 | frz {a : Addr} {o : Obj} {xs : List V} (e : H a = some (.frz o (.lst xs))) : TyOf K H (.ref a) (.type "list")
 | tup {a : Addr} {xs : List V} (e : H a = some (.tup xs)) : TyOf K H (.ref a) (.type "tuple")
 | dK {a : Addr} {kvs : List (Key × V)} (e : H a = some (.dK kvs)) : TyOf K H (.ref a) (.type "dict")
 | dT {a : Addr} {kvs : List (List Key × V)} (e : H a = some (.dT kvs)) : TyOf K H (.ref a) (.type "dict")
 | ins {a C dx : Addr} {fs : List (Str × V)} (e : H a = some (.ins C dx fs)) (cl : Cls K C) (ha : PySem.W.findIn K (.ref C) "__class__" = some (some (.builtin "object.__class__")))
   (hn : PySem.W.specialIn K (.builtin "object.__class__") "__get__" = some (some (.builtin "getset_descriptor.__get__"))) (htk : PySem.W.takesIn K (.builtin "object.__class__") = some true)
   (hm : PySem.W.mroIn K C (.type "object") = some true) : TyOf K H (.ref a) (.ref C)
theorem isinst_ok {x : V} {u t : Value} (I : Inv X pins σ H s) (rx : RelV x u) (ty : TyOf X.K H x t) (e : PySem.W.kitOne X.K t c = some b) (h : ∀ tk, Q (.bool b) { s with toks:=tk }) :
  wpAny (model X.prog X.w) A (call (.builtin "isinstance") [u, c]) Q E s := by
 cases ty with
 | non => cases (show u = Value.none from rx); exact PySem.W.kia_one PySem.W.kitx_none I.kIn True.intro e (fun z => nomatch z) h
 | bl y => cases (show u = Value.bool y from rx); exact PySem.W.kia_one PySem.W.kitx_bool I.kIn True.intro e (fun z => nomatch z) h
 | int i => obtain ⟨t, q⟩:=(show ∃ t, u = Value.int i t from rx); cases q; exact PySem.W.kia_one PySem.W.kitx_int I.kIn True.intro e (fun z => nomatch z) h
 | str y => obtain ⟨t, q⟩:=(show ∃ t, u = Value.str y t from rx); cases q; exact PySem.W.kia_one PySem.W.kitx_str I.kIn True.intro e (fun z => nomatch z) h
 | flt y => obtain ⟨t, q⟩:=(show ∃ t, u = Value.float y t from rx); cases q; exact PySem.W.kia_one PySem.W.kitx_float I.kIn True.intro e (fun z => nomatch z) h
 | @lst a xs ea =>
  cases (show u = Value.ref a from rx)
  obtain ⟨_, _, n, _, h1⟩:=(show ObjOk X.prog X.w H s.heap a (.lst xs) from I.hok a _ ea)
  exact PySem.W.kia_one PySem.W.kitx_list I.kIn ⟨_, h1, rfl⟩ e (fun z => nomatch z) h
 | @frz a ob xs ea =>
  cases (show u = Value.ref a from rx)
  obtain ⟨_, _, _, n, _, h1⟩:=(show ObjOk X.prog X.w H s.heap a (.frz ob (.lst xs)) from I.hok a _ ea)
  exact PySem.W.kia_one PySem.W.kitx_list I.kIn ⟨_, h1, rfl⟩ e (fun z => nomatch z) h
 | @tup a xs ea =>
  cases (show u = Value.ref a from rx)
  obtain ⟨_, _, _, p⟩:=(show ObjOk X.prog X.w H s.heap a (.tup xs) from I.hok a _ ea)
  obtain ⟨o, h1, h2, _⟩:=p
  exact PySem.W.kia_one PySem.W.kitx_tuple I.kIn ⟨o, h1, h2⟩ e (fun z => nomatch z) h
 | @dK a kvs ea =>
  cases (show u = Value.ref a from rx)
  obtain ⟨_, _, vs, _, p⟩:=(show ObjOk X.prog X.w H s.heap a (.dK kvs) from I.hok a _ ea)
  obtain ⟨o, es, ep, h1, h2, _⟩:=p
  exact PySem.W.kia_one PySem.W.kitx_dict I.kIn ⟨o, h1, h2.1⟩ e (fun z => nomatch z) h
 | @dT a kvs ea =>
  cases (show u = Value.ref a from rx)
  obtain ⟨_, _, xs, _, o, es, ep, h1, h2, _⟩:=(show ObjOk X.prog X.w H s.heap a (.dT kvs) from I.hok a _ ea)
  exact PySem.W.kia_one PySem.W.kitx_dict I.kIn ⟨o, h1, h2.1⟩ e (fun z => nomatch z) h
 | @ins a C dx fs ea cl ha hn htk hm =>
  cases (show u = Value.ref a from rx)
  obtain ⟨mA, O, _⟩:=ins_get I.hok ea
  obtain ⟨od, J, _⟩:=O.look
  exact PySem.W.kia_one (PySem.W.kitx_own (cl.get _) cl.hd ha hn htk hm) I.kIn J e (fun z => nomatch z) h
end
end L2
namespace L2
open PySem PySem.Spec PyProof.Rows
structure Room (k : Nat) (A : Around) : Prop where
 hd : A.handled = none
 dp : A.depth + 3 * k + 5 < recursionLimit
 un : A.units + 16 * k + 200 < cLine
theorem Room.mono {j k : Nat} {A : Around} (r : Room k A) (h : j ≤ k) : Room j A:=⟨r.hd, by have:=r.dp; omega, by have:=r.un; omega⟩
theorem Room.deeper {k : Nat} {A : Around} (r : Room (k + 1) A) (env : Env) : Room k (A.deeper env) :=
 ⟨r.hd, by have:=r.dp; show A.depth + 1 + 3 * k + 5 < _; omega, by have:=r.un; show A.units + 3 + 16 * k + 200 < _; omega⟩
theorem make_depth {A : Around} {C : Addr} {us : List Value} {kw : List (Str × Value)} : (A.under (.builtin "type.__call__" ⟨.ref C :: us, kw⟩)).depth = A.depth + 1 := by
 first | rfl | simp [Around.under, Code.weight, Code.isCreation, Code.isGuard, Code.isCaller, Code.frames, Code.isFrame, guardIds]
theorem make_units {A : Around} {C : Addr} {us : List Value} {kw : List (Str × Value)} : (A.under (.builtin "type.__call__" ⟨.ref C :: us, kw⟩)).units = A.units + 1 := by
 first | rfl | simp [Around.under, Code.cUnits, Code.frames, Code.isFrame]
theorem Room.make {k : Nat} {A : Around} (r : Room (k + 1) A) (C : Addr) (us : List Value) (kw : List (Str × Value)) : Room k (A.under (.builtin "type.__call__" ⟨.ref C :: us, kw⟩)) :=
 ⟨r.hd, by have:=r.dp; rw [make_depth]; omega, by have:=r.un; rw [make_units]; omega⟩
theorem Room.depth {k : Nat} {A : Around} (r : Room k A) : A.depth < recursionLimit:=by have:=r.dp; omega
theorem Room.units {k : Nat} {A : Around} (r : Room k A) : A.units + 64 < cLine:=by have:=r.un; omega
noncomputable def tNil : TA:=fun _ H Q => Q [] H
noncomputable def tCons (ta : TE) (tr : TA) : TA:=fun σ H Q => ta σ H fun x H1 => tr σ H1 fun xs H2 => Q (x :: xs) H2
section
variable {X : Cx} {e : Expr} {es : List Expr} {te : TE} {t : TA} {pos : Pos}
theorem pa_nil : PA X [] tNil:=fun _ _ _ _ H Q I h => Calls.spliced_nil ⟨[], H, I, .nil, h⟩
theorem pa_cons (ha : PE X e te) (hr : PA X es t) (hs : starEach (e :: es) X.env = (false, eval e X.env) :: starEach es X.env:=by rfl) : PA X (e :: es) (tCons te t):=by
 intro pos pins s σ H Q I h
 rw [hs]
 show wpAny _ _ (spliced ((false, eval e X.env) :: backTo pos (starEach es X.env))) _ _ s
 refine Calls.spliced_cons (thn (ha pins s σ H _ I h) fun u s1 ⟨x, H1, I1, r1, q1⟩ => ?_)
 exact thn (hr pos pins s1 σ H1 _ I1 q1) fun us s2 ⟨xs, H2, I2, r2, q2⟩ => ⟨x :: xs, H2, I2, .cons r1 r2, q2⟩
noncomputable def tTup (t : TA) : TE:=fun σ H Q => t σ H fun xs H1 => xs.length ≤ sizeLine ∧ ∀ p, H1 p = none → Q (.ref p) (upd H1 p (.tup xs))
noncomputable def tLst (t : TA) : TE:=fun σ H Q => t σ H fun xs H1 => xs.length ≤ sizeLine ∧ ∀ p, H1 p = none → Q (.ref p) (upd H1 p (.lst xs))
theorem pe_tup {x1} (h : PA X es t) : PE X (.Tuple es x1 pos) (tTup t):=by
 intro pins s σ H Q I hq
 refine wpAny_Tuple_spliced (thn (h pos pins s σ H _ I hq) fun us s1 ⟨xs, H1, I1, r, z, q⟩ => ⟨by rw [← r.length]; exact z, ?_⟩)
 have hf : H1 s1.heap.objs.size = none:=I1.hok.fresh (Nat.le_refl _)
 refine ⟨.ref s1.heap.objs.size, upd H1 s1.heap.objs.size (.tup xs), I1.laid (t':=s1.toks) (fun b u e => Heap.get?_push_of_some _ e) (Nat.le_refl _) ?_, rfl, q _ hf⟩
 exact ⟨z, us, r, ⟨_, Heap.get?_push_size _ rfl, rfl, _, rfl⟩⟩
theorem pe_lst (h : PA X es t) : PE X (.List es pos) (tLst t):=by
 intro pins s σ H Q I hq
 refine wpAny_List_spliced (thn (h pos pins s σ H _ I hq) fun us s1 ⟨xs, H1, I1, r, z, q⟩ => ⟨by rw [← r.length]; exact z, ?_⟩)
 have hf : H1 s1.heap.objs.size = none:=I1.hok.fresh (Nat.le_refl _)
 refine ⟨.ref s1.heap.objs.size, upd H1 s1.heap.objs.size (.lst xs), I1.laid (t':=s1.toks) (fun b u e => Heap.get?_push_of_some _ e) (Nat.le_refl _) ?_, rfl, q _ hf⟩
 exact ⟨z, us, 0, r, Heap.get?_push_size _ rfl⟩
end
noncomputable abbrev Sp:=List V → Hp → VK → XK → Prop
noncomputable abbrev CXT:=List Env → Hp → Shared → XK → Value → Shared → Prop
structure Env0 (P : Program) (w : World) (K : PySem.W.Frag) (mg : Str → Option Value) (base : Heap) (A : Around) (outer : List Env) (s : Shared) (H : Hp) : Prop where
 frames : A.frames = some outer
 mod : Mod K mg base
 bs : ∀ b o, base.get? b = some o → s.heap.get? b = some o ∧ H b = none
 bsz : base.objs.size ≤ s.heap.objs.size
 funs : s.heap.FunFrames base outer
 frf : ∀ b ∈ frs outer, H b = none
 hok : HOk P w H s.heap
 bare : AllBare s.gens
noncomputable def CE (outer : List Env) (P : Program) (w : World) (H : Hp) (s : Shared) (Q : VK) (u : Value) (s' : Shared) : Prop :=
 ∃ v H', s'.os = s.os ∧ AllBare s'.gens ∧ Un (frs outer) [] H H' s.heap s'.heap ∧ HOk P w H' s'.heap ∧ RelV v u ∧ Q v H'
noncomputable def CR (CX : CXT) (outer : List Env) (P : Program) (w : World) (H : Hp) (s : Shared) (Q : VK) (E : XK) (r : Result) (s' : Shared) : Prop :=
 match r with
 | .ok (.ret u) => CE outer P w H s Q u s'
 | .ok _ => False
 | .error e => CX outer H s E e s'
structure FnOk (P : Program) (w : World) (K : PySem.W.Frag) (mg : Str → Option Value) (base : Heap) (CX : CXT) (k : Nat) (f : Addr) (fd : FuncData) (ps : List Str) (sp : Sp) : Prop where
 len : ∀ vs H Q E, sp vs H Q E → vs.length = ps.length
 run : ∀ (A : Around) (outer : List Env) (s : Shared) (H : Hp) (args : Args) (us : List Value) (vs : List V) (Q : VK) (E : XK), Room k A → Env0 P w K mg base A outer s H → BindsTo s fd args (ps.zip us) → Vals vs us → sp vs H Q E →
  codeAny (model P w) A (.call (.ref f) args) (CR CX outer P w H s Q E) s
theorem Env0.make {P : Program} {w : World} {K : PySem.W.Frag} {mg : Str → Option Value} {base : Heap} {A : Around} {outer : List Env} {s : Shared} {H : Hp} (e : Env0 P w K mg base A outer s H) (C : Addr) (us : List Value) (kw : List (Str × Value)) :
  Env0 P w K mg base (A.under (.builtin "type.__call__" ⟨.ref C :: us, kw⟩)) outer s H := ⟨by first | exact e.frames | (simpa [Around.under, Code.envs, Code.isFrame, pushEnvs] using e.frames), e.mod, e.bs, e.bsz, e.funs, e.frf, e.hok, e.bare⟩
section
variable {X : Cx} {pins : List (Addr × Obj)} {σ : St} {H : Hp} {s s' : Shared}
theorem Inv.env0 (I : Inv X pins σ H s) : Env0 X.prog X.w X.K X.mg X.base X.A X.stack s H :=
 ⟨I.ok.frames, I.ok.mod, I.bs, Nat.le_trans I.ok.bsz I.sz, I.stack, I.stkFree, I.hok, I.bare⟩
theorem Inv.after {Q : VK} {u : Value} (I : Inv X pins σ H s) (h : CE X.stack X.prog X.w H s Q u s') : EP X pins σ Q u s':=by
 obtain ⟨v, H', os, bare, un, hok, r, q⟩:=h
 obtain ⟨hh, g, d, t, os'⟩:=s'
 obtain rfl : os' = s.os:=os
 exact ⟨v, H', I.call (h':=hh) (g':=g) (d':=d) (t':=t) (ch:=[]) un hok bare (fun b z => absurd z (by simp)), r, q⟩
end
noncomputable def tCall (sp : Sp) (dvs : List V) (E : XK) (t : TA) : TE:=fun σ H Q => t σ H fun vs H1 => sp (vs ++ dvs) H1 Q E
noncomputable def tMeth (C : Addr) (m : Str) (sp : Sp) (dvs : List V) (E : XK) (ta : TE) (t : TA) : TE:=fun σ H Q => ta σ H fun x H1 => ∃ a dx fs, x = .ref a ∧ H1 a = some (.ins C dx fs) ∧ fs.lookup m = none ∧
 t σ H1 fun vs H2 => sp (x :: (vs ++ dvs)) H2 Q E
noncomputable def tMake (C : Addr) (sp : Sp) (dvs : List V) (E : XK) (t : TA) : TE:=fun σ H Q => t σ H fun vs H1 => ∀ x dx, H1 x = none → H1 dx = none → dx ≠ x →
 sp (.ref x :: (vs ++ dvs)) (upd (upd H1 dx (.own x)) x (.ins C dx [])) (fun v H2 => v = .non ∧ Q (.ref x) H2) E
noncomputable def Binds (K : PySem.W.Frag) (fd : FuncData) (ps : List Str) (ds : List Value) : Prop :=
 ∀ (s : Shared) (us : List Value), K.In s.heap → (us ++ ds).length = ps.length → BindsTo s fd ⟨us, []⟩ (ps.zip (us ++ ds))
theorem Binds.all {K : PySem.W.Frag} {fd : FuncData} {ps : List Str} (h : ∀ us : List Value, us.length = ps.length → bindArgs fd ⟨us, []⟩ = pure (ps.zip us)) : Binds K fd ps []:=fun s us _ hl => by
 rw [List.append_nil] at hl ⊢
 exact .of_eq (h us hl)
noncomputable def Passes (CX : CXT) (X : Cx) (E : XK) : Prop:=∀ (pins : List (Addr × Obj)) (σ : St) (H : Hp) (s : Shared) (e : Value) (s' : Shared), Inv X pins σ H s → CX X.stack H s E e s' → X.xe e s'
section
variable {X : Cx} {CX : CXT} {k : Nat} {f C : Addr} {fd : FuncData} {ps : List Str} {sp : Sp} {dvs : List V} {ds : List Value} {E : XK} {x m : Str} {p pos apos : Pos} {e o : Expr} {es : List Expr} {ta : TE} {t : TA}
theorem run_fn {pins : List (Addr × Obj)} {σ : St} {H : Hp} {s : Shared} {Q : VK} {us : List Value} {vs : List V} (F : FnOk X.prog X.w X.K X.mg X.base CX k f fd ps sp) (hr : Room k X.A) (hb : Binds X.K fd ps ds) (hd : Vals dvs ds) (hx : Passes CX X E)
  (I : Inv X pins σ H s) (r : Vals vs us) (h : sp (vs ++ dvs) H Q E) : wpAny (model X.prog X.w) X.A (call (.ref f) us) (EP X pins σ Q) X.xe s:=by
 have r2 : Vals (vs ++ dvs) (us ++ ds):=r.append hd
 have hl : (us ++ ds).length = ps.length:=by rw [← r2.length]; exact F.len _ _ _ _ h
 refine wpAny_call (codeAny_mono (F.run X.A X.stack s H ⟨us, []⟩ (us ++ ds) (vs ++ dvs) Q E hr I.env0 (hb s us I.kIn hl) r2 h) fun r s' hq => ?_)
 cases r with
 | error e => exact hx pins σ H s e s' I hq
 | ok fl =>
  cases fl with
  | ret u => exact I.after hq
  | next => exact False.elim hq
  | brk => exact False.elim hq
  | cont => exact False.elim hq
theorem pe_call (F : FnOk X.prog X.w X.K X.mg X.base CX k f fd ps sp) (hr : Room k X.A) (hg : Gl X x) (hm : X.mg x = some (.ref f)) (hk : PySem.W.keepIn X.K (.ref f) = true) (hb : Binds X.K fd ps ds) (hd : Vals dvs ds) (hx : Passes CX X E)
  (ha : PA X (e :: es) t) (hdb : (x == ("__debug__" : Str)) = false := by decide) (he : starEach (e :: es) X.env = (false, eval e X.env) :: starEach es X.env := by rfl) (hpl : (backTo pos (starEach es X.env)).any (·.1) = false := by rfl) :
  PE X (.Call (.Name x p) (e :: es) [] pos) (tCall sp dvs E t):=by
 intro pins s σ H Q I h
 refine wpAny_Call_Name_kw (ld_glob I hg hm ?_ hdb)
 refine PySem.W.callWith_K (h₀:=X.base) I.ok.mod.kin hk (thn (ha pos pins s σ H _ I h) fun us s1 ⟨vs, H1, I1, r, q⟩ => ⟨I1.kIn, ?_⟩) he hpl
 exact run_fn F hr hb hd hx I1 r q
theorem pe_meth {pl : Sem Bool} (he : PE X o ta) (c : Cls X.K C) (hm : Meth X.K C m f) (F : FnOk X.prog X.w X.K X.mg X.base CX k f fd ps sp) (hr : Room k X.A) (hb : Binds X.K fd ps ds) (hd : Vals dvs ds) (hx : Passes CX X E) (ha : PA X (e :: es) t)
  (hst : starEach (e :: es) X.env = (false, eval e X.env) :: starEach es X.env:=by rfl) (hpl : (backTo pos (starEach es X.env)).any (·.1) = false:=by rfl)
  (ht : eval (.Call (.Attribute o m apos) (e :: es) [] pos) X.env = (do
   let ov ← eval o X.env
   standAt apos.atName
   let (f, first) ← holding [ov] (getMethod ov m pl)
   callWith pos f first (backTo pos (starEach (e :: es) X.env)) (backToKw pos (keywordEach [] X.env))):=by rfl) :
  PE X (.Call (.Attribute o m apos) (e :: es) [] pos) (tMeth C m sp dvs E ta t):=by
 intro pins s σ H Q I h
 refine PySem.W.methodCall_KW (pl:=pl) (thn (he pins s σ H _ I h) fun u s1 ⟨x, H1, I1, rx, a, dx, fs, ex, ea, l, q⟩ => ?_) ht
 subst ex
 obtain rfl : u = Value.ref a:=rx
 refine getmeth_ok I1 ea c hm l ?_
 refine PySem.W.callWith_K (first:=[.ref a]) (h₀:=X.base) I.ok.mod.kin hm.kp (thn (ha pos pins s1 σ H1 _ I1 q) fun us s2 ⟨vs, H2, I2, r, q2⟩ => ⟨I2.kIn, ?_⟩) hst hpl
 exact run_fn (us:=.ref a :: us) (vs:=.ref a :: vs) F hr hb hd hx I2 (.cons rfl r) q2
theorem pe_meth0 {pl : Sem Bool} (he : PE X o ta) (c : Cls X.K C) (hm : Meth X.K C m f) (F : FnOk X.prog X.w X.K X.mg X.base CX k f fd ps sp) (hr : Room k X.A) (hb : Binds X.K fd ps ds) (hd : Vals dvs ds) (hx : Passes CX X E)
  (ht : eval (.Call (.Attribute o m apos) [] [] pos) X.env = (do
   let ov ← eval o X.env
   standAt apos.atName
   let (f, first) ← holding [ov] (getMethod ov m pl)
   callWith pos f first (backTo pos (starEach [] X.env)) (backToKw pos (keywordEach [] X.env))):=by rfl) :
  PE X (.Call (.Attribute o m apos) [] [] pos) (tMeth C m sp dvs E ta tNil):=by
 intro pins s σ H Q I h
 refine PySem.W.methodCall_KW (pl:=pl) (thn (he pins s σ H _ I h) fun u s1 ⟨x, H1, I1, rx, a, dx, fs, ex, ea, l, q⟩ => ?_) ht
 subst ex
 obtain rfl : u = Value.ref a:=rx
 refine getmeth_ok I1 ea c hm l ?_
 exact PySem.W.callWith_K0 (first:=[.ref a]) I1.kIn hm.kp (run_fn (us:=[.ref a]) (vs:=[.ref a]) F hr hb hd hx I1 (.cons rfl .nil) q)
structure Mk (K : PySem.W.Frag) (C f : Addr) : Prop where
 makes : PySem.W.makesIn K C = true
 init : PySem.W.findIn K (.ref C) "__init__" = some (some (.ref f))
 fn : PySem.W.isFn K (.ref f) = true
 kp : PySem.W.keepIn K (.ref C) = true
theorem run_make {pins : List (Addr × Obj)} {σ : St} {H : Hp} {s : Shared} {Q : VK} {us : List Value} {vs : List V} (M : Mk X.K C f) (F : FnOk X.prog X.w X.K X.mg X.base CX k f fd ps sp) (hr : Room (k + 1) X.A) (hb : Binds X.K fd ps ds) (hd : Vals dvs ds)
  (hx : Passes CX X E) (I : Inv X pins σ H s) (r : Vals vs us)
  (h : ∀ x dx, H x = none → H dx = none → dx ≠ x → sp (.ref x :: (vs ++ dvs)) (upd (upd H dx (.own x)) x (.ins C dx [])) (fun v H2 => v = .non ∧ Q (.ref x) H2) E) :
  wpAny (model X.prog X.w) X.A (call (.ref C) us) (EP X pins σ Q) X.xe s:=by
 have hq:=h (s.heap.objs.size + 1) s.heap.objs.size (I.hok.fresh (Nat.le_succ _)) (I.hok.fresh (Nat.le_refl _)) (Nat.ne_of_lt (Nat.lt_succ_self _))
 have I2:=Inv.made (C:=C) I
 have r2 : Vals (V.ref (s.heap.objs.size + 1) :: (vs ++ dvs)) (Value.ref (s.heap.objs.size + 1) :: (us ++ ds)):=.cons rfl (r.append hd)
 have hl : (Value.ref (s.heap.objs.size + 1) :: us ++ ds).length = ps.length:=by
  have e:=r2.length
  rw [F.len _ _ _ _ hq] at e
  exact e.symm
 refine wpAny_call (make_map (f:=f) I.kIn M.makes M.init (beq_iff_eq.mp M.fn) (codeAny_mono (F.run _ X.stack _ _ ⟨Value.ref (s.heap.objs.size + 1) :: us, []⟩ (Value.ref (s.heap.objs.size + 1) :: (us ++ ds)) _ _ E (hr.make C us [])
  (I2.env0.make C us []) (hb _ (Value.ref (s.heap.objs.size + 1) :: us) I2.kIn hl) r2 hq) fun r s' hq' => ?_))
 cases r with
 | error e => exact hx pins σ _ _ e s' I2 hq'
 | ok fl =>
  cases fl with
  | ret u =>
   obtain ⟨v, H', I3, rv, ev, q3⟩:=I2.after hq'
   subst ev
   exact ⟨rv, ⟨V.ref (s.heap.objs.size + 1), H', I3, rfl, q3⟩⟩
  | next => exact False.elim hq'
  | brk => exact False.elim hq'
  | cont => exact False.elim hq'
theorem pe_make0 (M : Mk X.K C f) (F : FnOk X.prog X.w X.K X.mg X.base CX k f fd ps sp) (hr : Room (k + 1) X.A) (hg : Gl X x) (hm : X.mg x = some (.ref C)) (hb : Binds X.K fd ps ds) (hd : Vals dvs ds) (hx : Passes CX X E)
  (hdb : (x == ("__debug__" : Str)) = false := by decide) : PE X (.Call (.Name x p) [] [] pos) (tMake C sp dvs E tNil) := by
 intro pins s σ H Q I h
 refine wpAny_Call_Name_kw (ld_glob I hg hm ?_ hdb)
 exact PySem.W.callWith_K0 I.kIn M.kp (run_make (us:=[]) M F hr hb hd hx I .nil h)
end
section
variable {X : Cx} {CX : CXT} {k : Nat} {f C : Addr} {fd : FuncData} {ps ks : List Str} {sp : Sp} {E : XK} {x m : Str} {p pos apos kpos : Pos} {e o : Expr} {es : List Expr} {kws : List Keyword} {te ta : TE} {t tk : TA} {nm : Option Str}
structure KBinds (K : PySem.W.Frag) (fd : FuncData) (ps ks : List Str) (g : List Value → List Value → List Value) (gV : List V → List V → List V) : Prop where
 to : ∀ (s : Shared) (us ws : List Value), K.In s.heap → (g us ws).length = ps.length → BindsTo s fd ⟨us, ks.zip ws⟩ (ps.zip (g us ws))
 rel : ∀ {vs : List V} {us : List Value} {zs : List V} {ws : List Value}, Vals vs us → Vals zs ws → Vals (gV vs zs) (g us ws)
variable {g : List Value → List Value → List Value} {gV : List V → List V → List V}
end
structure FnScope (N P : List Str) (sc : Scope) : Prop where
 kind : sc.kind = .function
 co : sc.isCoroutine = false
 gen : sc.isGenerator = false
 nd : N.Nodup
 pre : N.take P.length = P
 par : ∀ x ∈ P, sc.names.lookup x = some .local ∨ sc.names.lookup x = some .cell
 nofree : ∀ y ∈ sc.names, y.2 ≠ .free
theorem bindL_out {kindOf : Str → Option NameKind} {x : Str} : ∀ {binds : List (Str × Value)} {m : Str → Option Value}, (∀ v, (x, v) ∉ binds) → bindL kindOf binds m x = m x
 | [], _, _ => rfl
 | (n, v) :: r, m, h => by
  unfold bindL
  rw [bindL_out fun w hw => h w (List.mem_cons_of_mem _ hw)]
  split
  ·have : x ≠ n:=by rintro rfl; exact h v List.mem_cons_self
   simp [this]
  ·rfl
theorem bindC_out {kindOf : Str → Option NameKind} {x : Str} : ∀ {binds : List (Str × Value)} {m : Str → Option Value}, (∀ v, (x, v) ∉ binds) → bindC kindOf binds m x = m x
 | [], _, _ => rfl
 | (n, v) :: r, m, h => by
  unfold bindC
  rw [bindC_out fun w hw => h w (List.mem_cons_of_mem _ hw)]
  split
  ·rfl
  ·have : x ≠ n:=by rintro rfl; exact h v List.mem_cons_self
   simp [this]
theorem bindL_get {kindOf : Str → Option NameKind} {x : Str} {v : Value} : ∀ {P : List Str} {vs : List Value} {i : Nat} {m : Str → Option Value}, P.Nodup → P[i]? = some x → vs[i]? = some v → kindOf x = some .local →
  bindL kindOf (P.zip vs) m x = some v
 | [], _, _, _, _, h, _, _ => by simp at h
 | _ :: _, [], _, _, _, _, h, _ => by simp at h
 | p :: P, w :: vs, 0, m, nd, h1, h2, hk => by
  simp at h1 h2; subst h1; subst h2
  show bindL kindOf ((p, w) :: P.zip vs) m p = _
  unfold bindL
  rw [bindL_out fun v hv => (List.nodup_cons.mp nd).1 (List.of_mem_zip hv).1, if_pos hk]
  simp
 | p :: P, w :: vs, i + 1, m, nd, h1, h2, hk => by
  show bindL kindOf ((p, w) :: P.zip vs) m x = _
  unfold bindL
  exact bindL_get (i:=i) (List.nodup_cons.mp nd).2 (by simpa using h1) (by simpa using h2) hk
theorem bindC_get {kindOf : Str → Option NameKind} {x : Str} {v : Value} : ∀ {P : List Str} {vs : List Value} {i : Nat} {m : Str → Option Value}, P.Nodup → P[i]? = some x → vs[i]? = some v → kindOf x ≠ some .local →
  bindC kindOf (P.zip vs) m x = some v
 | [], _, _, _, _, h, _, _ => by simp at h
 | _ :: _, [], _, _, _, _, h, _ => by simp at h
 | p :: P, w :: vs, 0, m, nd, h1, h2, hk => by
  simp at h1 h2; subst h1; subst h2
  show bindC kindOf ((p, w) :: P.zip vs) m p = _
  unfold bindC
  rw [bindC_out fun v hv => (List.nodup_cons.mp nd).1 (List.of_mem_zip hv).1, if_neg hk]
  simp
 | p :: P, w :: vs, i + 1, m, nd, h1, h2, hk => by
  show bindC kindOf ((p, w) :: P.zip vs) m x = _
  unfold bindC
  exact bindC_get (i:=i) (List.nodup_cons.mp nd).2 (by simpa using h1) (by simpa using h2) hk
noncomputable def start (N : List Str) (vs : List V) : St:=vs.map some ++ List.replicate (N.length - vs.length) none
noncomputable def cxOf (CX : CXT) (P : Program) (w : World) (K : PySem.W.Frag) (mg : Str → Option Value) (base : Heap) (N : List Str) (qual : Str) (scope : Scope) (f : Addr) (cd : Value) (A : Around) (outer : List Env) (s : Shared) (H : Hp) (E : XK) : Cx where
 prog:=P
 w:=w
 K:=K
 mg:=mg
 base:=base
 A:=A.deeper (envOfC qual scope s.heap.objs.size f cd)
 N:=N
 s₀:=s
 H₀:=H
 env:=envOfC qual scope s.heap.objs.size f cd
 outer:=outer
 stack:=envOfC qual scope s.heap.objs.size f cd :: outer
 ex:=[]
 calm:=true
 fn:=fun _ => true
 pn:=[]
 xe:=fun e s' => wpAny (model P w) (A.deeper (envOfC qual scope s.heap.objs.size f cd)) (leaving (envOfC qual scope s.heap.objs.size f cd) e) (fun _ s'' => CX outer H s E e s'') (fun e' s'' => CX outer H s E e' s'') s'
theorem cell_has {sc : Scope} {n : Nat} {x : Str} (h : sc.names.lookup x = some .cell) : ∃ c, (cellsFrom n sc.names []).lookup x = some c:=by
 have q:=PySem.W.cellsFrom_some sc.names n [] (.inl h)
 exact Option.isSome_iff_exists.mp q
theorem inv_start {CX : CXT} {P : Program} {w : World} {K : PySem.W.Frag} {mg : Str → Option Value} {base : Heap} {N ps : List Str} {qual : Str} {scope : Scope} {f : Addr} {cd : Value} {A : Around} {outer : List Env} {s s1 : Shared} {H : Hp} {E : XK} {us : List Value} {vs : List V}
  (S : FnScope N ps scope) (hd : A.handled = none) (e0 : Env0 P w K mg base A outer s H) (hl : vs.length = ps.length) (r : Vals vs us)
  (x : InCallC s s.heap.objs.size (bindL (envOfC qual scope s.heap.objs.size f cd).kindOf (ps.zip us) fun _ => none) (cellsFrom (s.heap.objs.size + 1) scope.names []) (bindC (envOfC qual scope s.heap.objs.size f cd).kindOf (ps.zip us) fun _ => none) s1) :
  Inv (cxOf CX P w K mg base N qual scope f cd A outer s H E) [] (start N vs) H s1:=by
 have hpl : ps.length ≤ N.length:=by have:=congrArg List.length S.pre; rw [List.length_take] at this; omega
 obtain ⟨h1, tk, rfl, hk⟩:=x.done
 have noA : ∀ b : Addr, b ∉ (cxOf CX P w K mg base N qual scope f cd A outer s H E).ex:=fun b z => absurd (show b ∈ ([] : List Addr) from z) (by simp)
 refine ⟨⟨e0.mod, S.kind, rfl, rfl, Nat.le_refl _, fun y z c h1 h2 => ?_, fun y hy => ?_, fun y c _ h => ?_, fun _ => hd, Around.frames_deeper e0.frames, .inr ⟨rfl, rfl⟩, fun b z => absurd z (noA b), e0.bs, e0.bsz, fun b _ _ => noA b, fun b z => absurd z (noA b), e0.funs, e0.frf⟩,
  rfl, e0.bare, Un.kept hk, ⟨_, x.toInCall.ns, fun i y v h1 h2 h3 => ?_⟩, fun y c h => ⟨_, x.cell y c h⟩, e0.hok.fresh (Nat.le_refl _), fun y c h => ?_, fun p hp => absurd (show p ∈ ([] : List (Addr × Obj)) from hp) (by simp), e0.hok.kept hk, ?_⟩
 ·exact name_of_addr x.apart (PySem.mem_of_lookup h1) (PySem.mem_of_lookup h2)
 ·have hy : scope.names.lookup y = some .cell ∨ scope.names.lookup y = some .free:=hy
  rcases hy with hy | hy
  ·exact cell_has hy
  ·exact absurd rfl (S.nofree _ (PySem.mem_of_lookup hy))
 ·exact Nat.le_of_lt (x.above y c (PySem.mem_of_lookup h))
 ·have hi : i < vs.length:=by
   unfold start at h2
   by_cases hi : i < vs.length
   ·exact hi
   ·rw [List.getElem?_append_right (by simpa using hi)] at h2
    rw [List.getElem?_replicate] at h2
    split at h2 <;> cases h2
  have ha : vs[i]? = some v:=by
   unfold start at h2
   rw [List.getElem?_append_left (by simpa using hi), List.getElem?_map] at h2
   cases e : vs[i]? with
   | none => rw [e] at h2; cases h2
   | some a => rw [e] at h2; cases h2; rfl
  obtain ⟨u, hu, rv⟩:=r.get ha
  have hp : ps[i]? = some y:=by
   rw [← S.pre, List.getElem?_take_of_lt (by omega)]; exact h1
  have ndP : ps.Nodup:=by rw [← S.pre]; exact S.nd.sublist (List.take_sublist _ _)
  refine ⟨u, rv, ?_⟩
  rcases S.par y (List.mem_of_getElem? hp) with k | k
  ·exact .inl ⟨k, bindL_get ndP hp hu k⟩
  ·obtain ⟨c, e⟩:=cell_has (n:=s.heap.objs.size + 1) k
   refine .inr ⟨.inl k, c, e, ?_⟩
   have q:=x.cell y c e
   rw [bindC_get ndP hp hu (by show scope.names.lookup y ≠ _; rw [k]; decide)] at q
   exact q
 ·exact e0.hok.fresh (Nat.le_of_lt (x.above y c (PySem.mem_of_lookup h)))
 ·unfold start
  show _ = N.length
  rw [List.length_append, List.length_map, List.length_replicate]
  omega
theorem fn_of {CX : CXT} {P : Program} {w : World} {K : PySem.W.Frag} {mg : Str → Option Value} {base : Heap} {k : Nat} {f : Addr} {name qual : Str} {params : Arguments} {body : List Stmt} {scope : Scope} {dV kV doc pm cdv ct oc : Value} {an od : Option Addr}
  {osl : Array (Option Value)} {N ps : List Str} {sp : Sp} (lk : K.lookup f = some ⟨oc, od, .func (PySem.W.fnOf name qual params body scope dV kV doc pm an cdv ct), osl⟩) (hcd : PySem.W.codeIn K cdv qual = true) (S : FnScope N ps scope)
  (len : ∀ vs H Q E, sp vs H Q E → vs.length = ps.length)
  (hbody : ∀ (A : Around) (outer : List Env) (s : Shared) (H : Hp) (vs : List V) (Q : VK) (E : XK), Room k (A.deeper (envOfC qual scope s.heap.objs.size f cdv)) → sp vs H Q E →
   ∃ t, PSs (cxOf CX P w K mg base N qual scope f cdv A outer s H E) body t ∧ t { nx:=fun _ H' => Q .non H', rt:=Q } (start N vs) H) :
  FnOk P w K mg base CX (k + 1) f (PySem.W.fnOf name qual params body scope dV kV doc pm an cdv ct) ps sp:=by
 refine ⟨len, fun A outer s H args us vs Q E hr e0 hb r hsp => ?_⟩
 have hl:=len _ _ _ _ hsp
 have KX : K.In s.heap:=e0.mod.kin.keeps fun b o e => (e0.bs b o e).1
 have lim : s.heap.NoLimit:=e0.mod.nolimit.keeps fun b o e => (e0.bs b o e).1
 have hkind : ∀ y ∈ ps.zip us, scope.names.lookup y.1 = some .local ∨ (scope.names.lookup y.1 = some .cell ∧ ((cellsFrom (s.heap.objs.size + 1) scope.names []).lookup y.1).isSome = true):=fun ⟨n, v⟩ hy => by
  rcases S.par n (List.of_mem_zip hy).1 with q | q
  ·exact .inl q
  ·exact .inr ⟨q, PySem.W.cellsFrom_some _ _ _ (.inl q)⟩
 refine codeAny_call_function hr.depth (KX _ _ lk) rfl S.co S.gen rfl (PySem.W.codeRec_of KX hcd) (hb _ _ _ _ ?_)
 refine wpAny_newFunctionEnv_cells S.kind hkind fun env he s1 x => ?_
 subst he
 refine ⟨lim.keeps x.toInCall.keep, codeAny_func ?_⟩
 obtain ⟨t, ht, hq⟩:=hbody A outer s H vs Q E (hr.deeper _) hsp
 have I : Inv (cxOf CX P w K mg base N qual scope f cdv A outer s H E) [] (start N vs) H s1:=inv_start S hr.hd e0 hl r x
 refine wpAny_mono (ht [] s1 (start N vs) H _ I hq) (fun fl s' hs => ?_) fun e s' hs => hs
 have fin : ∀ {σ' : St} {H' : Hp} {v : V} {u : Value}, Inv (cxOf CX P w K mg base N qual scope f cdv A outer s H E) [] σ' H' s' → RelV v u → Q v H' → CE outer P w H s Q u s' :=
  fun {σ' H' v u} J rv q => ⟨v, H', J.os, J.bare, J.base, J.hok, rv, q⟩
 cases fl with
 | ret u =>
  obtain ⟨v, σ', H', J, rv, q⟩:=hs
  exact fin J rv q
 | next =>
  obtain ⟨σ', H', J, q⟩:=hs
  exact fin (v:=V.non) (u:=Value.none) J rfl q
 | brk =>
  obtain ⟨_, _, _, q⟩:=hs
  exact False.elim q
 | cont =>
  obtain ⟨_, _, _, q⟩:=hs
  exact False.elim q
end L2
namespace L2
open PySem PySem.Spec PyProof.Rows
section
variable {X : Cx} {x : Str} {p pos : Pos} {e : Expr} {es : List Expr} {t : TA} {id T : String} {r : List V → Hp → VK → Prop}
noncomputable def tCB (r : List V → Hp → VK → Prop) (t : TA) : TE:=fun σ H Q => t σ H fun vs H1 => r vs H1 Q
theorem pe_callB (hc : CallR X (.builtin id) r) (hg : Gl X x) (hm : X.mg x = none) (hv : bootBuiltins x = some (.builtin id)) (ha : PA X (e :: es) t) (hn : x ≠ "__name__" := by decide) (hdb : (x == ("__debug__" : Str)) = false := by decide)
  (he : starEach (e :: es) X.env = (false, eval e X.env) :: starEach es X.env:=by rfl) (hpl : (backTo pos (starEach es X.env)).any (·.1) = false:=by rfl) : PE X (.Call (.Name x p) (e :: es) [] pos) (tCB r t):=by
 intro pins s σ H Q I h
 refine wpAny_Call_Name_kw (ld_blt I hg hm hv ?_ hn hdb)
 exact PyProof.Rows.callWith_builtin1 (thn (ha pos pins s σ H _ I h) fun us s1 ⟨vs, H1, I1, r1, q1⟩ => hc pins s1 σ H1 vs us Q I1 r1 q1) he hpl
theorem pe_callTy (hc : CallR X (.type T) r) (hg : Gl X x) (hm : X.mg x = none) (hv : bootBuiltins x = some (.type T)) (ha : PA X (e :: es) t) (hn : x ≠ "__name__" := by decide) (hdb : (x == ("__debug__" : Str)) = false := by decide)
  (he : starEach (e :: es) X.env = (false, eval e X.env) :: starEach es X.env:=by rfl) (hpl : (backTo pos (starEach es X.env)).any (·.1) = false:=by rfl) : PE X (.Call (.Name x p) (e :: es) [] pos) (tCB r t):=by
 intro pins s σ H Q I h
 refine wpAny_Call_Name_kw (ld_blt I hg hm hv ?_ hn hdb)
 exact PyProof.Rows.callWith_type1 (thn (ha pos pins s σ H _ I h) fun us s1 ⟨vs, H1, I1, r1, q1⟩ => hc pins s1 σ H1 vs us Q I1 r1 q1) he hpl
end
end L2
namespace HT
open PySem PyProof.Rows
section
open PySem.SeqAt
open PySem.AutoSeq1 (wpAny_loadPart')
open PySem.MeetsSeq PySem.MeetsSeq2 PySem.MeetsSeq3
end
section
variable {prog : Program} {w : World} {A : Around} {E : Value → Shared → Prop} {s : Shared}
theorem cat_tup {t b : Addr} {vs ws : List Value} {Q : Value → Shared → Prop} (ht : IsTup s.heap t vs.toArray) (hb : IsTup s.heap b ws.toArray) (hv : vs ≠ [])
  (h1 : ws = [] → Q (.ref t) s) (h2 : ws ≠ [] → Q (.ref s.heap.objs.size) { s with heap := s.heap.push { cls := .type "tuple", data := .seq (vs ++ ws).toArray } })
  (hsz : vs.length + ws.length ≤ sizeLine) : wpAny (model prog w) A (binaryOp .Add (.ref t) (.ref b)) Q E s:=by
 obtain ⟨⟨cls, dd, data, sl⟩, ho, hc, n, hd⟩:=id ht
 obtain ⟨⟨cls2, dd2, data2, sl2⟩, ho2, hc2, n2, hd2⟩:=id hb
 simp only at hc hd hc2 hd2
 subst hc hd hc2 hd2
 have e : vs.toArray ++ ws.toArray = (vs ++ ws).toArray:=by simp
 by_cases hw : ws = []
 ·exact concat_meets ⟨_, ho, rfl⟩ ⟨_, ho2, rfl⟩ noFill_tuple_add seq_tuple_add PySem.F.slot_tuple_add PySem.F.entry_tuple_add (PySem.F.args_tuple_add_2 _ _)
   (tuple_addW1 t b vs.toArray ws.toArray n n2 dd dd2 sl sl2 (by simpa using hv) (by simp [hw])) ⟨ho, ho2, h1 hw⟩
 ·refine concat_meets ⟨_, ho, rfl⟩ ⟨_, ho2, rfl⟩ noFill_tuple_add seq_tuple_add PySem.F.slot_tuple_add PySem.F.entry_tuple_add (PySem.F.args_tuple_add_2 _ _)
   (tuple_addW2 t b vs.toArray ws.toArray n n2 dd dd2 sl sl2 (by simpa using hv) (by simpa using hw) (by rw [List.size_toArray, List.size_toArray]; exact hsz)) ⟨ho, ho2, ?_⟩
  rw [e]
  exact h2 hw
noncomputable def sIx (n d : Nat) : Option Int → Nat
 | none => d
 | some v => if v < 0 then (v + (n : Int)).toNat else min v.toNat n
theorem sIx_none (n d : Nat) : sIx n d none = d:=rfl
theorem sIx_nat (n d k : Nat) : sIx n d (some (k : Int)) = min k n:=by
 show (if (k : Int) < 0 then ((k : Int) + (n : Int)).toNat else min (k : Int).toNat n) = min k n
 rw [if_neg (by omega), Int.toNat_natCast]
theorem sIx_le (n d : Nat) (hd : d ≤ n) (o : Option Int) : sIx n d o ≤ n:=by
 cases o with
 | none => exact hd
 | some v =>
  show (if v < 0 then (v + (n : Int)).toNat else min v.toNat n) ≤ n
  by_cases hv : v < 0
  ·rw [if_pos hv]; omega
  ·rw [if_neg hv]; exact Nat.min_le_right _ _
theorem clip_eq (v : Int) (n d : Nat) : (if v < 0 then max (v + (n : Int)) 0 else min v (n : Int)) = ((sIx n d (some v) : Nat) : Int):=by
 show (if v < 0 then max (v + (n : Int)) 0 else min v (n : Int)) = (((if v < 0 then (v + (n : Int)).toNat else min v.toNat n) : Nat) : Int)
 by_cases hv : v < 0
 ·simp only [if_pos hv]; omega
 ·simp only [if_neg hv]; omega
theorem adjust_gen (lo hi : Option Int) (n : Nat) : Builtin.Slice.sliceAdjust lo hi 1 (n : Int) = (((sIx n 0 lo : Nat) : Int), ((sIx n n hi : Nat) : Int)):=by
 have h1 : ¬ ((1 : Int) < 0):=by omega
 unfold Builtin.Slice.sliceAdjust
 simp only [h1, if_false]
 refine Prod.ext ?_ ?_
 ·cases lo with
  | none => rfl
  | some v => exact clip_eq v n 0
 ·cases hi with
  | none => rfl
  | some v => exact clip_eq v n n
theorem places_gen (i j : Nat) : Builtin.Slice.slicePlaces (i : Int) (j : Int) 1 = j - i:=by
 unfold Builtin.Slice.slicePlaces
 have h1 : (1 : Int) > 0:=by omega
 simp only [h1, if_true, Int.ediv_one]
 split <;> omega
theorem slicePart_ {v : Value} {o : Option Int} {Q : Option Int → Shared → Prop} (p : IsPart v o) (h : Q o s) : wpAny (model prog w) A (Builtin.Slice.slicePartIndex v) Q E s:=by
 cases p with
 | none => exact slicePart_none h
 | int i t => exact slicePart_int h
theorem sliceApplied_gen {sl : Addr} {vl vu : Value} {lo hi : Option Int} {n : Nat} {Q : Int × Int × Nat → Shared → Prop} (hs : s.heap.IsSliceOf sl vl vu .none) (pl : IsPart vl lo) (pu : IsPart vu hi)
  (h : Q (((sIx n 0 lo : Nat) : Int), 1, sIx n n hi - sIx n 0 lo) s) : wpAny (model prog w) A (Builtin.Slice.sliceApplied (.ref sl) (pure (n : Int))) Q E s:=by
 obtain ⟨os, hos, hcs, hds⟩:=id hs
 unfold Builtin.Slice.sliceApplied Builtin.Slice.sliceFields
 refine wpAny_bind (wpAny_bind (wpAny_field hos hds (x:=vl) rfl (wpAny_bind (wpAny_field hos hds (x:=vu) rfl (wpAny_bind (wpAny_field hos hds (x:=.none) rfl (wpAny_pure ?_)))))))
 refine wpAny_bind (slicePart_none ?_)
 show wpAny _ _ (if ((1 : Int) == 0) = true then _ else _) _ _ s
 rw [if_neg (by decide)]
 refine wpAny_bind (slicePart_ pl (wpAny_bind (slicePart_ pu (wpAny_bind (wpAny_pure ?_)))))
 show wpAny _ _ (match Builtin.Slice.sliceAdjust lo hi 1 (n : Int) with | (lo, hi) => pure (lo, (1 : Int), Builtin.Slice.slicePlaces lo hi 1)) _ _ s
 rw [adjust_gen lo hi n]
 show wpAny _ _ (pure (((sIx n 0 lo : Nat) : Int), (1 : Int), Builtin.Slice.slicePlaces ((sIx n 0 lo : Nat) : Int) ((sIx n n hi : Nat) : Int) 1)) _ _ s
 rw [places_gen]
 exact wpAny_pure h
theorem pick_gen (xs : Array Value) (i k : Nat) : ((List.range k).filterMap fun (m : Nat) => xs[((i : Int) + (m : Int) * 1).toNat]?).toArray = ((xs.toList.drop i).take k).toArray:=by
 have e : (fun (m : Nat) => xs[((i : Int) + (m : Int) * 1).toNat]?) = fun m => xs[i + m]?:=by
  funext m
  have : ((i : Int) + (m : Int) * 1).toNat = i + m:=by omega
  rw [this]
 rw [e]
 have:=pick_run xs i k
 rw [List.filterMap_map] at this
 have e2 : ((fun x => xs[x]?) ∘ fun x => i + x) = fun m => xs[i + m]?:=rfl
 rw [e2] at this
 rw [this]
theorem getItem_tuple_cut {t sl : Addr} {items : Array Value} {vl vu : Value} {lo hi : Option Int} {Q : Value → Shared → Prop} (ht : IsTup s.heap t items) (hs : s.heap.IsSliceOf sl vl vu .none) (pl : IsPart vl lo) (pu : IsPart vu hi)
  (hw : ¬ (sIx items.size 0 lo = 0 ∧ sIx items.size items.size hi = items.size))
  (h : Q (.ref s.heap.objs.size) { s with heap := s.heap.push { cls := .type "tuple", data := .seq ((items.toList.drop (sIx items.size 0 lo)).take (sIx items.size items.size hi - sIx items.size 0 lo)).toArray } })
  (hsz : items.size ≤ sizeLine) : wpAny (model prog w) A (getItem (.ref t) (.ref sl)) Q E s:=by
 have htake : sizeOk (.seq ((items.toList.drop (sIx items.size 0 lo)).take (sIx items.size items.size hi - sIx items.size 0 lo)).toArray):=by
  show ((items.toList.drop (sIx items.size 0 lo)).take (sIx items.size items.size hi - sIx items.size 0 lo)).toArray.size ≤ sizeLine
  rw [List.size_toArray, List.length_take, List.length_drop, Array.length_toList]
  omega
 have hj : sIx items.size items.size hi ≤ items.size:=sIx_le _ _ (Nat.le_refl _) hi
 obtain ⟨os, hos, hcs, hds⟩:=id hs
 have hTs : s.TypeIs (.ref sl) "slice" := ⟨os, hos, hcs⟩
 unfold getItem
 try with_reducible refine wpAny_holding ?_
 first | refine wpAny_bind (wpAny_pure ?_) | skip
 refine wpAny_bind (wpAny_sequenceKey ht.typeIs (by decide) ?_)
 refine wpAny_bind (wpAny_callSpecial?_slot (name := Str.ofString "__getitem__") ht.typeIs PyProof.Rows.slot_tuple_getitem
  (wpAny_call_entry PyProof.Rows.slot_tuple_getitem ht.typeIs entry_tuple_getitem ?_ (args_tuple_getitem _ _)))
 show wpAny _ _ (Builtin.Tuple.tupleItemsOf (.ref t) >>= _) _ _ s
 refine wpAny_bind (tupleItemsOf_ ht ?_)
 refine wpAny_bind (wpAny_typeOf hTs ?_)
 rw [if_pos (by decide)]
 refine wpAny_bind (sliceApplied_gen hs pl pu ?_)
 have hno : ¬ ((((sIx items.size 0 lo : Nat) : Int) == 0 && (1 : Int) == 1 && (sIx items.size items.size hi - sIx items.size 0 lo) == items.size) = true):=by
  intro q
  rw [Bool.and_eq_true, Bool.and_eq_true] at q
  have q1 : ((sIx items.size 0 lo : Nat) : Int) = 0:=eq_of_beq q.1.1
  have q2 : sIx items.size items.size hi - sIx items.size 0 lo = items.size:=eq_of_beq q.2
  exact hw ⟨by omega, by omega⟩
 show wpAny _ _ (if (((sIx items.size 0 lo : Nat) : Int) == 0 && (1 : Int) == 1 && (sIx items.size items.size hi - sIx items.size 0 lo) == items.size) = true then _ else _) _ _ s
 rw [if_neg hno, pick_gen]
 first
  | exact wpAny_bind (m:=Builtin.Tuple.tupleExact _) (wpAny_newObj_type (wpAny_pure ⟨_, rfl, wpAny_pure h⟩) htake)
  | exact wpAny_bind (m:=Builtin.Tuple.tupleExact _) (wpAny_newObj_type (wpAny_bind (wpAny_pure (wpAny_pure ⟨_, rfl, wpAny_pure h⟩))) htake)
  | exact wpAny_bind (wpAny_bind (m:=Builtin.Tuple.tupleExact _) (wpAny_newObj_type (wpAny_pure (wpAny_pure ⟨_, rfl, wpAny_pure h⟩)) htake))
  | exact wpAny_bind (wpAny_bind (m:=Builtin.Tuple.tupleExact _) (wpAny_newObj_type (wpAny_pure ⟨_, rfl, wpAny_pure h⟩) htake))
end
end HT
namespace L2
open PySem PySem.Spec PyProof.Rows
noncomputable abbrev TO:=St → Hp → (Option Int → Hp → Prop) → Prop
noncomputable def PO (X : Cx) (e : Option Expr) (t : TO) : Prop :=
 ∀ (pins : List (Addr × Obj)) (s : Shared) (σ : St) (H : Hp) (Q : Option Int → Hp → Prop), Inv X pins σ H s → t σ H Q →
  wpAny (model X.prog X.w) X.A (evalPart e X.env) (fun u s' => ∃ o H', Inv X pins σ H' s' ∧ IsPart u o ∧ Q o H') X.xe s
noncomputable def tNoPart : TO:=fun _ H Q => Q none H
noncomputable def tPart (t : TE) : TO:=fun σ H Q => t σ H fun x H1 => ∃ i, x = .int i ∧ Q (some i) H1
section
variable {X : Cx} {e : Expr} {te : TE} {lo hi : Option Expr} {tl th : TO} {pos p2 : Pos}
theorem po_none : PO X none tNoPart:=by
 intro pins s σ H Q I h
 rw [evalPart_none]
 exact wpAny_pure ⟨none, H, I, .none, h⟩
theorem po_some (h : PE X e te) : PO X (some e) (tPart te):=by
 intro pins s σ H Q I hw
 rw [evalPart_some]
 refine thn (h pins s σ H _ I hw) fun u s1 ⟨x, H1, I1, r1, q1⟩ => ?_
 obtain ⟨i, rfl, q⟩:=q1
 obtain ⟨t, rfl⟩:=r1
 exact ⟨some i, H1, I1, .int i t, q⟩
noncomputable def SlR (X : Cx) (r : V → Option Int → Option Int → Hp → VK → Prop) : Prop :=
 ∀ (pins : List (Addr × Obj)) (s : Shared) (σ : St) (H : Hp) (x : V) (v vl vu : Value) (lo hi : Option Int) (sl : Addr) (Q : VK), Inv X pins σ H s → RelV x v → s.heap.IsSliceOf sl vl vu .none → IsPart vl lo → IsPart vu hi → r x lo hi H Q →
  ∃ T id, typeLookup (.type T) "__getitem__" = pure (some (.builtin id)) ∧ s.TypeIs v T ∧ wpAny (model X.prog X.w) X.A (getItem v (.ref sl)) (EP X pins σ Q) X.xe s
noncomputable def tSl (r : V → Option Int → Option Int → Hp → VK → Prop) (te : TE) (tl th : TO) : TE:=fun σ H Q => te σ H fun x H1 => tl σ H1 fun l H2 => th σ H2 fun u H3 => r x l u H3 Q
theorem pe_slice {r : V → Option Int → Option Int → Hp → VK → Prop} (hr : SlR X r) (he : PE X e te) (hl : PO X lo tl) (hu : PO X hi th) : PE X (.Subscript e (.Slice lo hi none p2) pos) (tSl r te tl th):=by
 intro pins s σ H Q I h
 refine Subscript_ (thn (he pins s σ H _ I h) fun v s1 ⟨x, H1, I1, r1, q1⟩ => ?_)
 refine wpAny_Slice (thn (hl pins s1 σ H1 _ I1 q1) fun vl s2 ⟨l, H2, I2, pl, q2⟩ => thn (hu pins s2 σ H2 _ I2 q2) fun vu s3 ⟨u, H3, I3, pu, q3⟩ => ?_)
 rw [evalPart_none]
 refine wpAny_pure ?_
 have I4 : Inv X pins σ H3 { s3 with heap := s3.heap.push { cls := .type "slice", data := .fields #[vl, vu, .none] } } := I3.kept (t' := s3.toks) fun b ob q => Heap.get?_push_of_some _ q
 obtain ⟨T, id, hT, ht, hg⟩ := hr pins { s3 with heap := s3.heap.push { cls := .type "slice", data := .fields #[vl, vu, .none] } } σ H3 x v vl vu l u s3.heap.objs.size Q I4 r1 (Heap.IsSliceOf.new ..) pl pu q3
 show wpAny (model X.prog X.w) X.A (subscriptTail e (.Slice lo hi none p2) v (.ref s3.heap.objs.size)) (EP X pins σ Q) X.xe { s3 with heap := s3.heap.push { cls := .type "slice", data := .fields #[vl, vu, .none] } }
 exact tail_any (ops:=[.ref s3.heap.objs.size, v]) ht hT hg (by with_unfolding_all rfl)
noncomputable def cutV (xs : List V) (lo hi : Option Int) : List V:=(xs.drop (HT.sIx xs.length 0 lo)).take (HT.sIx xs.length xs.length hi - HT.sIx xs.length 0 lo)
theorem cutV_length (xs : List V) (lo hi : Option Int) : (cutV xs lo hi).length ≤ xs.length:=by
 unfold cutV
 rw [List.length_take, List.length_drop]
 omega
noncomputable def rSlT (K : PySem.W.Frag) : V → Option Int → Option Int → Hp → VK → Prop:=fun x lo hi H Q => ∃ a xs, x = .ref a ∧ SqT K H a xs ∧
 ¬ (HT.sIx xs.length 0 lo = 0 ∧ HT.sIx xs.length xs.length hi = xs.length) ∧ ∀ p, H p = none → Q (.ref p) (upd H p (.tup (cutV xs lo hi)))
theorem sl_tup : SlR X (rSlT X.K):=by
 intro pins s σ H x v vl vu lo hi sl Q I rx hs pl pu h
 obtain ⟨a, xs, rfl, hx, hw, q⟩:=h
 cases rx
 obtain ⟨its, r, ht, hz⟩:=I.tuple hx
 have hlen : its.toArray.size = xs.length:=by rw [List.size_toArray]; exact r.length.symm
 refine ⟨"tuple", _, PyProof.Rows.slot_tuple_getitem.lookup, ht.typeIs, ?_⟩
 refine HT.getItem_tuple_cut ht hs pl pu (by rw [hlen]; exact hw) ?_ (by rw [hlen]; exact hz)
 rw [hlen]
 refine ⟨.ref s.heap.objs.size, _, I.laid (t':=s.toks) (o:=.tup (cutV xs lo hi)) (fun b ob q => Heap.get?_push_of_some _ q) (Nat.le_refl _) ?_, rfl, q _ (I.hok.fresh (Nat.le_refl _))⟩
 exact ⟨Nat.le_trans (cutV_length xs lo hi) hz, _, (r.drop (HT.sIx xs.length 0 lo)).take (HT.sIx xs.length xs.length hi - HT.sIx xs.length 0 lo), IsTup.new _ _⟩
noncomputable def rCatT (K : PySem.W.Frag) : R2:=fun x y H Q => ∃ a b xs ys, x = .ref a ∧ y = .ref b ∧ SqT K H a xs ∧ SqT K H b ys ∧ xs ≠ [] ∧ xs.length + ys.length ≤ sizeLine ∧
 (ys = [] → Q (.ref a) H) ∧ (ys ≠ [] → ∀ p, H p = none → Q (.ref p) (upd H p (.tup (xs ++ ys))))
theorem Vals.nil_iff {xs : List V} {us : List Value} (r : Vals xs us) : us = [] ↔ xs = []:=by
 cases r with
 | nil => simp
 | cons _ _ => simp
theorem op_catT : OpR X (binaryOp .Add) (rCatT X.K):=by
 intro pins s σ H x y v u Q I rx ry h
 obtain ⟨a, b, xs, ys, rfl, rfl, ha, hb, hx, hz, q1, q2⟩:=h
 cases rx
 cases ry
 obtain ⟨its, r1, p1, _⟩:=I.tuple ha
 obtain ⟨its2, r2, p2, _⟩:=I.tuple hb
 refine HT.cat_tup p1 p2 (fun z => hx (r1.nil_iff.mp z)) (fun z => ⟨.ref a, H, I, rfl, q1 (r2.nil_iff.mp z)⟩) (fun z => ?_) (by rw [← r1.length, ← r2.length]; exact hz)
 refine ⟨.ref s.heap.objs.size, _, I.laid (t':=s.toks) (o:=.tup (xs ++ ys)) (fun b ob q => Heap.get?_push_of_some _ q) (Nat.le_refl _) ?_, rfl, q2 (fun w => z (r2.nil_iff.mpr w)) _ (I.hok.fresh (Nat.le_refl _))⟩
 exact ⟨by rw [List.length_append]; exact hz, _, r1.append r2, IsTup.new _ _⟩
end
end L2
namespace L2
open PySem PySem.Spec PyProof.Rows
noncomputable def ixN (n : Nat) (i : Int) : Option Nat:=if 0 ≤ i then (if i < n then some i.toNat else none) else if -(n : Int) ≤ i then some (i + n).toNat else none
noncomputable def atI {α : Type} (xs : List α) (i : Int) : Option α:=(ixN xs.length i).bind fun j => xs[j]?
theorem ixN_seq {n : Nat} {i : Int} {j : Nat} (h : ixN n i = some j) : seqIndex? i n = some j ∧ j < n ∧ -(n : Int) ≤ i ∧ i < n:=by
 unfold ixN at h
 by_cases h0 : 0 ≤ i
 ·rw [if_pos h0] at h
  by_cases h1 : i < n
  ·rw [if_pos h1] at h
   have e : i.toNat = j:=Option.some.inj h
   exact ⟨by rw [seqIndex_of h0 h1, e], by omega, by omega, h1⟩
  ·rw [if_neg h1] at h; cases h
 ·rw [if_neg h0] at h
  by_cases h1 : -(n : Int) ≤ i
  ·rw [if_pos h1] at h
   have e : (i + n).toNat = j:=Option.some.inj h
   exact ⟨by rw [seqIndex_neg (by omega) h1, e], by omega, h1, by omega⟩
  ·rw [if_neg h1] at h; cases h
theorem atI_get {α : Type} {xs : List α} {i : Int} {v : α} (h : atI xs i = some v) : ∃ j, seqIndex? i xs.length = some j ∧ xs[j]? = some v ∧ j < xs.length ∧ -(xs.length : Int) ≤ i ∧ i < xs.length:=by
 unfold atI at h
 cases e : ixN xs.length i with
 | none => rw [e] at h; cases h
 | some j =>
  rw [e] at h
  obtain ⟨h1, h2, h3, h4⟩:=ixN_seq e
  exact ⟨j, h1, h, h2, h3, h4⟩
theorem atI_nat {α : Type} {xs : List α} {j : Nat} {v : α} (h : xs[j]? = some v) : atI xs (j : Int) = some v:=by
 have hj : j < xs.length:=(List.getElem?_eq_some_iff.mp h).1
 have e : ixN xs.length (j : Int) = some j:=by
  unfold ixN
  rw [if_pos (by omega), if_pos (by omega)]; simp
 unfold atI; rw [e]; exact h
noncomputable def PlainIx (b : Expr) : Prop:=∀ o i, subscripted b false o i = operate [o, i] (getItem o i)
noncomputable def IxR (X : Cx) (r : R2) : Prop :=
 ∀ (value slice : Expr) (pins : List (Addr × Obj)) (s : Shared) (σ : St) (H : Hp) (x y : V) (v u : Value) (Q : VK), Inv X pins σ H s → RelV x v → RelV y u → r x y H Q →
  subscripted slice false v u = operate [v, u] (getItem v u) → wpAny (model X.prog X.w) X.A (subscriptTail value slice v u) (EP X pins σ Q) X.xe s
noncomputable def MtR (X : Cx) (id : String) (r : V → List V → Hp → VK → Prop) : Prop :=
 ∀ (pins : List (Addr × Obj)) (s : Shared) (σ : St) (H : Hp) (x : V) (xs : List V) (v : Value) (us : List Value) (Q : VK), Inv X pins σ H s → RelV x v → Vals xs us → r x xs H Q →
  wpAny (model X.prog X.w) X.A (call (.builtin id) (v :: us)) (EP X pins σ Q) X.xe s
section
variable {X : Cx} {a b : Expr} {ta tb : TE} {pos : Pos}
theorem pe_ix {r : R2} (hr : IxR X r) (ha : PE X a ta) (hb : PE X b tb) (hs : PlainIx b) : PE X (.Subscript a b pos) (tOp r ta tb):=by
 intro pins s σ H Q I h
 exact Subscript_ (binT ha hb I h fun v u s2 x y H2 I2 rx ry q => hr a b pins s2 σ H2 x y v u Q I2 rx ry q (hs _ _))
noncomputable def rIxL (K : PySem.W.Frag) : R2:=fun x y H Q => ∃ p xs i v, x = .ref p ∧ y = .int i ∧ SqL K H p xs ∧ atI xs i = some v ∧ Q v H
noncomputable def rIxT (K : PySem.W.Frag) : R2:=fun x y H Q => ∃ p xs i v, x = .ref p ∧ y = .int i ∧ SqT K H p xs ∧ atI xs i = some v ∧ Q v H
noncomputable def rIxS : R2:=fun x y H Q => ∃ z i c, x = .str z ∧ y = .int i ∧ z.length ≤ sizeLine ∧ atI z.cps.toList i = some c ∧ Q (.str ⟨#[c]⟩) H
theorem ix_list : IxR X (rIxL X.K):=by
 intro value slice pins s σ H x y v u Q I rx ry h hs
 obtain ⟨p, xs, i, z, rfl, rfl, hq, he, q⟩:=h
 cases rx
 obtain ⟨t, rfl⟩:=ry
 obtain ⟨its, r, pl, hz⟩:=I.list hq
 obtain ⟨j, h1, h2, h3, h4, h5⟩:=atI_get he
 obtain ⟨w, ew, rw'⟩:=r.get h2
 have hl:=r.length
 have hn:=line63
 have fin : EP X pins σ Q w s:=⟨z, H, I, rw', q⟩
 by_cases h0 : 0 ≤ i
 ·have hj : i.toNat = j:=by
   rw [seqIndex_of h0 h5] at h1
   exact Option.some.inj h1
  exact item_listR pl.isList h0 (by omega) (by rw [hj]; simpa using ew) fin hs
 ·have hj : (i + (its.toArray.size : Int)).toNat = j:=by
   rw [seqIndex_neg (by omega) h4] at h1
   rw [List.size_toArray, ← hl]
   exact Option.some.inj h1
  exact subscriptTail_builtinR (x:=w) pl.isList.typeIs slot_list_getitem.lookup
   (wpAny_getItem_list_neg (Q:=fun r s' => r = w ∧ EP X pins σ Q r s') pl.isList (by omega) (by rw [List.size_toArray] <;> omega) (by omega) (by rw [hj]; simpa using ew) ⟨rfl, fin⟩) hs
theorem ix_tup : IxR X (rIxT X.K):=by
 intro value slice pins s σ H x y v u Q I rx ry h hs
 obtain ⟨p, xs, i, z, rfl, rfl, hq, he, q⟩:=h
 cases rx
 obtain ⟨t, rfl⟩:=ry
 obtain ⟨its, r, pl, hz⟩:=I.tuple hq
 obtain ⟨j, h1, h2, h3, h4, h5⟩:=atI_get he
 obtain ⟨w, ew, rw'⟩:=r.get h2
 have hl:=r.length
 have hn:=line63
 have fin : EP X pins σ Q w s:=⟨z, H, I, rw', q⟩
 exact subscriptTail_builtinR (x:=w) pl.typeIs slot_tuple_getitem.lookup
  (getItem_tuple (j:=j) (Q:=fun r s' => r = w ∧ EP X pins σ Q r s') pl (by omega) (by omega) (by rw [List.size_toArray, ← hl]; exact h1) (by simpa using ew) ⟨rfl, fin⟩) hs
theorem ix_str : IxR X rIxS:=by
 intro value slice pins s σ H x y v u Q I rx ry h hs
 obtain ⟨z, i, c, rfl, rfl, hz, he, q⟩:=h
 obtain ⟨t, rfl⟩:=rx
 obtain ⟨t', rfl⟩:=ry
 obtain ⟨j, h1, h2, h3, h4, h5⟩:=atI_get he
 have hl : z.cps.toList.length = z.length:=by simp [Str.length]
 rw [hl] at h1 h4 h5
 have hn:=line63
 exact tail_any (typeIs_str s z t) slot_str_getitem.lookup (getItem_str (c:=c) (by
  have e1 : decide (i < -(2 ^ 63 : Int)) = false:=decide_eq_false (by omega)
  have e2 : decide (i ≥ 2 ^ 63) = false:=decide_eq_false (by omega)
  rw [e1, e2, Bool.or_false]) (by rw [h1]; simpa using h2) ⟨.str ⟨#[c]⟩, H, I.tok _, ⟨_, rfl⟩, q⟩) hs
theorem slice_bounds (lo hi : Option Int) (n : Nat) : (sliceBounds lo hi none n).1 = ((HT.sIx n 0 lo : Nat) : Int) ∧ (sliceBounds lo hi none n).2.1 = ((HT.sIx n n hi : Nat) : Int) ∧ (sliceBounds lo hi none n).2.2 = 1:=by
 refine ⟨?_, ?_, rfl⟩
 ·cases lo with
  | none => simp [sliceBounds, HT.sIx]
  | some i =>
   simp only [sliceBounds, HT.sIx, Option.getD_none, show (1 : Int) > 0 by decide, if_true]
   by_cases h : i < 0
   ·simp only [h, if_true] <;> omega
   ·simp only [h, if_false] <;> omega
 ·cases hi with
  | none => simp [sliceBounds, HT.sIx]
  | some i =>
   simp only [sliceBounds, HT.sIx, Option.getD_none, show (1 : Int) > 0 by decide, if_true]
   by_cases h : i < 0
   ·simp only [h, if_true] <;> omega
   ·simp only [h, if_false] <;> omega
theorem slicePick_cut (its : List Value) (lo hi : Option Int) : slicePick its.toArray lo hi none = ((its.drop (HT.sIx its.length 0 lo)).take (HT.sIx its.length its.length hi - HT.sIx its.length 0 lo)).toArray:=by
 obtain ⟨h1, h2, h3⟩:=slice_bounds lo hi its.toArray.size
 unfold slicePick
 rw [h1, h2, h3]
 simp only [sliceRange_one, pick_run, List.size_toArray] <;> rfl
noncomputable def rSlL (K : PySem.W.Frag) : V → Option Int → Option Int → Hp → VK → Prop:=fun x lo hi H Q => ∃ a xs, x = .ref a ∧ SqL K H a xs ∧ ∀ p, H p = none → Q (.ref p) (upd H p (.lst (cutV xs lo hi)))
theorem sl_list : SlR X (rSlL X.K):=by
 intro pins s σ H x v vl vu lo hi sl Q I rx hs pl pu h
 obtain ⟨a, xs, rfl, hx, q⟩:=h
 cases rx
 obtain ⟨its, r, ht, hz⟩:=I.list hx
 have hlen:=r.length
 refine ⟨"list", _, slot_list_getitem.lookup, ht.isList.typeIs, ?_⟩
 refine wpAny_getItem_list_slice ht.isList hs pl pu .none (by simp) ?_ (by rw [List.size_toArray] <;> omega)
 rw [slicePick_cut, ← hlen]
 refine ⟨.ref s.heap.objs.size, _, I.laid (t':=s.toks) (o:=.lst (cutV xs lo hi)) (fun b ob q => Heap.get?_push_of_some _ q) (Nat.le_refl _) ?_, rfl, q _ (I.hok.fresh (Nat.le_refl _))⟩
 exact ⟨Nat.le_trans (cutV_length xs lo hi) hz, _, 0, (r.drop (HT.sIx xs.length 0 lo)).take (HT.sIx xs.length xs.length hi - HT.sIx xs.length 0 lo), Heap.get?_push_size _ rfl⟩
theorem call_len_seq : CallR X (.builtin "len") (fun xs H Q => ∃ p ys, xs = [.ref p] ∧ (SqL X.K H p ys ∨ SqT X.K H p ys) ∧ Q (.int ys.length) H) := by
 intro pins s σ H xs us Q I r h
 obtain ⟨p, ys, rfl, hq, q⟩:=h
 obtain ⟨u, rfl, rx⟩:=vals1 r
 cases rx
 have hn:=line63
 rcases hq with hq | hq
 ·obtain ⟨its, r', pl, hz⟩:=I.list hq
  have hlen:=r'.length
  exact Calls.call_len_list pl.isList (by simp only [List.size_toArray] <;> omega) ⟨.int ys.length, H, I.tok _, ⟨s.toks + 1, by rw [List.size_toArray, hlen]⟩, q⟩
 ·obtain ⟨its, r', pl, hz⟩:=I.tuple hq
  have hlen:=r'.length
  exact len_tuple pl (by simp only [List.size_toArray] <;> omega) ⟨.int ys.length, H, I.tok _, ⟨s.toks + 1, by rw [List.size_toArray, hlen]⟩, q⟩
theorem call_len_str : CallR X (.builtin "len") (fun xs H Q => ∃ z, xs = [.str z] ∧ z.length ≤ sizeLine ∧ Q (.int z.length) H) := by
 intro pins s σ H xs us Q I r h
 obtain ⟨z, rfl, hz, q⟩:=h
 obtain ⟨u, rfl, t, rfl⟩:=vals1 r
 have hn:=line63
 exact len_str (by omega) ⟨.int z.length, H, I.tok _, ⟨_, rfl⟩, q⟩
theorem call_tuple_of : CallR X (.type "tuple") (fun xs H Q => ∃ p ys, xs = [.ref p] ∧ ((SqL X.K H p ys ∧ ∀ l, H l = none → Q (.ref l) (upd H l (.tup ys))) ∨ (SqT X.K H p ys ∧ Q (.ref p) H))) := by
 intro pins s σ H xs us Q I r h
 obtain ⟨p, ys, rfl, h⟩:=h
 obtain ⟨u, rfl, rx⟩:=vals1 r
 cases rx
 rcases h with ⟨hq, q⟩ | ⟨hq, q⟩
 ·obtain ⟨its, r', pl, hz⟩:=I.list hq
  have hlen:=r'.length
  refine call_tuple_list pl.isList (fun h' kp => ?_) (by simp only [List.size_toArray] <;> omega)
  have I1 : Inv X pins σ H { s with heap:=h' }:=I.kept (t':=s.toks) kp
  have I2 : Inv X pins σ (upd H h'.objs.size (.tup ys)) { s with heap := h'.push { cls := .type "tuple", data := .seq its.toArray } } :=
   I1.laid (t':=s.toks) (fun b o e => Heap.get?_push_of_some _ e) (Nat.le_refl _) (show ObjOk X.prog X.w _ _ _ (.tup ys) from ⟨hz, its, r', IsTup.new _ _⟩)
  exact ⟨.ref h'.objs.size, _, I2, rfl, q _ (I1.hok.fresh (Nat.le_refl _))⟩
 ·obtain ⟨its, r', pl, hz⟩:=I.tuple hq
  exact call_tuple_same pl ⟨.ref p, H, I, rfl, q⟩
noncomputable def tyV (K : PySem.W.Frag) (T : String) (x : V) (H : Hp) : Prop:=match x with
 | .str _ => T = "str"
 | .int _ => T = "int"
 | .ref p => (T = "list" ∧ ∃ xs, SqL K H p xs) ∨ (T = "tuple" ∧ ∃ o, K.lookup p = some o ∧ o.cls = .type "tuple" ∧ o.dict = none) ∨
   (T = "dict" ∧ ((∃ kvs, H p = some (.dK kvs)) ∨ ∃ kvs, H p = some (.dT kvs))) ∨ (T = "set" ∧ ∃ S n, H p = some (.set S n))
 | _ => False
theorem tyV_is {pins : List (Addr × Obj)} {σ : St} {H : Hp} {s : Shared} {T : String} {x : V} {v : Value} (I : Inv X pins σ H s) (r : RelV x v) (ty : tyV X.K T x H) :
  s.TypeIs v T ∧ ∀ a, v = .ref a → ∃ ob, s.heap.get? a = some ob ∧ ob.dict = none:=by
 cases x with
 | str z =>
  obtain ⟨t, rfl⟩:=r
  cases (show T = "str" from ty)
  exact ⟨typeIs_str s z t, fun _ e => nomatch e⟩
 | int i =>
  obtain ⟨t, rfl⟩:=r
  cases (show T = "int" from ty)
  exact ⟨typeIs_int s i t, fun _ e => nomatch e⟩
 | ref p =>
  cases r
  rcases ty with ⟨rfl, xs, hq⟩ | ⟨rfl, o, hk, hc, hd⟩ | ⟨rfl, hk⟩ | ⟨rfl, S, n, hk⟩
  ·obtain ⟨its, _, pl, _⟩:=I.list hq
   refine ⟨pl.isList.typeIs, fun a e => ?_⟩
   cases e
   obtain ⟨o, n, e, c, hd, _⟩:=pl
   exact ⟨o, e, hd⟩
  ·refine ⟨⟨o, I.kIn p o hk, hc⟩, fun a e => ?_⟩
   cases e
   exact ⟨o, I.kIn _ o hk, hd⟩
  ·have z : ∃ o, s.heap.get? p = some o ∧ o.ExactDict:=by
    rcases hk with ⟨kvs, hk⟩ | ⟨kvs, hk⟩
    ·obtain ⟨_, _, _, _, o, _, _, e, ex, _⟩:=I.hok p _ hk
     exact ⟨o, e, ex⟩
    ·obtain ⟨_, _, _, _, o, _, _, e, ex, _⟩:=I.hok p _ hk
     exact ⟨o, e, ex⟩
   obtain ⟨o, e, ex⟩:=z
   refine ⟨⟨o, e, ex.1⟩, fun a e2 => ?_⟩
   cases e2
   exact ⟨o, e, ex.2.1⟩
  ·obtain ⟨o, _, _, _, e, ex, _⟩:=I.hok p _ hk
   refine ⟨⟨o, e, ex.1⟩, fun a e2 => ?_⟩
   cases e2
   exact ⟨o, e, ex.2.1⟩
 | _ => exact False.elim ty
noncomputable def tBM (K : PySem.W.Frag) (T : String) (r : V → List V → Hp → VK → Prop) (to : TE) (t : TA) : TE:=fun σ H Q => to σ H fun x H1 => tyV K T x H1 ∧ t σ H1 fun xs H2 => r x xs H2 Q
variable {o e : Expr} {es : List Expr} {to : TE} {t : TA} {name : Str} {apos cpos : Pos} {T id : String} {r : V → List V → Hp → VK → Prop}
theorem pe_bm (pa : PlainAttrs T) (slot : Slot T name id) (hty : typeOf (.builtin id) = pure (.type "method_descriptor")) (hm : MtR X id r) (ho : PE X o to) (ha : PA X (e :: es) t)
  (hbase : attributeBase o name X.env (eval o X.env) = eval o X.env:=by rfl)
  (hfew : ((backTo cpos (starEach (e :: es) X.env)).all (fun x => !x.1) && (backToKw cpos (keywordEach [] X.env)).all (fun x => x.1.isSome)
   && decide ((e :: es).length + ([] : List Keyword).length + (if ([] : List Keyword).isEmpty then 0 else 1) < 30)) = true:=by rfl)
  (hline : (apos.endLine == cpos.line) = true:=by rfl) (hs : starEach (e :: es) X.env = (false, eval e X.env) :: starEach es X.env:=by rfl) (hplain : (backTo cpos (starEach es X.env)).any (·.1) = false:=by rfl) :
  PE X (.Call (.Attribute o name apos) (e :: es) [] cpos) (tBM X.K T r to t):=by
 intro pins s σ H Q I h
 refine wpAny_Call_method_late hbase hfew hline rfl (thn (ho pins s σ H _ I h) fun v s1 ⟨x, H1, I1, r1, ty, q1⟩ => ?_)
 obtain ⟨h1, h2⟩:=tyV_is I1 r1 ty
 refine ⟨T, id, pa, slot, hty, h1, h2, ?_⟩
 have hA:=ha cpos pins s1 σ H1 _ I1 q1
 rw [hs] at hA ⊢
 refine Calls.callWith_builtin (by show (false || (backTo cpos (starEach es X.env)).any (·.1)) = false; rw [hplain] <;> rfl) (Calls.evalArgs_plain ?_)
 exact thn hA fun us s2 ⟨vs, H2, I2, r2, q2⟩ => hm pins s2 σ H2 x vs v us Q I2 r1 r2 q2
/- xs.append(e), list.index on a module's tuple .. are MtR facts of 06m -/
end
end L2
namespace L2
open PySem PySem.Spec PyProof.Rows
noncomputable def MtM (X : Cx) (id : String) (r : V → List V → Hp → VK → Prop) : Prop :=
 ∀ (pins : List (Addr × Obj)) (s : Shared) (σ : St) (H : Hp) (x : V) (xs : List V) (v : Value) (us : List Value) (Q : VK), Inv X pins σ H s → RelV x v → Vals xs us → r x xs H Q →
  wpAny (model X.prog X.w) X.A (call (.builtin id) (v :: us)) (EP X pins σ Q) X.xe s
theorem Vals.one : ∀ {x : V} {us : List Value}, Vals [x] us → ∃ u, us = [u] ∧ RelV x u
 | _, _, .cons r .nil => ⟨_, rfl, r⟩
theorem Vals.rep {xs : List V} {us : List Value} (h : Vals xs us) : ∀ k : Nat, Vals (List.replicate k xs).flatten (List.replicate k us).flatten
 | 0 => .nil
 | k + 1 => by
  rw [List.replicate_succ, List.replicate_succ, List.flatten_cons, List.flatten_cons]
  exact Vals.append h (Vals.rep h k)
theorem foldl_rep (its : List Value) : ∀ (k : Nat) (acc : List Value),
  List.foldl (fun x1 x2 => x1 ++ x2) acc.toArray (List.replicate k its.toArray) = (acc ++ (List.replicate k its).flatten).toArray
 | 0, acc => by simp
 | k + 1, acc => by
  have e : acc.toArray ++ its.toArray = (acc ++ its).toArray:=by simp
  have e2 : (acc ++ its) ++ (List.replicate k its).flatten = acc ++ (List.replicate (k + 1) its).flatten:=by
   rw [List.replicate_succ, List.flatten_cons, List.append_assoc]
  rw [← e2, ← foldl_rep its k (acc ++ its), ← e, List.replicate_succ, List.foldl_cons]
section
variable {X : Cx} {pins : List (Addr × Obj)} {σ : St} {H : Hp} {s : Shared} {l b : Addr} {xs ys zs : List V}
theorem Inv.lset {its its' : List Value} {n : Nat} {f : Array Value → Array Value} {t' : Nat} (I : Inv X pins σ H s) (hH : H l = some (.lst xs))
  (e : s.heap.get? l = some { cls := .type "list", data := .seq its.toArray n }) (hf : f its.toArray = its'.toArray) (hv : Vals ys its') (hz : ys.length ≤ sizeLine) :
  Inv X pins σ (upd H l (.lst ys)) { s with heap:=s.heap.update l (Obj.mapSeq f), toks:=t' }:=by
 have q:=PySem.IsL.update e f
 rw [hf] at q
 refine I.write (x:=l) (e:=l) (by rw [hH]; exact trivial) (.inl rfl) (fun b' u hb hu => (Heap.get?_update_other s.heap (Obj.mapSeq f) (Ne.symm hb)).trans hu) ⟨_, q⟩ ?_
 exact ⟨hz, its', _, hv, q⟩
theorem Inv.lnew {its : List Value} {t' : Nat} (I : Inv X pins σ H s) (hv : Vals ys its) (hz : ys.length ≤ sizeLine) :
  Inv X pins σ (upd H s.heap.objs.size (.lst ys)) { s with heap := s.heap.push { cls := .type "list", data := .seq its.toArray }, toks := t' } :=
 I.laid (fun _ _ q => Heap.get?_push_of_some _ q) (Nat.le_refl _) ⟨hz, its, 0, hv, Heap.get?_push_size _ rfl⟩
theorem Inv.fresh (I : Inv X pins σ H s) : H s.heap.objs.size = none:=I.hok.fresh (Nat.le_refl _)
theorem Inv.lstM (I : Inv X pins σ H s) (hH : H l = some (.lst xs)) : xs.length ≤ sizeLine ∧ ∃ (its : List Value) (n : Nat), Vals xs its ∧ xs.length = its.length ∧ s.heap.get? l = some { cls := .type "list", data := .seq its.toArray n } := by
 obtain ⟨z, its, n, r, e⟩:=I.hok l _ hH
 exact ⟨z, its, n, r, r.length, e⟩
end
section
variable {X : Cx}
noncomputable def rAppend : V → List V → Hp → VK → Prop:=fun x vs H Q => ∃ l xs y, x = .ref l ∧ vs = [y] ∧ H l = some (.lst xs) ∧ xs.length < sizeLine ∧ Q .non (upd H l (.lst (xs ++ [y])))
theorem mt_append : MtM X "list.append" rAppend := by
 intro pins s σ H x vs v us Q I rx rv h
 obtain ⟨l, xs, y, rfl, rfl, hH, hz, q⟩:=h
 cases rx
 obtain ⟨u, rfl, ru⟩:=rv.one
 obtain ⟨z, its, n, r, hl, e⟩:=I.lstM hH
 refine call_meets F.slot_list_append ⟨_, e, rfl⟩ F.entry_list_append (F.args_list_append_2 _ _) (PySem.list_append l its.toArray n u (by rw [List.size_toArray]; omega)) ⟨e, ?_⟩
 refine ⟨.non, _, I.lset (its':=its ++ [u]) hH e (by simp) (r.append (.cons ru .nil)) ?_, rfl, q⟩
 rw [List.length_append, List.length_singleton]
 omega
noncomputable def rCat : R2:=fun x y H Q => ∃ l b xs zs, x = .ref l ∧ y = .ref b ∧ H l = some (.lst xs) ∧ H b = some (.lst zs) ∧ xs.length + zs.length ≤ sizeLine ∧ ∀ p, H p = none → Q (.ref p) (upd H p (.lst (xs ++ zs)))
theorem op_cat : OpR X (binaryOp .Add) rCat:=by
 intro pins s σ H x y v u Q I rx ry h
 obtain ⟨l, b, xs, zs, rfl, rfl, hH, hB, hz, q⟩:=h
 cases rx
 cases ry
 obtain ⟨z, its, n, r, hl, e⟩:=I.lstM hH
 obtain ⟨z2, its2, n2, r2, hl2, e2⟩:=I.lstM hB
 refine PySem.P.add_list e e2 ?_ (by rw [List.size_toArray, List.size_toArray]; omega)
 have ea : its.toArray ++ its2.toArray = (its ++ its2).toArray:=by simp
 rw [ea]
 exact ⟨.ref _, _, I.lnew (t':=s.toks) (r.append r2) (by rw [List.length_append]; omega), rfl, q _ I.fresh⟩
theorem len_rep {α : Type} (xs : List α) (k : Nat) : (List.replicate k xs).flatten.length = k * xs.length:=by
 induction k with
 | zero => simp
 | succ k ih => rw [List.replicate_succ, List.flatten_cons, List.length_append, ih, Nat.succ_mul, Nat.add_comm]
end
section
variable {prog : Program} {w : World} {A : Around} {E : Value → Shared → Prop} {s : Shared}
end
section
variable {X : Cx}
end
end L2
namespace Att
open PySem PySem.W PySem.Calls PyProof.Rows
theorem ints_of_wellAll {P : Params} {h : Heap} : ∀ (ns : List Int) (vs : List Value), WellAll P h vs (ns.map WData.int) → IntsAre vs ns:=by
 intro ns
 induction ns with
 | nil =>
  intro vs w
  rw [List.map_nil] at w
  cases w
  exact .nil
 | cons n ns ih =>
  intro vs w
  rw [List.map_cons] at w
  cases w with
  | cons a b =>
   cases a
   exact .cons _ _ (ih _ b)
theorem script_of {l : OpenLaw} {n : Nat} (hn : l.most = some n) {P : Params} {h : Heap} {args : List WData} {vals : List Value}
  (hpre : l.row.toRowW.claim.pre args = true) (hwl : WellAll P h vals args) :
  ∃ a vs ns, vals = [Value.ref a] ∧ args = [WData.list (ns.map WData.int)] ∧ h.get? a = some { cls := .type "list", data := .seq vs.toArray } ∧ IntsAre vs ns ∧ ns.length ≤ n := by
 have hsh : WShape.hasAll [] args [.list .int] = true:=(pre_splitW hpre).1
 have hc : l.pre.holds [] { args:=args } = true:=(pre_splitW hpre).2
 obtain ⟨d, r, rfl, h1, h2⟩:=hasAllW_cons hsh
 obtain rfl:=hasAllW_nil h2
 obtain ⟨xs, rfl, h3⟩:=hasW_list h1
 obtain ⟨ns, rfl⟩:=items_int h3
 have hlen : ns.length ≤ n:=by
  unfold OpenLaw.pre at hc
  have h4 : (WTm.not (.lt (.lit (.int (n : Int))) (.len (.arg 0)))).holds [] { args:=[.list (ns.map .int)] } = true:=by
   have h4:=(holds_andW hc).1
   rw [hn] at h4
   exact h4
  have h5:=condW_of h4 (w_not (w_lt w_lit (w_len_list (w_arg rfl))))
  rw [List.length_map] at h5
  refine Nat.le_of_not_lt fun q => ?_
  have q' : (n : Int) < ((ns.length : Nat) : Int):=by omega
  first
   | (rw [decide_eq_true q'] at h5; exact absurd h5 (by decide))
   | (simp at h5; omega)
 cases hwl with
 | cons w1 w2 =>
  cases w2
  cases w1 with
  | list ho hall => exact ⟨_, _, ns, rfl, rfl, ho, ints_of_wellAll ns _ hall, hlen⟩
theorem post_true (l : OpenLaw) (args : List WData) : l.row.toRowW.claim.post args (.bool true) args = true :=
 postW_of (r:=l.row.toRowW) (X:=(true == true))
  (show WShape.has [] (.bool true) .bool = true by first | rfl | decide | simp [WShape.has, WShape.arms, WShape.armsAll])
  (show (WTm.eq .res (.lit (.bool true))).value [] { args:=args, res:=some (.bool true), after:=args } = some (.bool (true == true)) from w_eq_bool (w_res rfl) w_lit) rfl
theorem attach_call {l : OpenLaw} {n : Nat} {q : Program} {loose : List Str} {XP : (Str → Option Value) → Heap → Prop} {YP : World → Heap → Prop} {d : DefRec}
  (hn : l.most = some n) (hdf : d.params.defaults = [])
  (call : ∀ (w : World) (s₀ s₁ : Shared) (mg mb : Str → Option Value) (fa : Addr) (o : Obj) (pm cd doc : Value) (a : Addr) (vs : List Value) (ns : List Int),
   Ground q loose [] XP w s₀ mg mb s₁.heap → YP w s₁.heap →
   s₁.heap.get? fa = some o → o.data = .func (docDef d.name d.params d.body d.scope pm cd doc) → s₁.heap.CodeRec cd d.name → mg d.name = some (.ref fa) →
   s₁.heap.get? a = some { cls := .type "list", data := .seq vs.toArray } → IntsAre vs ns → ns.length ≤ n → s₁.gens = #[] →
   codeAny (model l.prog w) callerA (.call (.ref fa) ⟨[.ref a], []⟩) (fun r s' => r = .ok (.ret (.bool true)) ∧ OldK s₁.heap s'.heap ∧ s'.os = s₁.os ∧ AllBare s'.gens) s₁) :
  WalkO q loose XP YP l.row.toRowW d [] (fun f vs => PySem.call f vs):=by
 intro w s₀ s₁ mg mb G Y fa o pm cd doc dV kV ho hd hcd hD hmg hg args vals as hpre hlay hrd hwl hlo
 obtain rfl : dV = .none:=Dflts.none hD hdf
 obtain rfl : kV = .none:=Dflts.noKw hD
 obtain ⟨a, vs, ns, rfl, rfl, hobj, hints, hlen⟩:=script_of hn hpre hwl
 refine enter_call (codeAny_mono (call w s₀ s₁ mg mb fa o pm cd doc a vs ns G Y ho (fd_plain hd) hcd hmg hobj hints hlen hg) fun r s' hq => ?_)
 obtain ⟨rfl, h2, h3, h4⟩:=hq
 exact ⟨.inl ⟨.bool true, .bool true, [], rfl, fun _ => rfl, .bool true, post_true l _, fun _ => ⟨List.Pairwise.nil, fun _ hm => (nomatch hm)⟩⟩, h2, h3, h4⟩
section
variable {prog : Program} {w : World} {A : Around} {E : Value → Shared → Prop} {s : Shared} {K : Frag}
end
end Att
namespace L2
open PySem PySem.Spec PyProof.Rows
theorem vals_ints : ∀ {vs : List Value} {ns : List Int}, IntsAre vs ns → Vals (ns.map V.int) vs
 | _, _, .nil => .nil
 | _, _, .cons n t h => .cons ⟨t, rfl⟩ (vals_ints h)
noncomputable def Only (H : Hp) : Prop:=∀ b, H b = none ∨ ∃ o xs, H b = some (.frz o (.lst xs))
theorem law_call {P : Program} {w : World} {K : PySem.W.Frag} {mg mb : Str → Option Value} {CX : CXT} {k : Nat} {fa a : Addr} {fd : FuncData} {x : Str} {sp : Sp} {s₁ : Shared} {vs : List Value} {ns : List Int}
  (KX : K.In s₁.heap) (hns : s₁.heap.Ns mainGlobals mg) (hb : s₁.heap.Ns builtinsNs mb) (hbb : ∀ x : Str, x ≠ "__name__" → mb x = bootBuiltins x) (hlim : s₁.heap.NoLimit) (hg : s₁.gens = #[])
  (ha : s₁.heap.get? a = some { cls := .type "list", data := .seq vs.toArray }) (hi : IntsAre vs ns) (hl : ns.length ≤ sizeLine) (hr : Room k callerA)
  (F : ∀ base : Heap, K.In base → base.Ns mainGlobals mg → FnOk P w K mg base CX k fa fd [x] sp) (hbind : ∀ (s : Shared) (u : Value), BindsTo s fd ⟨[u], []⟩ [(x, u)])
  (hsp : ∀ H : Hp, Only H → SqL K H a (ns.map V.int) → sp [.ref a] H (fun v _ => v = .bl true) fun _ _ _ => False)
  (hCX : ∀ H e s', CX [] H s₁ (fun _ _ _ => False) e s' → False) :
  codeAny (model P w) callerA (.call (.ref fa) ⟨[.ref a], []⟩) (fun r s' => r = .ok (.ret (.bool true)) ∧ OldK s₁.heap s'.heap ∧ s'.os = s₁.os ∧ AllBare s'.gens) s₁:=by
 have rv:=vals_ints hi
 have lenV:=hi.length
 have core : ∀ H : Hp, Only H → SqL K H a (ns.map V.int) → HOk P w H s₁.heap → (∀ b, H b ≠ none → b = a) → (H a ≠ none → K.lookup a = none) →
   codeAny (model P w) callerA (.call (.ref fa) ⟨[.ref a], []⟩) (fun r s' => r = .ok (.ret (.bool true)) ∧ OldK s₁.heap s'.heap ∧ s'.os = s₁.os ∧ AllBare s'.gens) s₁:=by
  intro H hO hS hok hA hK
  have base_of : ∀ {b : Addr} {o : Obj}, s₁.heap.get? b = some o → H b = none → (hidT s₁.heap H).get? b = some o:=fun e n => hidT_get e n
  have noA : ∀ {b : Addr} {o : Obj} {es : Array DictEntry} {ep : Nat}, s₁.heap.get? b = some o → o.data = .dict es ep → H b = none:=fun {b o es ep} e d => by
   cases q : H b with
   | none => rfl
   | some u =>
    have e' : b = a:=hA b (by rw [q]; simp)
    subst e'
    rw [ha] at e; cases e
    have d' : Data.seq vs.toArray _ = Data.dict es ep:=d
    cases d'
  have nsK : ∀ {b : Addr} {m : Str → Option Value}, s₁.heap.Ns b m → (hidT s₁.heap H).Ns b m:=fun {b m} ⟨o, es, ep, e, d, r⟩ => ⟨o, es, ep, base_of e (noA e d), d, r⟩
  have hKb : K.In (hidT s₁.heap H):=fun b o e => base_of (KX b o e) (by
   cases q : H b with
   | none => rfl
   | some u =>
    have e' : b = a:=hA b (by rw [q]; simp)
    subst e'
    rw [hK (by rw [q]; simp)] at e; cases e)
  have hM : Mod K mg (hidT s₁.heap H):=⟨hKb, nsK hns, ⟨mb, nsK hb, hbb⟩, let ⟨mc, h1, h2⟩:=hlim; ⟨mc, nsK h1, h2⟩⟩
  have e0 : Env0 P w K mg (hidT s₁.heap H) callerA [] s₁ H:=⟨rfl, hM, fun b o e => of_hidT e, Nat.le_of_eq (hidT_size _ _), trivial, fun b hb => absurd (show b ∈ ([] : List Addr) from hb) (by simp), hok, .of_eq hg⟩
  refine codeAny_mono ((F _ hKb (nsK hns)).run callerA [] s₁ H ⟨[.ref a], []⟩ [.ref a] [.ref a] _ _ hr e0 (hbind s₁ (.ref a)) (.cons rfl .nil) (hsp H hO hS)) fun r s' h => ?_
  cases r with
  | error e => exact (hCX H e s' h).elim
  | ok fl =>
   cases fl with
   | next => exact False.elim h
   | brk => exact False.elim h
   | cont => exact False.elim h
   | ret u =>
    obtain ⟨v, H', os, bare, un, hok', r', q⟩:=h
    have q' : v = .bl true:=q
    subst q'
    obtain rfl : u = Value.bool true:=r'
    refine ⟨rfl, OldK.of_keep fun b o e => ?_, os, bare⟩
    cases q : H b with
    | none => exact un.keep b o e q (by intro z; exact absurd (show b ∈ ([] : List Addr) from z) (by simp)) (by simp)
    | some u =>
     rcases hO b with z | ⟨ob, xs, z⟩
     ·rw [q] at z; cases z
     ·have z2:=un.frzs b ob _ z
      obtain ⟨e1, _⟩:=hok b _ z
      obtain ⟨e2, _⟩:=hok' b _ z2
      rw [e] at e1; cases e1
      exact e2
 cases hk : K.lookup a with
 | some o =>
  have e:=KX a o hk
  rw [ha] at e
  cases e
  refine core (fun _ => none) (fun _ => .inl rfl) (.inr ⟨_, vs.toArray, _, hk, rfl, rfl, rfl, by rw [List.size_toArray, lenV]; exact hl, by simpa using rv⟩) (fun b u z => by have z' : (none : Option HO) = some u:=z; cases z') (fun b z => absurd rfl z) fun z => absurd rfl z
 | none =>
  refine core (fun b => if b = a then some (.frz { cls := .type "list", data := .seq vs.toArray } (.lst (ns.map V.int))) else none) (fun b => ?_) (.inl (.inr ⟨{ cls := .type "list", data := .seq vs.toArray }, if_pos rfl⟩)) (fun b u z => ?_) (fun b z => ?_) fun _ => hk
  ·by_cases hb : b = a
   ·exact .inr ⟨_, _, if_pos hb⟩
   ·exact .inl (if_neg hb)
  ·by_cases hb : b = a
   ·have z':=(if_pos hb).symm.trans z
    cases z'
    subst hb
    exact ⟨ha, by rw [List.length_map]; exact hl, vs, _, rv, ha⟩
   ·have z':=(if_neg hb).symm.trans z
    cases z'
  ·by_cases hb : b = a
   ·exact hb
   ·exact absurd (if_neg hb) z
end L2
namespace L2
open PySem PySem.Spec PyProof.Rows
theorem walk_of {l : PySem.W.OpenLaw} {n k : Nat} {q : Program} {loose : List Str} {XP : (Str → Option Value) → Heap → Prop} {YP : World → Heap → Prop} {d : DefRec} {K : Params → PySem.W.Frag} {CX : World → CXT} {sp : World → Sp} {x : Str}
  (hn : l.most = some n) (hn2 : n ≤ sizeLine) (hdf : d.params.defaults = []) (hr : Room k callerA)
  (hY : ∀ (w : World) (h : Heap), YP w h → (K w.params).In h)
  (F : ∀ (w : World) (mg : Str → Option Value) (fa : Addr) (h : Heap), (K w.params).In h → h.Ns mainGlobals mg → mg d.name = some (.ref fa) →
   ∃ fd : FuncData, (∀ (s : Shared) (u : Value), BindsTo s fd ⟨[u], []⟩ [(x, u)]) ∧
    ∀ base : Heap, (K w.params).In base → base.Ns mainGlobals mg → FnOk l.prog w (K w.params) mg base (CX w) k fa fd [x] (sp w))
  (hsp : ∀ (w : World) (H : Hp) (a : Addr) (ns : List Int), ns.length ≤ n → Only H → SqL (K w.params) H a (ns.map V.int) → sp w [.ref a] H (fun v _ => v = .bl true) fun _ _ _ => False)
  (hCX : ∀ (w : World) (H : Hp) (s : Shared) (e : Value) (s' : Shared), CX w [] H s (fun _ _ _ => False) e s' → False) :
  PySem.W.WalkO q loose XP YP l.row.toRowW d [] (fun f vs => PySem.call f vs):=by
 refine Att.attach_call hn hdf fun w s₀ s₁ mg mb fa o pm cd doc a vs ns G Y ho hd hcd hmg hobj hints hlen hg => ?_
 have KX:=hY w _ Y
 obtain ⟨fd, hb, hF⟩:=F w mg fa _ KX G.T.g hmg
 exact law_call KX G.T.g G.T.b G.T.builtins G.T.nolimit hg hobj hints (Nat.le_trans hlen hn2) hr hF hb (fun H hO hS => hsp w H a ns hlen hO hS) fun H e s' => hCX w H s₁ e s'
end L2
/- THE LAST THEOREM (shape; LID, My.* are yours):
   My.Adr: a structure of the addresses that your layer names (classes, functions); My.Txt K t: a structure (Prop) of the equations over K;
   My.txt_mk : {K} {implicit addresses ..} (e1 : nsIn K mainGlobals "law" = some (some (.ref f))) (e2 : K.lookup f = some ⟨oc, od, .func (fnOf "law" "law" params body scope dV kV doc pm an cdv ct), sl⟩) (e3 : codeIn K cdv "law" = true) .. : ∃ t, My.Txt K t
set_option maxRecDepth 100000 in
set_option maxHeartbeats 0 in
theorem PySem.Challenge.cw_LID_holds : PySem.Challenge.rw_LID.Holds := by
 w_on; o_law; k_head; (case hw => w_witness2)
 k_fill
 refine L2.walk_of (l := PySem.Challenge.rw_LID) (n := 63) (k := 40) (x := "script") (CX := fun w => ..) (sp := fun _ => My.sp_law) rfl (by decide) rfl ⟨rfl, by decide, by decide⟩ (fun w h Y => PySem.W.kIn_of Y) ?F ?S ?C
 case F =>
  intro w mg fa h KX G hmg
  have T : ∃ t, My.Txt (L2.KOf KX) t:=by
   dsimp only [L2.KOf]                          -- K must stand as «<heap const> w.params» for k_is
   refine' My.txt_mk ?e1 ?e2 ?e3 ..
   (case e1 => PySem.W.k_is)                    -- in the order: a name -> its address -> its object -> its parts
   (case e2 => PySem.W.k_is)
   ..
  obtain ⟨t, T⟩:=T
  have e0:=hmg.symm.trans (PySem.W.mg_of KX G T.law)
  cases e0                                       -- fa is the law's own address
  exact ⟨_, fun s u => .of_eq rfl, fun base kb nb => My.law_fn T kb nb⟩     -- if «.of_eq rfl» comes too early: refine' ⟨_, ?b, fun base kb nb => My.law_fn T kb nb⟩; exact fun s u => .of_eq rfl
 case S => exact fun w H a ns hl hO hS => ..
 case C => exact ..
(the tactic k_is has no namespace: write k_is) -/
namespace L2
open PySem PySem.Spec PyProof.Rows
noncomputable def inClass (s : Stmt) (j : Nat) : Stmt:=match s with
 | .ClassDef _ _ _ body _ _ _ _ _ _ _ => body.getD j (.Pass ⟨0, 0, 0, 0⟩)
 | _ => .Pass ⟨0, 0, 0, 0⟩
noncomputable def defArgs (s : Stmt) : Arguments:=match s with
 | .FunctionDef _ a _ _ _ _ _ _ _ _ => a
 | _ => { posonlyargs:=[], args:=[], vararg:=none, kwonlyargs:=[], kw_defaults:=[], kwarg:=none, defaults:=[] }
noncomputable def defBody (s : Stmt) : List Stmt:=match s with
 | .FunctionDef _ _ b _ _ _ _ _ _ _ => b
 | _ => []
noncomputable def defScope (s : Stmt) : Scope:=match s with
 | .FunctionDef _ _ _ _ _ _ sc _ _ _ => sc
 | _ => { kind:=.function, names:=[], isGenerator:=false, isCoroutine:=false }
noncomputable abbrev CX0 : CXT:=fun _ _ _ _ _ _ => False
noncomputable abbrev E0 : XK:=fun _ _ _ => False
structure Fun (K : PySem.W.Frag) (x qual : Str) (st : Stmt) (f : Addr) (fd : FuncData) : Prop where
 ex : ∃ (oc : Value) (od : Option Addr) (kV doc pm : Value) (an : Option Addr) (cdv ct : Value) (osl : Array (Option Value)),
  fd = PySem.W.fnOf x qual (defArgs st) (defBody st) (defScope st) .none kV doc pm an cdv ct ∧ K.lookup f = some ⟨oc, od, .func fd, osl⟩ ∧ PySem.W.codeIn K cdv qual = true
 kp : PySem.W.keepIn K (.ref f) = true
section
variable {P : Program} {w : World} {K : PySem.W.Frag} {mg : Str → Option Value} {base : Heap}
theorem Fun.ok {x qual : Str} {st : Stmt} {f : Addr} {fd : FuncData} {N ps : List Str} {k : Nat} {sp : Sp} (F : Fun K x qual st f fd) (S : FnScope N ps (defScope st)) (len : ∀ vs H Q E, sp vs H Q E → vs.length = ps.length)
  (hbody : ∀ (cdv : Value) (A : Around) (outer : List Env) (s : Shared) (H : Hp) (vs : List V) (Q : VK) (E : XK), Room k (A.deeper (envOfC qual (defScope st) s.heap.objs.size f cdv)) → sp vs H Q E →
   ∃ t, PSs (cxOf CX0 P w K mg base N qual (defScope st) f cdv A outer s H E).nox (defBody st) t ∧ t { nx:=fun _ H' => Q .non H', rt:=Q } (start N vs) H) : FnOk P w K mg base CX0 (k + 1) f fd ps sp:=by
 obtain ⟨oc, od, kV, doc, pm, an, cdv, ct, osl, rfl, lk, hcd⟩:=F.ex
 refine fn_of lk hcd S len fun A outer s H vs Q E hr hsp => ?_
 obtain ⟨t, h, q⟩:=hbody cdv A outer s H vs Q E hr hsp
 exact ⟨t, h.nox, q⟩
theorem Fun.binds {x qual : Str} {st : Stmt} {f : Addr} {fd : FuncData} {ps : List Str} (F : Fun K x qual st f fd)
  (h : ∀ (kV doc pm : Value) (an : Option Addr) (cdv ct : Value) (us : List Value), us.length = ps.length → bindArgs (PySem.W.fnOf x qual (defArgs st) (defBody st) (defScope st) .none kV doc pm an cdv ct) ⟨us, []⟩ = pure (ps.zip us)) : Binds K fd ps []:=by
 obtain ⟨oc, od, kV, doc, pm, an, cdv, ct, osl, rfl, lk, hcd⟩:=F.ex
 exact .all (h kV doc pm an cdv ct)
theorem fun_mk {x qual : Str} {st : Stmt} {f : Addr} {oc : Value} {od an : Option Addr} {osl : Array (Option Value)} {kV doc pm cdv ct : Value} (l : K.lookup f = some ⟨oc, od, .func (PySem.W.fnOf x qual (defArgs st) (defBody st) (defScope st) .none kV doc pm an cdv ct), osl⟩)
  (c : PySem.W.codeIn K cdv qual = true) (k : PySem.W.keepIn K (.ref f) = true) : Fun K x qual st f (PySem.W.fnOf x qual (defArgs st) (defBody st) (defScope st) .none kV doc pm an cdv ct):=⟨⟨oc, od, kV, doc, pm, an, cdv, ct, osl, rfl, l, c⟩, k⟩
end
section
variable {X : Cx}
end
end L2
section
namespace DL
open PySem PySem.Spec PyProof.Rows L2
inductive D where
 | non | bl (b : Bool) | int (i : Int) | str (x : Str) | tup (xs : List D) | lst (xs : List D) | scr (xs : List D) | res (i : Nat) | exv (C : Addr)
inductive S where
 | lst (xs : List D)
 | ins (C : Addr) (fs : List (Str × D))
 | dct (kvs : List (D × D))
 | dtt (kvs : List (D × D))
noncomputable abbrev Sto:=List S
noncomputable abbrev Ev:=List (Option D)
inductive Out (α : Type) where
 | ok (a : α) (st : Sto)
 | exc (c : Addr) (st : Sto)
 | bad
noncomputable def Out.bind {α β : Type} (r : Out α) (k : α → Sto → Out β) : Out β:=match r with
 | .ok a st => k a st
 | .exc c st => .exc c st
 | .bad => .bad
theorem nodup_at {α : Type} {l : List α} (hl : l.Nodup) {i j : Nat} {x : α} (a : l[i]? = some x) (b : l[j]? = some x) : i = j:=by
 obtain ⟨h1, e1⟩:=List.getElem?_eq_some_iff.mp a
 obtain ⟨h2, e2⟩:=List.getElem?_eq_some_iff.mp b
 have hp:=List.pairwise_iff_getElem.mp hl
 rcases Nat.lt_trichotomy i j with h | h | h
 ·exact absurd (e1.trans e2.symm) (hp i j h1 h2 h)
 ·exact h
 ·exact absurd (e2.trans e1.symm) (hp j i h2 h1 h)
noncomputable def ExcO (a C : Addr) : Heap → Prop:=fun h => ∃ o vs, h.get? a = some o ∧ o.cls = .ref C ∧ o.data = .fields vs
theorem ExcO.inj {a C C' : Addr} {h : Heap} (x : ExcO a C h) (y : ExcO a C' h) : C = C':=by
 obtain ⟨o, _, e, c, _⟩:=x
 obtain ⟨o', _, e', c', _⟩:=y
 rw [e] at e'
 cases e'
 rw [c] at c'
 exact Value.ref.inj c'
section
variable (K : PySem.W.Frag)
noncomputable def SqF (H : Hp) (a : Addr) (vs : List V) : Prop :=
 (∃ o, H a = some (.frz o (.lst vs))) ∨ ∃ (o : Obj) (its : Array Value) (n : Nat), K.lookup a = some o ∧ o.cls = .type "list" ∧ o.dict = none ∧ o.data = .seq its n ∧ its.size ≤ sizeLine ∧ Vals vs its.toList
mutual
noncomputable def Rep (O : List Addr) (H : Hp) : D → V → Prop
 | .non, v => v = .non
 | .bl b, v => v = .bl b
 | .int i, v => v = .int i
 | .str x, v => v = .str x
 | .tup ds, v => ∃ a vs, v = .ref a ∧ H a = some (.tup vs) ∧ Reps O H ds vs
 | .lst ds, v => ∃ a vs, v = .ref a ∧ a ∉ O ∧ H a = some (.lst vs) ∧ Reps O H ds vs
 | .scr ds, v => ∃ a vs, v = .ref a ∧ SqF K H a vs ∧ Reps O H ds vs
 | .res i, v => ∃ a, v = .ref a ∧ O[i]? = some a
 | .exv C, v => ∃ a, v = .ref a ∧ H a = some (.ext (ExcO a C))
noncomputable def Reps (O : List Addr) (H : Hp) : List D → List V → Prop
 | [], vs => vs = []
 | d :: ds, vs => ∃ v r, vs = v :: r ∧ Rep O H d v ∧ Reps O H ds r
end
noncomputable def Flds (O : List Addr) (H : Hp) : List (Str × D) → List (Str × V) → Prop
 | [], vs => vs = []
 | (x, d) :: ds, vs => ∃ v r, vs = (x, v) :: r ∧ Rep K O H d v ∧ Flds O H ds r
noncomputable def keyD : D → Option Key
 | .int i => some (.inl i)
 | .str x => some (.inr x)
 | _ => none
noncomputable def keyDs : List D → Option (List Key)
 | [] => some []
 | d :: ds => match keyD d, keyDs ds with
  | some k, some ks => some (k :: ks)
  | _, _ => none
noncomputable def keyT : D → Option (List Key)
 | .tup ds => keyDs ds
 | _ => none
noncomputable def Kvs {κ : Type} (f : D → Option κ) (O : List Addr) (H : Hp) : List (D × D) → List (κ × V) → Prop
 | [], vs => vs = []
 | (k, d) :: ds, vs => ∃ q v r, vs = (q, v) :: r ∧ f k = some q ∧ Rep K O H d v ∧ Kvs f O H ds r
noncomputable def RepS (O : List Addr) (H : Hp) (a : Addr) : S → Prop
 | .dct ds => ∃ vs, H a = some (.dK vs) ∧ Kvs K keyD O H ds vs
 | .dtt ds => ∃ vs, H a = some (.dT vs) ∧ Kvs K keyT O H ds vs
 | .lst ds => ∃ vs, H a = some (.lst vs) ∧ Reps K O H ds vs
 | .ins C fs => ∃ dx vfs, H a = some (.ins C dx vfs) ∧ Flds K O H fs vfs
structure WR (O : List Addr) (H : Hp) (st : Sto) : Prop where
 len : O.length = st.length
 nd : O.Nodup
 at_ : ∀ (i : Nat) (a : Addr) (s : S), O[i]? = some a → st[i]? = some s → RepS K O H a s
structure Keep (O : List Addr) (H : Hp) (O' : List Addr) (H' : Hp) : Prop where
 tup : ∀ a vs, H a = some (.tup vs) → H' a = some (.tup vs)
 lst : ∀ a vs, a ∉ O → H a = some (.lst vs) → a ∉ O' ∧ H' a = some (.lst vs)
 frz : ∀ a vs, SqF K H a vs → SqF K H' a vs
 pre : ∀ (i : Nat) (a : Addr), O[i]? = some a → O'[i]? = some a
 exv : ∀ a C, H a = some (.ext (ExcO a C)) → H' a = some (.ext (ExcO a C))
end
section
variable {K : PySem.W.Frag} {O O1 O2 O' : List Addr} {H H1 H2 H' : Hp} {st st' : Sto}
theorem SqF.sq {a : Addr} {vs : List V} (h : SqF K H a vs) : SqL K H a vs:=by
 rcases h with ⟨o, h⟩ | h
 ·exact .inl (.inr ⟨o, h⟩)
 ·exact .inr h
theorem SqF.of {a : Addr} {vs : List V} (h : SqL K H a vs) (hn : H a ≠ some (.lst vs)) : SqF K H a vs:=by
 rcases h with (h | ⟨o, h⟩) | h
 ·exact absurd h hn
 ·exact .inl ⟨o, h⟩
 ·exact .inr h
theorem Keep.refl : Keep K O H O H:=⟨fun _ _ h => h, fun _ _ n h => ⟨n, h⟩, fun _ _ h => h, fun _ _ h => h, fun _ _ h => h⟩
theorem Keep.trans (a : Keep K O H O1 H1) (b : Keep K O1 H1 O2 H2) : Keep K O H O2 H2 :=
 ⟨fun x vs h => b.tup x vs (a.tup x vs h), fun x vs n h => let ⟨n1, h1⟩:=a.lst x vs n h; b.lst x vs n1 h1, fun x vs h => b.frz x vs (a.frz x vs h), fun i x h => b.pre i x (a.pre i x h), fun x C h => b.exv x C (a.exv x C h)⟩
mutual
theorem Rep.mono (k : Keep K O H O' H') : ∀ (d : D) (v : V), Rep K O H d v → Rep K O' H' d v
 | .non, _, h => by unfold Rep at h ⊢; exact h
 | .bl _, _, h => by unfold Rep at h ⊢; exact h
 | .int _, _, h => by unfold Rep at h ⊢; exact h
 | .str _, _, h => by unfold Rep at h ⊢; exact h
 | .tup ds, v, h => by
  unfold Rep at h ⊢
  obtain ⟨a, vs, e, q, r⟩:=h
  exact ⟨a, vs, e, k.tup _ _ q, Reps.mono k ds vs r⟩
 | .lst ds, v, h => by
  unfold Rep at h ⊢
  obtain ⟨a, vs, e, n, q, r⟩:=h
  exact ⟨a, vs, e, (k.lst _ _ n q).1, (k.lst _ _ n q).2, Reps.mono k ds vs r⟩
 | .scr ds, v, h => by
  unfold Rep at h ⊢
  obtain ⟨a, vs, e, q, r⟩:=h
  exact ⟨a, vs, e, k.frz _ _ q, Reps.mono k ds vs r⟩
 | .res i, v, h => by
  unfold Rep at h ⊢
  obtain ⟨a, e, q⟩:=h
  exact ⟨a, e, k.pre _ _ q⟩
 | .exv C, v, h => by
  unfold Rep at h ⊢
  obtain ⟨a, e, q⟩:=h
  exact ⟨a, e, k.exv _ _ q⟩
theorem Reps.mono (k : Keep K O H O' H') : ∀ (ds : List D) (vs : List V), Reps K O H ds vs → Reps K O' H' ds vs
 | [], _, h => by unfold Reps at h ⊢; exact h
 | d :: ds, vs, h => by
  unfold Reps at h ⊢
  obtain ⟨v, r, e, q, t⟩:=h
  exact ⟨v, r, e, Rep.mono k d v q, Reps.mono k ds r t⟩
end
theorem Kvs.mono {κ : Type} {f : D → Option κ} (k : Keep K O H O' H') : ∀ (ds : List (D × D)) (vs : List (κ × V)), Kvs K f O H ds vs → Kvs K f O' H' ds vs
 | [], _, h => by unfold Kvs at h ⊢; exact h
 | (x, d) :: ds, vs, h => by
  unfold Kvs at h ⊢
  obtain ⟨q, v, r, e, z, y, t⟩:=h
  exact ⟨q, v, r, e, z, Rep.mono k d v y, Kvs.mono k ds r t⟩
theorem Flds.mono (k : Keep K O H O' H') : ∀ (ds : List (Str × D)) (vs : List (Str × V)), Flds K O H ds vs → Flds K O' H' ds vs
 | [], _, h => by unfold Flds at h ⊢; exact h
 | (x, d) :: ds, vs, h => by
  unfold Flds at h ⊢
  obtain ⟨v, r, e, q, t⟩:=h
  exact ⟨v, r, e, Rep.mono k d v q, Flds.mono k ds r t⟩
theorem Rep.non_i {v : V} : Rep K O H .non v ↔ v = .non:=by unfold Rep; exact Iff.rfl
theorem Rep.bl_i {b : Bool} {v : V} : Rep K O H (.bl b) v ↔ v = .bl b:=by unfold Rep; exact Iff.rfl
theorem Rep.int_i {i : Int} {v : V} : Rep K O H (.int i) v ↔ v = .int i:=by unfold Rep; exact Iff.rfl
theorem Rep.str_i {x : Str} {v : V} : Rep K O H (.str x) v ↔ v = .str x:=by unfold Rep; exact Iff.rfl
theorem Rep.tup_i {ds : List D} {v : V} : Rep K O H (.tup ds) v ↔ ∃ a vs, v = .ref a ∧ H a = some (.tup vs) ∧ Reps K O H ds vs:=by unfold Rep; exact Iff.rfl
theorem Rep.lst_i {ds : List D} {v : V} : Rep K O H (.lst ds) v ↔ ∃ a vs, v = .ref a ∧ a ∉ O ∧ H a = some (.lst vs) ∧ Reps K O H ds vs:=by unfold Rep; exact Iff.rfl
theorem Rep.scr_i {ds : List D} {v : V} : Rep K O H (.scr ds) v ↔ ∃ a vs, v = .ref a ∧ SqF K H a vs ∧ Reps K O H ds vs:=by unfold Rep; exact Iff.rfl
theorem Rep.res_i {i : Nat} {v : V} : Rep K O H (.res i) v ↔ ∃ a, v = .ref a ∧ O[i]? = some a:=by unfold Rep; exact Iff.rfl
theorem Rep.exv_i {C : Addr} {v : V} : Rep K O H (.exv C) v ↔ ∃ a, v = .ref a ∧ H a = some (.ext (ExcO a C)):=by unfold Rep; exact Iff.rfl
theorem Reps.nil_i {vs : List V} : Reps K O H [] vs ↔ vs = []:=by unfold Reps; exact Iff.rfl
theorem Reps.cons_i {d : D} {ds : List D} {vs : List V} : Reps K O H (d :: ds) vs ↔ ∃ v r, vs = v :: r ∧ Rep K O H d v ∧ Reps K O H ds r:=by
 constructor
 ·intro h; unfold Reps at h; exact h
 ·intro h; unfold Reps; exact h
theorem Reps.length : ∀ {ds : List D} {vs : List V}, Reps K O H ds vs → ds.length = vs.length
 | [], _, h => by rw [Reps.nil_i] at h; subst h; rfl
 | d :: ds, vs, h => by
  obtain ⟨v, r, rfl, _, t⟩:=Reps.cons_i.mp h
  rw [List.length_cons, List.length_cons, Reps.length t]
theorem Reps.get : ∀ {ds : List D} {vs : List V} {i : Nat} {d : D}, Reps K O H ds vs → ds[i]? = some d → ∃ v, vs[i]? = some v ∧ Rep K O H d v
 | [], _, i, d, _, e => by simp at e
 | x :: ds, vs, 0, d, h, e => by
  obtain ⟨v, r, rfl, q, _⟩:=Reps.cons_i.mp h
  simp at e; subst e
  exact ⟨v, rfl, q⟩
 | x :: ds, vs, i + 1, d, h, e => by
  obtain ⟨v, r, rfl, _, t⟩:=Reps.cons_i.mp h
  obtain ⟨u, e1, q⟩:=Reps.get (i:=i) (d:=d) t (by simpa using e)
  exact ⟨u, by simpa using e1, q⟩
theorem Reps.append : ∀ {ds es : List D} {vs us : List V}, Reps K O H ds vs → Reps K O H es us → Reps K O H (ds ++ es) (vs ++ us)
 | [], _, _, _, h, k => by rw [Reps.nil_i] at h; subst h; exact k
 | d :: ds, es, vs, us, h, k => by
  obtain ⟨v, r, rfl, q, t⟩:=Reps.cons_i.mp h
  exact Reps.cons_i.mpr ⟨v, r ++ us, rfl, q, Reps.append t k⟩
theorem Reps.take : ∀ {ds : List D} {vs : List V} (n : Nat), Reps K O H ds vs → Reps K O H (ds.take n) (vs.take n)
 | ds, vs, 0, _ => by rw [List.take_zero, List.take_zero]; exact Reps.nil_i.mpr rfl
 | [], vs, n + 1, h => by rw [Reps.nil_i] at h; subst h; exact Reps.nil_i.mpr rfl
 | d :: ds, vs, n + 1, h => by
  obtain ⟨v, r, rfl, q, t⟩:=Reps.cons_i.mp h
  exact Reps.cons_i.mpr ⟨v, r.take n, rfl, q, Reps.take n t⟩
theorem Reps.drop : ∀ {ds : List D} {vs : List V} (n : Nat), Reps K O H ds vs → Reps K O H (ds.drop n) (vs.drop n)
 | ds, vs, 0, h => by rw [List.drop_zero, List.drop_zero]; exact h
 | [], vs, n + 1, h => by rw [Reps.nil_i] at h; subst h; exact Reps.nil_i.mpr rfl
 | d :: ds, vs, n + 1, h => by
  obtain ⟨v, r, rfl, q, t⟩:=Reps.cons_i.mp h
  exact Reps.drop n t
theorem Reps.set {d : D} {v : V} (q : Rep K O H d v) : ∀ {ds : List D} {vs : List V} (n : Nat), Reps K O H ds vs → Reps K O H (ds.set n d) (vs.set n v)
 | [], vs, n, h => by rw [Reps.nil_i] at h; subst h; exact Reps.nil_i.mpr rfl
 | x :: ds, vs, 0, h => by
  obtain ⟨u, r, rfl, _, t⟩:=Reps.cons_i.mp h
  exact Reps.cons_i.mpr ⟨v, r, rfl, q, t⟩
 | x :: ds, vs, n + 1, h => by
  obtain ⟨u, r, rfl, q', t⟩:=Reps.cons_i.mp h
  exact Reps.cons_i.mpr ⟨u, r.set n v, rfl, q', Reps.set q n t⟩
theorem Reps.one {d : D} {v : V} (q : Rep K O H d v) : Reps K O H [d] [v]:=Reps.cons_i.mpr ⟨v, [], rfl, q, Reps.nil_i.mpr rfl⟩
theorem Reps.rep {ds : List D} {vs : List V} (h : Reps K O H ds vs) : ∀ k : Nat, Reps K O H (List.replicate k ds).flatten (List.replicate k vs).flatten
 | 0 => by simp only [List.replicate_zero, List.flatten_nil]; exact Reps.nil_i.mpr rfl
 | k + 1 => by simp only [List.replicate_succ, List.flatten_cons]; exact Reps.append h (Reps.rep h k)
noncomputable def isS : HO → Bool
 | .lst _ => true
 | .ins _ _ _ => true
 | .dK _ => true
 | .dT _ => true
 | _ => false
theorem tup_upd {a p : Addr} {o : HO} {vs : List V} (h : H a = some (.tup vs)) (hp : H p = none ∨ ∃ o, H p = some o ∧ isS o = true) : upd H p o a = some (.tup vs):=by
 rw [upd_ne]
 ·exact h
 ·rintro rfl
  rcases hp with q | ⟨u, q, z⟩
  ·rw [q] at h; cases h
  ·rw [q] at h; cases h; cases z
theorem sqF_upd {a p : Addr} {o : HO} {vs : List V} (h : SqF K H a vs) (hp : H p = none ∨ ∃ o, H p = some o ∧ isS o = true) : SqF K (upd H p o) a vs:=by
 rcases h with ⟨ob, h⟩ | h
 ·refine .inl ⟨ob, ?_⟩
  rw [upd_ne]
  ·exact h
  ·rintro rfl
   rcases hp with q | ⟨u, q, z⟩
   ·rw [q] at h; cases h
   ·rw [q] at h; cases h; cases z
 ·exact .inr h
theorem Keep.laid {p : Addr} {o : HO} (hp : H p = none) : Keep K O H O (upd H p o) :=
 ⟨fun _ _ h => tup_upd h (.inl hp), fun a vs n h => ⟨n, by rw [upd_ne (ne_of_none h hp)]; exact h⟩, fun _ _ h => sqF_upd h (.inl hp), fun _ _ h => h, fun a C h => by rw [upd_ne (ne_of_none h hp)]; exact h⟩
theorem RepS.mono' (k : Keep K O H O' H') {a : Addr} (e : H' a = H a) : ∀ {s : S}, RepS K O H a s → RepS K O' H' a s
 | .lst ds, h => by
  obtain ⟨vs, q, r⟩:=h
  exact ⟨vs, by rw [e]; exact q, Reps.mono k _ _ r⟩
 | .ins C fs, h => by
  obtain ⟨dx, vs, q, r⟩:=h
  exact ⟨dx, vs, by rw [e]; exact q, Flds.mono k _ _ r⟩
 | .dct ds, h => by
  obtain ⟨vs, q, r⟩:=h
  exact ⟨vs, by rw [e]; exact q, Kvs.mono k _ _ r⟩
 | .dtt ds, h => by
  obtain ⟨vs, q, r⟩:=h
  exact ⟨vs, by rw [e]; exact q, Kvs.mono k _ _ r⟩
theorem RepS.some_of {a : Addr} : ∀ {s : S}, RepS K O H a s → ∃ o, H a = some o ∧ isS o = true
 | .lst ds, ⟨vs, q, _⟩ => ⟨_, q, rfl⟩
 | .ins C fs, ⟨dx, vs, q, _⟩ => ⟨_, q, rfl⟩
 | .dct ds, ⟨vs, q, _⟩ => ⟨_, q, rfl⟩
 | .dtt ds, ⟨vs, q, _⟩ => ⟨_, q, rfl⟩
theorem WR.some_of (W : WR K O H st) {i : Nat} {a : Addr} (h : O[i]? = some a) : ∃ o, H a = some o ∧ isS o = true:=by
 have hi : i < st.length:=by rw [← W.len]; exact (List.getElem?_eq_some_iff.mp h).1
 exact (W.at_ i a st[i] h (List.getElem?_eq_getElem hi)).some_of
theorem WR.ne (W : WR K O H st) {i : Nat} {a p : Addr} (h : O[i]? = some a) (hp : H p = none) : a ≠ p:=by
 rintro rfl
 obtain ⟨_, q, _⟩:=W.some_of h
 rw [hp] at q
 cases q
theorem WR.laid (W : WR K O H st) {p : Addr} {o : HO} (hp : H p = none) : WR K O (upd H p o) st :=
 ⟨W.len, W.nd, fun i a s h1 h2 => (W.at_ i a s h1 h2).mono' (Keep.laid hp) (by rw [upd_ne (W.ne h1 hp)])⟩
theorem Keep.push {p : Addr} {o : HO} (hp : H p = none) : Keep K O H (O ++ [p]) (upd H p o) :=
 ⟨fun _ _ h => tup_upd h (.inl hp), fun a vs n h => ⟨fun hm => by
   rcases List.mem_append.mp hm with q | q
   ·exact n q
   ·rw [List.mem_singleton] at q; exact ne_of_none h hp q, by rw [upd_ne (ne_of_none h hp)]; exact h⟩,
  fun _ _ h => sqF_upd h (.inl hp), fun i a h => by rw [List.getElem?_append_left (List.getElem?_eq_some_iff.mp h).1]; exact h, fun a C h => by rw [upd_ne (ne_of_none h hp)]; exact h⟩
theorem WR.push' (W : WR K O H st) {p : Addr} {o : HO} {s : S} (hp : H p = none) (hs : RepS K (O ++ [p]) (upd H p o) p s) : WR K (O ++ [p]) (upd H p o) (st ++ [s]):=by
 refine ⟨by simp [W.len], ?_, fun i a s' h1 h2 => ?_⟩
 ·refine List.nodup_append.mpr ⟨W.nd, by simp, fun a ha b hb => ?_⟩
  rw [List.mem_singleton] at hb
  subst hb
  obtain ⟨i, hi⟩:=List.mem_iff_getElem?.mp ha
  exact W.ne hi hp
 ·by_cases hi : i < O.length
  ·rw [List.getElem?_append_left hi] at h1
   rw [List.getElem?_append_left (by rw [← W.len]; exact hi)] at h2
   exact (W.at_ i a s' h1 h2).mono' (Keep.push hp) (by rw [upd_ne (W.ne h1 hp)])
  ·rw [List.getElem?_append_right (by omega)] at h1
   rw [List.getElem?_append_right (by rw [← W.len]; omega)] at h2
   rw [← W.len] at h2
   have e0 : i - O.length = 0:=by
    have:=(List.getElem?_eq_some_iff.mp h1).1
    simp at this
    omega
   rw [e0] at h1 h2
   simp at h1 h2
   subst h1 h2
   exact hs
theorem WR.push (W : WR K O H st) {p : Addr} {ds : List D} {vs : List V} (hp : H p = none) (r : Reps K O H ds vs) : WR K (O ++ [p]) (upd H p (.lst vs)) (st ++ [.lst ds]) :=
 W.push' hp ⟨vs, upd_same, Reps.mono (Keep.push hp) _ _ r⟩
theorem rep_last {p : Addr} {st : Sto} (e : O.length = st.length) : Rep K (O ++ [p]) H' (.res st.length) (.ref p):=by
 rw [Rep.res_i]
 exact ⟨p, rfl, by rw [← e, List.getElem?_append_right (Nat.le_refl _)]; simp⟩
theorem Keep.write (W : WR K O H st) {i : Nat} {a : Addr} {o : HO} (h : O[i]? = some a) : Keep K O H O (upd H a o):=by
 have q:=W.some_of h
 refine ⟨fun _ _ z => tup_upd z (.inr q), fun b vs n z => ⟨n, ?_⟩, fun _ _ z => sqF_upd z (.inr q), fun _ _ z => z, fun b C z => ?_⟩
 ·rw [upd_ne]
  ·exact z
  ·rintro rfl
   exact n (List.mem_of_getElem? h)
 ·rw [upd_ne]
  ·exact z
  ·rintro rfl
   obtain ⟨_, q, y⟩:=q
   rw [z] at q
   cases q
   cases y
theorem WR.write (W : WR K O H st) {i : Nat} {a : Addr} {o : HO} {s : S} (h : O[i]? = some a) (hs : RepS K O (upd H a o) a s) : WR K O (upd H a o) (st.set i s):=by
 refine ⟨by rw [List.length_set]; exact W.len, W.nd, fun j b s' h1 h2 => ?_⟩
 by_cases hj : i = j
 ·subst hj
  rw [h] at h1
  cases h1
  have hi : i < st.length:=by rw [← W.len]; exact (List.getElem?_eq_some_iff.mp h).1
  rw [List.getElem?_set_self hi] at h2
  cases h2
  exact hs
 ·rw [List.getElem?_set_ne hj] at h2
  refine (W.at_ j b s' h1 h2).mono' (Keep.write W h) ?_
  rw [upd_ne]
  rintro rfl
  exact hj (nodup_at W.nd h h1)
theorem WR.writeL (W : WR K O H st) {i : Nat} {a : Addr} {ds : List D} {vs : List V} (h : O[i]? = some a) (r : Reps K O H ds vs) : WR K O (upd H a (.lst vs)) (st.set i (.lst ds)) :=
 W.write h ⟨vs, upd_same, Reps.mono (Keep.write W h) _ _ r⟩
noncomputable def seqL (st : Sto) : D → Option (List D)
 | .lst xs => some xs
 | .scr xs => some xs
 | .res i => match st[i]? with
  | some (.lst xs) => some xs
  | _ => none
 | _ => none
noncomputable def ownL (st : Sto) : D → Option (List D)
 | .lst xs => some xs
 | .res i => match st[i]? with
  | some (.lst xs) => some xs
  | _ => none
 | _ => none
theorem rdO (W : WR K O H st) {d : D} {v : V} {ds : List D} (r : Rep K O H d v) (e : ownL st d = some ds) : ∃ a vs, v = .ref a ∧ H a = some (.lst vs) ∧ Reps K O H ds vs:=by
 cases d with
 | lst xs =>
  rw [Rep.lst_i] at r
  obtain ⟨a, vs, rfl, _, q, t⟩:=r
  simp only [ownL, Option.some.injEq] at e
  subst e
  exact ⟨a, vs, rfl, q, t⟩
 | res i =>
  rw [Rep.res_i] at r
  obtain ⟨a, rfl, q⟩:=r
  have hi : i < st.length:=by rw [← W.len]; exact (List.getElem?_eq_some_iff.mp q).1
  have z:=W.at_ i a st[i] q (List.getElem?_eq_getElem hi)
  simp only [ownL, List.getElem?_eq_getElem hi] at e
  cases hs : st[i] with
  | lst xs =>
   rw [hs] at e z
   simp only [Option.some.injEq] at e
   subst e
   obtain ⟨vs, z1, z2⟩:=z
   exact ⟨a, vs, rfl, z1, z2⟩
  | _ => rw [hs] at e; cases e
 | _ => cases e
theorem rdL (W : WR K O H st) {d : D} {v : V} {ds : List D} (r : Rep K O H d v) (e : seqL st d = some ds) : ∃ a vs, v = .ref a ∧ SqL K H a vs ∧ Reps K O H ds vs:=by
 cases d with
 | scr xs =>
  rw [Rep.scr_i] at r
  obtain ⟨a, vs, rfl, q, t⟩:=r
  simp only [seqL, Option.some.injEq] at e
  subst e
  exact ⟨a, vs, rfl, q.sq, t⟩
 | lst xs =>
  obtain ⟨a, vs, h1, h2, h3⟩:=rdO W r (show ownL st (.lst xs) = some ds from e)
  exact ⟨a, vs, h1, SqL.of h2, h3⟩
 | res i =>
  obtain ⟨a, vs, h1, h2, h3⟩:=rdO W r (show ownL st (.res i) = some ds from e)
  exact ⟨a, vs, h1, SqL.of h2, h3⟩
 | _ => cases e
section
variable {X : Cx} {pins : List (Addr × Obj)} {σ : L2.St} {s : Shared}
theorem K_none (I : Inv X pins σ H s) {a : Addr} {o : Obj} (h : X.K.lookup a = some o) : H a = none:=(I.bs a o (I.ok.mod.kin a o h)).2
end
end
end DL
end
section
namespace DL
open PySem PySem.Spec PyProof.Rows L2
noncomputable def Ans (A : Around) (s : Shared) (u w : Value) (k : Bool) : Prop:=SeqAt.EqAt A s u w k ∧ SeqAt.RcAt A s u w k ∧ SeqAt.RcNeAt A s u w (!k)
section
variable {A : Around} {s : Shared}
theorem eqc_non_non : Ans A s .none .none true:=⟨SeqAt.EqAt.same _, SeqAt.RcAt.none_none, SeqAt.RcNeAt.none_none⟩
theorem eqc_non_bl {b2 : Bool} : Ans A s .none (.bool b2) false:=⟨SeqAt.EqAt.none_bool _, SeqAt.RcAt.none_bool _, SeqAt.RcNeAt.none_bool _⟩
theorem eqc_non_int {i2 : Int} {t2 : Tok} : Ans A s .none (.int i2 t2) false:=⟨SeqAt.EqAt.none_int _ _, SeqAt.RcAt.none_int _ _, SeqAt.RcNeAt.none_int _ _⟩
theorem eqc_non_str {x2 : Str} {t2 : Tok} : Ans A s .none (.str x2 t2) false:=⟨SeqAt.EqAt.none_str _ _, SeqAt.RcAt.none_str _ _, SeqAt.RcNeAt.none_str _ _⟩
theorem eqc_non_tup {a2 : Addr} {its2 : Array Value} (z2 : s.heap.IsTuple a2 its2) (hu : A.units < cLine) : Ans A s .none (.ref a2) false:=⟨SeqAt.EqAt.none_tuple z2 hu, SeqAt.RcAt.none_tuple z2 hu, SeqAt.RcNeAt.none_tuple z2 hu⟩
theorem eqc_non_lst {a2 : Addr} {its2 : Array Value} (z2 : s.heap.IsList a2 its2) (hu : A.units < cLine) : Ans A s .none (.ref a2) false:=⟨SeqAt.EqAt.none_list z2 hu, SeqAt.RcAt.none_list z2 hu, SeqAt.RcNeAt.none_list z2 hu⟩
theorem eqc_bl_non {b1 : Bool} : Ans A s (.bool b1) .none false:=⟨SeqAt.EqAt.bool_none _, SeqAt.RcAt.bool_none _, SeqAt.RcNeAt.bool_none _⟩
theorem eqc_bl_bl {b1 : Bool} {b2 : Bool} : Ans A s (.bool b1) (.bool b2) (b1 == b2):=⟨SeqAt.EqAt.bool_bool _ _, SeqAt.RcAt.bool_bool _ _, SeqAt.RcNeAt.bool_bool _ _⟩
theorem eqc_bl_int {b1 : Bool} {i2 : Int} {t2 : Tok} : Ans A s (.bool b1) (.int i2 t2) ((if b1 then 1 else 0) == i2):=⟨SeqAt.EqAt.bool_int _ _ _, SeqAt.RcAt.bool_int _ _ _, SeqAt.RcNeAt.bool_int _ _ _⟩
theorem eqc_bl_str {b1 : Bool} {x2 : Str} {t2 : Tok} : Ans A s (.bool b1) (.str x2 t2) false:=⟨SeqAt.EqAt.bool_str _ _ _, SeqAt.RcAt.bool_str _ _ _, SeqAt.RcNeAt.bool_str _ _ _⟩
theorem eqc_bl_tup {b1 : Bool} {a2 : Addr} {its2 : Array Value} (z2 : s.heap.IsTuple a2 its2) (hu : A.units < cLine) : Ans A s (.bool b1) (.ref a2) false:=⟨SeqAt.EqAt.bool_tuple _ z2 hu, SeqAt.RcAt.bool_tuple _ z2 hu, SeqAt.RcNeAt.bool_tuple _ z2 hu⟩
theorem eqc_bl_lst {b1 : Bool} {a2 : Addr} {its2 : Array Value} (z2 : s.heap.IsList a2 its2) (hu : A.units < cLine) : Ans A s (.bool b1) (.ref a2) false:=⟨SeqAt.EqAt.bool_list _ z2 hu, SeqAt.RcAt.bool_list _ z2 hu, SeqAt.RcNeAt.bool_list _ z2 hu⟩
theorem eqc_int_non {i1 : Int} {t1 : Tok} : Ans A s (.int i1 t1) .none false:=⟨SeqAt.EqAt.int_none _ _, SeqAt.RcAt.int_none _ _, SeqAt.RcNeAt.int_none _ _⟩
theorem eqc_int_bl {i1 : Int} {t1 : Tok} {b2 : Bool} : Ans A s (.int i1 t1) (.bool b2) (i1 == (if b2 then 1 else 0)):=⟨SeqAt.EqAt.int_bool _ _ _, SeqAt.RcAt.int_bool _ _ _, SeqAt.RcNeAt.int_bool _ _ _⟩
theorem eqc_int_int {i1 : Int} {t1 : Tok} {i2 : Int} {t2 : Tok} : Ans A s (.int i1 t1) (.int i2 t2) (i1 == i2):=⟨SeqAt.EqAt.int_int _ _ _ _, SeqAt.RcAt.int_int _ _ _ _, SeqAt.RcNeAt.int_int _ _ _ _⟩
theorem eqc_int_str {i1 : Int} {t1 : Tok} {x2 : Str} {t2 : Tok} : Ans A s (.int i1 t1) (.str x2 t2) false:=⟨SeqAt.EqAt.int_str _ _ _ _, SeqAt.RcAt.int_str _ _ _ _, SeqAt.RcNeAt.int_str _ _ _ _⟩
theorem eqc_int_tup {i1 : Int} {t1 : Tok} {a2 : Addr} {its2 : Array Value} (z2 : s.heap.IsTuple a2 its2) (hu : A.units < cLine) : Ans A s (.int i1 t1) (.ref a2) false:=⟨SeqAt.EqAt.int_tuple _ _ z2 hu, SeqAt.RcAt.int_tuple _ _ z2 hu, SeqAt.RcNeAt.int_tuple _ _ z2 hu⟩
theorem eqc_int_lst {i1 : Int} {t1 : Tok} {a2 : Addr} {its2 : Array Value} (z2 : s.heap.IsList a2 its2) (hu : A.units < cLine) : Ans A s (.int i1 t1) (.ref a2) false:=⟨SeqAt.EqAt.int_list _ _ z2 hu, SeqAt.RcAt.int_list _ _ z2 hu, SeqAt.RcNeAt.int_list _ _ z2 hu⟩
theorem eqc_str_non {x1 : Str} {t1 : Tok} : Ans A s (.str x1 t1) .none false:=⟨SeqAt.EqAt.str_none _ _, SeqAt.RcAt.str_none _ _, SeqAt.RcNeAt.str_none _ _⟩
theorem eqc_str_bl {x1 : Str} {t1 : Tok} {b2 : Bool} : Ans A s (.str x1 t1) (.bool b2) false:=⟨SeqAt.EqAt.str_bool _ _ _, SeqAt.RcAt.str_bool _ _ _, SeqAt.RcNeAt.str_bool _ _ _⟩
theorem eqc_str_int {x1 : Str} {t1 : Tok} {i2 : Int} {t2 : Tok} : Ans A s (.str x1 t1) (.int i2 t2) false:=⟨SeqAt.EqAt.str_int _ _ _ _, SeqAt.RcAt.str_int _ _ _ _, SeqAt.RcNeAt.str_int _ _ _ _⟩
theorem eqc_str_str {x1 : Str} {t1 : Tok} {x2 : Str} {t2 : Tok} : Ans A s (.str x1 t1) (.str x2 t2) (x1 == x2):=⟨SeqAt.EqAt.str_str _ _ _ _, SeqAt.RcAt.str_str _ _ _ _, SeqAt.RcNeAt.str_str _ _ _ _⟩
theorem eqc_str_tup {x1 : Str} {t1 : Tok} {a2 : Addr} {its2 : Array Value} (z2 : s.heap.IsTuple a2 its2) (hu : A.units < cLine) : Ans A s (.str x1 t1) (.ref a2) false:=⟨SeqAt.EqAt.str_tuple _ _ z2 hu, SeqAt.RcAt.str_tuple _ _ z2 hu, SeqAt.RcNeAt.str_tuple _ _ z2 hu⟩
theorem eqc_str_lst {x1 : Str} {t1 : Tok} {a2 : Addr} {its2 : Array Value} (z2 : s.heap.IsList a2 its2) (hu : A.units < cLine) : Ans A s (.str x1 t1) (.ref a2) false:=⟨SeqAt.EqAt.str_list _ _ z2 hu, SeqAt.RcAt.str_list _ _ z2 hu, SeqAt.RcNeAt.str_list _ _ z2 hu⟩
theorem eqc_tup_non {a1 : Addr} {its1 : Array Value} (z1 : s.heap.IsTuple a1 its1) (hu : A.units < cLine) : Ans A s (.ref a1) .none false:=⟨SeqAt.EqAt.tuple_none z1 hu, SeqAt.RcAt.tuple_none z1 hu, SeqAt.RcNeAt.tuple_none z1 hu⟩
theorem eqc_tup_bl {a1 : Addr} {its1 : Array Value} (z1 : s.heap.IsTuple a1 its1) {b2 : Bool} (hu : A.units < cLine) : Ans A s (.ref a1) (.bool b2) false:=⟨SeqAt.EqAt.tuple_bool _ z1 hu, SeqAt.RcAt.tuple_bool _ z1 hu, SeqAt.RcNeAt.tuple_bool _ z1 hu⟩
theorem eqc_tup_int {a1 : Addr} {its1 : Array Value} (z1 : s.heap.IsTuple a1 its1) {i2 : Int} {t2 : Tok} (hu : A.units < cLine) : Ans A s (.ref a1) (.int i2 t2) false:=⟨SeqAt.EqAt.tuple_int _ _ z1 hu, SeqAt.RcAt.tuple_int _ _ z1 hu, SeqAt.RcNeAt.tuple_int _ _ z1 hu⟩
theorem eqc_tup_str {a1 : Addr} {its1 : Array Value} (z1 : s.heap.IsTuple a1 its1) {x2 : Str} {t2 : Tok} (hu : A.units < cLine) : Ans A s (.ref a1) (.str x2 t2) false:=⟨SeqAt.EqAt.tuple_str _ _ z1 hu, SeqAt.RcAt.tuple_str _ _ z1 hu, SeqAt.RcNeAt.tuple_str _ _ z1 hu⟩
theorem eqc_tup_lst {a1 : Addr} {its1 : Array Value} (z1 : s.heap.IsTuple a1 its1) {a2 : Addr} {its2 : Array Value} (z2 : s.heap.IsList a2 its2) (hu : A.units < cLine) : Ans A s (.ref a1) (.ref a2) false:=⟨SeqAt.EqAt.tuple_list z1 z2 hu, SeqAt.RcAt.tuple_list z1 z2 hu, SeqAt.RcNeAt.tuple_list z1 z2 hu⟩
theorem eqc_lst_non {a1 : Addr} {its1 : Array Value} (z1 : s.heap.IsList a1 its1) (hu : A.units < cLine) : Ans A s (.ref a1) .none false:=⟨SeqAt.EqAt.list_none z1 hu, SeqAt.RcAt.list_none z1 hu, SeqAt.RcNeAt.list_none z1 hu⟩
theorem eqc_lst_bl {a1 : Addr} {its1 : Array Value} (z1 : s.heap.IsList a1 its1) {b2 : Bool} (hu : A.units < cLine) : Ans A s (.ref a1) (.bool b2) false:=⟨SeqAt.EqAt.list_bool _ z1 hu, SeqAt.RcAt.list_bool _ z1 hu, SeqAt.RcNeAt.list_bool _ z1 hu⟩
theorem eqc_lst_int {a1 : Addr} {its1 : Array Value} (z1 : s.heap.IsList a1 its1) {i2 : Int} {t2 : Tok} (hu : A.units < cLine) : Ans A s (.ref a1) (.int i2 t2) false:=⟨SeqAt.EqAt.list_int _ _ z1 hu, SeqAt.RcAt.list_int _ _ z1 hu, SeqAt.RcNeAt.list_int _ _ z1 hu⟩
theorem eqc_lst_str {a1 : Addr} {its1 : Array Value} (z1 : s.heap.IsList a1 its1) {x2 : Str} {t2 : Tok} (hu : A.units < cLine) : Ans A s (.ref a1) (.str x2 t2) false:=⟨SeqAt.EqAt.list_str _ _ z1 hu, SeqAt.RcAt.list_str _ _ z1 hu, SeqAt.RcNeAt.list_str _ _ z1 hu⟩
theorem eqc_lst_tup {a1 : Addr} {its1 : Array Value} (z1 : s.heap.IsList a1 its1) {a2 : Addr} {its2 : Array Value} (z2 : s.heap.IsTuple a2 its2) (hu : A.units < cLine) : Ans A s (.ref a1) (.ref a2) false:=⟨SeqAt.EqAt.list_tuple z1 z2 hu, SeqAt.RcAt.list_tuple z1 z2 hu, SeqAt.RcNeAt.list_tuple z1 z2 hu⟩
end
inductive Kd where
 | non | bl (b : Bool) | int (i : Int) | str (x : Str) | tup (xs : List D) | lst (xs : List D) | no
noncomputable def kd (st : Sto) : D → Kd
 | .non => .non
 | .bl b => .bl b
 | .int i => .int i
 | .str x => .str x
 | .tup xs => .tup xs
 | .lst xs => .lst xs
 | .scr xs => .lst xs
 | .res i => match st[i]? with
  | some (.lst xs) => .lst xs
  | _ => .no
 | .exv _ => .no
noncomputable def eqItems (f : D → D → Option Bool) : List D → List D → Option Bool
 | [], [] => some true
 | [], _ :: _ => some false
 | _ :: _, [] => some false
 | x :: xs, y :: ys => match f x y, eqItems f xs ys with
  | some a, some b => some (a && b)
  | _, _ => none
noncomputable def eqN (st : Sto) : Nat → D → D → Option Bool
 | 0, _, _ => none
 | n + 1, a, b => match kd st a, kd st b with
  | .tup xs, .tup ys => eqItems (eqN st n) xs ys
  | .lst xs, .lst ys => eqItems (eqN st n) xs ys
  | .non, .non => some true
  | .bl x, .bl y => some (x == y)
  | .int x, .int y => some (x == y)
  | .str x, .str y => some (x == y)
  | .bl x, .int y => some ((if x then 1 else 0) == y)
  | .int x, .bl y => some (x == (if y then 1 else 0))
  | .no, _ => none
  | _, .no => none
  | _, _ => some false
section
variable {X : Cx} {pins : List (Addr × Obj)} {σ : L2.St} {s : Shared} {O : List Addr} {H : Hp} {st : Sto}
theorem sqT_lst (I : Inv X pins σ H s) {a : Addr} {vs xs : List V} (h : SqT X.K H a vs) (q : H a = some (.lst xs)) : False:=by
 rcases h with (h | ⟨ob, h⟩) | ⟨o, _, _, h, _⟩
 ·rw [h] at q; cases q
 ·rw [h] at q; cases q
 ·rw [K_none I h] at q; cases q
theorem sqF_lst (I : Inv X pins σ H s) {a : Addr} {vs xs : List V} (h : SqF X.K H a vs) (q : H a = some (.lst xs)) : False:=by
 rcases h with ⟨ob, h⟩ | ⟨o, _, _, h, _⟩
 ·rw [h] at q; cases q
 ·rw [K_none I h] at q; cases q
theorem sqT_sqF (I : Inv X pins σ H s) {a : Addr} {vs xs : List V} (h : SqT X.K H a vs) (q : SqF X.K H a xs) : False:=by
 rcases h with (h | ⟨ob, h⟩) | ⟨o, _, _, h, c, _⟩ <;> rcases q with ⟨ob', q⟩ | ⟨o', _, _, q, c', _⟩
 ·rw [h] at q; cases q
 ·rw [K_none I q] at h; cases h
 ·rw [h] at q; cases q
 ·rw [K_none I q] at h; cases h
 ·rw [K_none I h] at q; cases q
 ·rw [h] at q; cases q; rw [c] at c'; exact absurd (Value.type.inj c') (by decide)
theorem sqT_S (I : Inv X pins σ H s) {a : Addr} {vs : List V} {o : HO} (h : SqT X.K H a vs) (q : H a = some o) (z : isS o = true) : False:=by
 rcases h with (h | ⟨ob, h⟩) | ⟨_, _, _, h, _⟩
 ·rw [h] at q; cases q; cases z
 ·rw [h] at q; cases q; cases z
 ·rw [K_none I h] at q; cases q
theorem sqF_S (I : Inv X pins σ H s) {a : Addr} {vs : List V} {o : HO} (h : SqF X.K H a vs) (q : H a = some o) (z : isS o = true) : False:=by
 rcases h with ⟨ob, h⟩ | ⟨_, _, _, h, _⟩
 ·rw [h] at q; cases q; cases z
 ·rw [K_none I h] at q; cases q
theorem sqT_ext (I : Inv X pins σ H s) {a : Addr} {vs : List V} {φ : Heap → Prop} (h : SqT X.K H a vs) (q : H a = some (.ext φ)) : False:=by
 rcases h with (h | ⟨ob, h⟩) | ⟨_, _, _, h, _⟩
 ·rw [h] at q; cases q
 ·rw [h] at q; cases q
 ·rw [K_none I h] at q; cases q
theorem sqF_ext (I : Inv X pins σ H s) {a : Addr} {vs : List V} {φ : Heap → Prop} (h : SqF X.K H a vs) (q : H a = some (.ext φ)) : False:=by
 rcases h with ⟨ob, h⟩ | ⟨_, _, _, h, _⟩
 ·rw [h] at q; cases q
 ·rw [K_none I h] at q; cases q
theorem res_T (I : Inv X pins σ H s) (W : WR X.K O H st) {i : Nat} {a : Addr} {vs : List V} (h : O[i]? = some a) (q : SqT X.K H a vs) : False:=by
 obtain ⟨o, z, y⟩:=W.some_of h
 exact sqT_S I q z y
theorem res_F (I : Inv X pins σ H s) (W : WR X.K O H st) {i : Nat} {a : Addr} {vs : List V} (h : O[i]? = some a) (q : SqF X.K H a vs) : False:=by
 obtain ⟨o, z, y⟩:=W.some_of h
 exact sqF_S I q z y
theorem res_ext (W : WR X.K O H st) {i : Nat} {a : Addr} {φ : Heap → Prop} (h : O[i]? = some a) (q : H a = some (.ext φ)) : False:=by
 obtain ⟨o, z, y⟩:=W.some_of h
 rw [q] at z
 cases z
 cases y
mutual
theorem Rep.inj (I : Inv X pins σ H s) (W : WR X.K O H st) : ∀ (d d' : D) (v : V), Rep X.K O H d v → Rep X.K O H d' v → d = d'
 | .non, d', v, h, h' => by
  rw [Rep.non_i] at h; subst h
  cases d' <;> unfold Rep at h' <;> first | rfl | (cases h'; done) | (obtain ⟨_, _, e, _⟩:=h'; cases e) | (obtain ⟨_, e, _⟩:=h'; cases e)
 | .bl b, d', v, h, h' => by
  rw [Rep.bl_i] at h; subst h
  cases d' <;> unfold Rep at h' <;> first | (cases h'; rfl) | (cases h'; done) | (obtain ⟨_, _, e, _⟩:=h'; cases e) | (obtain ⟨_, e, _⟩:=h'; cases e)
 | .int b, d', v, h, h' => by
  rw [Rep.int_i] at h; subst h
  cases d' <;> unfold Rep at h' <;> first | (cases h'; rfl) | (cases h'; done) | (obtain ⟨_, _, e, _⟩:=h'; cases e) | (obtain ⟨_, e, _⟩:=h'; cases e)
 | .str b, d', v, h, h' => by
  rw [Rep.str_i] at h; subst h
  cases d' <;> unfold Rep at h' <;> first | (cases h'; rfl) | (cases h'; done) | (obtain ⟨_, _, e, _⟩:=h'; cases e) | (obtain ⟨_, e, _⟩:=h'; cases e)
 | .tup ds, d', v, h, h' => by
  rw [Rep.tup_i] at h
  obtain ⟨a, vs, rfl, q, r⟩:=h
  cases d' with
  | tup ds' =>
   rw [Rep.tup_i] at h'
   obtain ⟨a', vs', e, q', r'⟩:=h'
   cases e
   have ev : vs = vs':=I.tuple_inj (SqT.of q) (SqT.of q')
   subst ev
   rw [Reps.inj I W ds ds' vs r r']
  | lst ds' => rw [Rep.lst_i] at h'; obtain ⟨a', vs', e, _, q', _⟩:=h'; cases e; exact (sqT_lst I (SqT.of q) q').elim
  | scr ds' => rw [Rep.scr_i] at h'; obtain ⟨a', vs', e, q', _⟩:=h'; cases e; exact (sqT_sqF I (SqT.of q) q').elim
  | res i => rw [Rep.res_i] at h'; obtain ⟨a', e, q'⟩:=h'; cases e; exact (res_T I W q' (SqT.of q)).elim
  | exv C => rw [Rep.exv_i] at h'; obtain ⟨a', e, q'⟩:=h'; cases e; exact (sqT_ext I (SqT.of q) q').elim
  | _ => unfold Rep at h'; cases h'
 | .lst ds, d', v, h, h' => by
  rw [Rep.lst_i] at h
  obtain ⟨a, vs, rfl, n, q, r⟩:=h
  cases d' with
  | tup ds' => rw [Rep.tup_i] at h'; obtain ⟨a', vs', e, q', _⟩:=h'; cases e; exact (sqT_lst I (SqT.of q') q).elim
  | lst ds' =>
   rw [Rep.lst_i] at h'
   obtain ⟨a', vs', e, _, q', r'⟩:=h'
   cases e
   rw [q] at q'
   cases q'
   rw [Reps.inj I W ds ds' vs r r']
  | scr ds' => rw [Rep.scr_i] at h'; obtain ⟨a', vs', e, q', _⟩:=h'; cases e; exact (sqF_lst I q' q).elim
  | res i => rw [Rep.res_i] at h'; obtain ⟨a', e, q'⟩:=h'; cases e; exact (n (List.mem_of_getElem? q')).elim
  | exv C => rw [Rep.exv_i] at h'; obtain ⟨a', e, q'⟩:=h'; cases e; rw [q] at q'; cases q'
  | _ => unfold Rep at h'; cases h'
 | .scr ds, d', v, h, h' => by
  rw [Rep.scr_i] at h
  obtain ⟨a, vs, rfl, q, r⟩:=h
  cases d' with
  | tup ds' => rw [Rep.tup_i] at h'; obtain ⟨a', vs', e, q', _⟩:=h'; cases e; exact (sqT_sqF I (SqT.of q') q).elim
  | lst ds' => rw [Rep.lst_i] at h'; obtain ⟨a', vs', e, _, q', _⟩:=h'; cases e; exact (sqF_lst I q q').elim
  | scr ds' =>
   rw [Rep.scr_i] at h'
   obtain ⟨a', vs', e, q', r'⟩:=h'
   cases e
   have ev : vs = vs':=I.list_inj q.sq q'.sq
   subst ev
   rw [Reps.inj I W ds ds' vs r r']
  | res i => rw [Rep.res_i] at h'; obtain ⟨a', e, q'⟩:=h'; cases e; exact (res_F I W q' q).elim
  | exv C => rw [Rep.exv_i] at h'; obtain ⟨a', e, q'⟩:=h'; cases e; exact (sqF_ext I q q').elim
  | _ => unfold Rep at h'; cases h'
 | .res i, d', v, h, h' => by
  rw [Rep.res_i] at h
  obtain ⟨a, rfl, q⟩:=h
  cases d' with
  | tup ds' => rw [Rep.tup_i] at h'; obtain ⟨a', vs', e, q', _⟩:=h'; cases e; exact (res_T I W q (SqT.of q')).elim
  | lst ds' => rw [Rep.lst_i] at h'; obtain ⟨a', vs', e, n, _, _⟩:=h'; cases e; exact (n (List.mem_of_getElem? q)).elim
  | scr ds' => rw [Rep.scr_i] at h'; obtain ⟨a', vs', e, q', _⟩:=h'; cases e; exact (res_F I W q q').elim
  | res j =>
   rw [Rep.res_i] at h'
   obtain ⟨a', e, q'⟩:=h'
   cases e
   rw [nodup_at W.nd q q']
  | exv C => rw [Rep.exv_i] at h'; obtain ⟨a', e, q'⟩:=h'; cases e; exact (res_ext W q q').elim
  | _ => unfold Rep at h'; cases h'
 | .exv C, d', v, h, h' => by
  rw [Rep.exv_i] at h
  obtain ⟨a, rfl, q⟩:=h
  cases d' with
  | tup ds' => rw [Rep.tup_i] at h'; obtain ⟨a', vs', e, q', _⟩:=h'; cases e; exact (sqT_ext I (SqT.of q') q).elim
  | lst ds' => rw [Rep.lst_i] at h'; obtain ⟨a', vs', e, n, q', _⟩:=h'; cases e; rw [q] at q'; cases q'
  | scr ds' => rw [Rep.scr_i] at h'; obtain ⟨a', vs', e, q', _⟩:=h'; cases e; exact (sqF_ext I q' q).elim
  | res j => rw [Rep.res_i] at h'; obtain ⟨a', e, q'⟩:=h'; cases e; exact (res_ext W q' q).elim
  | exv C' =>
   rw [Rep.exv_i] at h'
   obtain ⟨a', e, q'⟩:=h'
   cases e
   rw [(I.hok _ _ q).1.inj (I.hok _ _ q').1]
  | _ => unfold Rep at h'; cases h'
theorem Reps.inj (I : Inv X pins σ H s) (W : WR X.K O H st) : ∀ (ds ds' : List D) (vs : List V), Reps X.K O H ds vs → Reps X.K O H ds' vs → ds = ds'
 | [], ds', vs, h, h' => by
  rw [Reps.nil_i] at h; subst h
  cases ds' with
  | nil => rfl
  | cons d r => obtain ⟨_, _, e, _⟩:=Reps.cons_i.mp h'; cases e
 | d :: ds, ds', vs, h, h' => by
  obtain ⟨v, r, rfl, q, t⟩:=Reps.cons_i.mp h
  cases ds' with
  | nil => rw [Reps.nil_i] at h'; cases h'
  | cons d' r' =>
   obtain ⟨v', r2, e, q', t'⟩:=Reps.cons_i.mp h'
   cases e
   rw [Rep.inj I W d d' v q q', Reps.inj I W ds r' r t t']
end
theorem eqItems_refl {f : D → D → Option Bool} (hf : ∀ d k, f d d = some k → k = true) : ∀ (xs : List D) (k : Bool), eqItems f xs xs = some k → k = true
 | [], k, h => by simp only [eqItems, Option.some.injEq] at h; exact h.symm
 | x :: xs, k, h => by
  unfold eqItems at h
  cases e1 : f x x with
  | none => rw [e1] at h; cases h
  | some a =>
   cases e2 : eqItems f xs xs with
   | none => rw [e1, e2] at h; cases h
   | some b =>
    rw [e1, e2] at h
    simp only [Option.some.injEq] at h
    rw [← h, hf x a e1, eqItems_refl hf xs b e2]
    rfl
theorem eqN_refl : ∀ (n : Nat) (d : D) (k : Bool), eqN st n d d = some k → k = true
 | 0, d, k, h => by cases h
 | n + 1, d, k, h => by
  unfold eqN at h
  cases e : kd st d <;> rw [e] at h <;> simp only [beq_self_eq_true, Option.some.injEq] at h
  case tup xs => exact eqItems_refl (eqN_refl n) xs k h
  case lst xs => exact eqItems_refl (eqN_refl n) xs k h
  case no => cases h
  all_goals exact h.symm
theorem eqItems_len {f : D → D → Option Bool} : ∀ (xs ys : List D) (k : Bool), eqItems f xs ys = some k →
  (∀ (j : Nat) (x y : D), xs[j]? = some x → ys[j]? = some y → ∃ kj, f x y = some kj) ∧
  k = ((List.range (min xs.length ys.length)).all (fun j => ((xs[j]?.bind fun x => ys[j]?.bind fun y => f x y).getD false)) && xs.length == ys.length)
 | [], [], k, h => by
  simp only [eqItems, Option.some.injEq] at h
  subst h
  exact ⟨fun j x y e => by simp at e, rfl⟩
 | [], y :: ys, k, h => by
  simp only [eqItems, Option.some.injEq] at h
  subst h
  exact ⟨fun j x y e => by simp at e, by simp⟩
 | x :: xs, [], k, h => by
  simp only [eqItems, Option.some.injEq] at h
  subst h
  exact ⟨fun j x y _ e => by simp at e, by simp⟩
 | x :: xs, y :: ys, k, h => by
  unfold eqItems at h
  cases e1 : f x y with
  | none => rw [e1] at h; cases h
  | some a =>
   cases e2 : eqItems f xs ys with
   | none => rw [e1, e2] at h; cases h
   | some b =>
    rw [e1, e2] at h
    simp only [Option.some.injEq] at h
    obtain ⟨h1, h2⟩:=eqItems_len xs ys b e2
    refine ⟨fun j u w eu ew => ?_, ?_⟩
    ·cases j with
     | zero => simp at eu ew; subst eu ew; exact ⟨a, e1⟩
     | succ j => exact h1 j u w (by simpa using eu) (by simpa using ew)
    ·rw [← h, h2]
     have em : min (x :: xs).length (y :: ys).length = min xs.length ys.length + 1:=by simp only [List.length_cons]; omega
     rw [em, List.range_succ_eq_map]
     simp only [List.all_cons, List.all_map, List.getElem?_cons_zero, Option.bind_some, e1, Option.getD_some, List.length_cons, Function.comp_def, List.getElem?_cons_succ, Nat.succ_eq_add_one, Bool.and_assoc]
     congr 2
     by_cases hl : xs.length = ys.length
     ·simp [hl]
     ·have : ¬ (xs.length + 1 = ys.length + 1):=by omega
      simp [hl]
noncomputable def KdV (K : PySem.W.Frag) (O : List Addr) (H : Hp) (s : Shared) : Kd → Value → Prop
 | .non, u => u = .none
 | .bl b, u => u = .bool b
 | .int i, u => ∃ t, u = .int i t
 | .str x, u => ∃ t, u = .str x t
 | .tup xs, u => ∃ a vs its, u = .ref a ∧ Reps K O H xs vs ∧ Vals vs its ∧ s.heap.IsTuple a its.toArray
 | .lst xs, u => ∃ a vs its, u = .ref a ∧ Reps K O H xs vs ∧ Vals vs its ∧ s.heap.IsList a its.toArray
 | .no, _ => True
theorem kdV_lst (I : Inv X pins σ H s) (W : WR X.K O H st) {d : D} {v : V} {u : Value} {xs : List D} (r : Rep X.K O H d v) (q : RelV v u) (e : seqL st d = some xs) : KdV X.K O H s (.lst xs) u:=by
 obtain ⟨a, vs, rfl, z, t⟩:=rdL W r e
 obtain ⟨its, hv, hp, _⟩:=I.list z
 have q' : u = Value.ref a:=q
 subst q'
 exact ⟨a, vs, its, rfl, t, hv, hp.isList⟩
theorem kdV (I : Inv X pins σ H s) (W : WR X.K O H st) : ∀ {d : D} {v : V} {u : Value}, Rep X.K O H d v → RelV v u → KdV X.K O H s (kd st d) u
 | .non, v, u, r, q => by rw [Rep.non_i] at r; subst r; exact q
 | .bl b, v, u, r, q => by rw [Rep.bl_i] at r; subst r; exact q
 | .int b, v, u, r, q => by rw [Rep.int_i] at r; subst r; exact q
 | .str b, v, u, r, q => by rw [Rep.str_i] at r; subst r; exact q
 | .tup ds, v, u, r, q => by
  rw [Rep.tup_i] at r
  obtain ⟨a, vs, rfl, z, t⟩:=r
  obtain ⟨its, hv, hp, _⟩:=I.tuple (SqT.of z)
  have q' : u = Value.ref a:=q
  subst q'
  exact ⟨a, vs, its, rfl, t, hv, hp⟩
 | .lst ds, v, u, r, q => kdV_lst I W r q rfl
 | .scr ds, v, u, r, q => kdV_lst I W r q rfl
 | .res i, v, u, r, q => by
  have e : seqL st (.res i) = match st[i]? with
   | some (.lst xs) => some xs
   | _ => none:=rfl
  have e' : kd st (.res i) = match st[i]? with
   | some (.lst xs) => .lst xs
   | _ => .no:=rfl
  rw [e']
  cases hs : st[i]? with
  | none => exact trivial
  | some so =>
   cases so with
   | ins C fs => exact trivial
   | dct kvs => exact trivial
   | dtt kvs => exact trivial
   | lst xs =>
    rw [hs] at e
    exact kdV_lst I W r q e
 | .exv C, v, u, r, q => trivial
theorem in1_units (A : Around) : A.in1.units = A.units + 1:=rfl
theorem eq_sound (I : Inv X pins σ H s) (W : WR X.K O H st) : ∀ (n : Nat) (a b : D) (k : Bool), eqN st n a b = some k → ∀ (A : Around) (x y : V) (u w : Value),
  Rep X.K O H a x → Rep X.K O H b y → RelV x u → RelV y w → A.units + n < cLine → Ans A s u w k
 | 0, a, b, k, h => by cases h
 | n + 1, a, b, k, h => by
  intro A x y u w ra rb qa qb hn
  have hu : A.units < cLine:=by omega
  have same : u = w → k = true:=by
   intro e
   subst e
   have e2 : x = y:=qa.inj qb
   subst e2
   have e3:=Rep.inj I W a b x ra rb
   subst e3
   exact eqN_refl (n + 1) a k h
  have ka:=kdV I W ra qa
  have kb:=kdV I W rb qb
  have items : ∀ {xs ys : List D} {vs ws : List V} {its its2 : List Value}, eqItems (eqN st n) xs ys = some k → Reps X.K O H xs vs → Reps X.K O H ys ws → Vals vs its → Vals ws its2 →
    (∀ j (h1 : j < its.toArray.size) (h2 : j < its2.toArray.size), SeqAt.EqAt A.in1 s its.toArray[j] its2.toArray[j] ((xs[j]?.bind fun x => ys[j]?.bind fun y => eqN st n x y).getD false)) ∧
    k = ((List.range (min its.toArray.size its2.toArray.size)).all (fun j => ((xs[j]?.bind fun x => ys[j]?.bind fun y => eqN st n x y).getD false)) && its.toArray.size == its2.toArray.size):=by
   intro xs ys vs ws its its2 he r1 r2 v1 v2
   obtain ⟨h1, h2⟩:=eqItems_len xs ys k he
   have l1 : its.toArray.size = xs.length:=by rw [List.size_toArray, ← v1.length, r1.length]
   have l2 : its2.toArray.size = ys.length:=by rw [List.size_toArray, ← v2.length, r2.length]
   refine ⟨fun j j1 j2 => ?_, by rw [l1, l2]; exact h2⟩
   have j1' : j < xs.length:=by rw [← l1]; exact j1
   have j2' : j < ys.length:=by rw [← l2]; exact j2
   have ex : xs[j]? = some xs[j]:=List.getElem?_eq_getElem j1'
   have ey : ys[j]? = some ys[j]:=List.getElem?_eq_getElem j2'
   obtain ⟨kj, ek⟩:=h1 j xs[j] ys[j] ex ey
   obtain ⟨vx, e3, rx⟩:=r1.get ex
   obtain ⟨vy, e4, ry⟩:=r2.get ey
   obtain ⟨ux, e5, qx⟩:=v1.get e3
   obtain ⟨uy, e6, qy⟩:=v2.get e4
   have e7 : its.toArray[j] = ux:=by
    have:=(List.getElem?_eq_some_iff.mp e5).2
    simpa using this
   have e8 : its2.toArray[j] = uy:=by
    have:=(List.getElem?_eq_some_iff.mp e6).2
    simpa using this
   rw [ex, ey, e7, e8]
   simp only [Option.bind_some, ek, Option.getD_some]
   exact (eq_sound I W n xs[j] ys[j] kj ek A.in1 vx vy ux uy rx ry qx qy (by rw [in1_units]; omega)).1
  unfold eqN at h
  generalize kd st a = da at h ka
  generalize kd st b = db at h kb
  cases da with
  | no => cases db <;> cases h
  | non =>
   cases db with
   | no => cases h
   | non =>
    have e1 : u = _:=ka
    subst e1
    have e2 : w = _:=kb
    subst e2
    cases h
    exact eqc_non_non
   | bl b2 =>
    have e1 : u = _:=ka
    subst e1
    have e2 : w = _:=kb
    subst e2
    cases h
    exact eqc_non_bl
   | int i2 =>
    have e1 : u = _:=ka
    subst e1
    obtain ⟨t2, rfl⟩:=kb
    cases h
    exact eqc_non_int
   | str x2 =>
    have e1 : u = _:=ka
    subst e1
    obtain ⟨t2, rfl⟩:=kb
    cases h
    exact eqc_non_str
   | tup ys =>
    have e1 : u = _:=ka
    subst e1
    obtain ⟨a2, vs2, its2, rfl, r2, q2, z2⟩:=kb
    cases h
    exact eqc_non_tup z2 hu
   | lst ys =>
    have e1 : u = _:=ka
    subst e1
    obtain ⟨a2, vs2, its2, rfl, r2, q2, z2⟩:=kb
    cases h
    exact eqc_non_lst z2 hu
  | bl b1 =>
   cases db with
   | no => cases h
   | non =>
    have e1 : u = _:=ka
    subst e1
    have e2 : w = _:=kb
    subst e2
    cases h
    exact eqc_bl_non
   | bl b2 =>
    have e1 : u = _:=ka
    subst e1
    have e2 : w = _:=kb
    subst e2
    cases h
    exact eqc_bl_bl
   | int i2 =>
    have e1 : u = _:=ka
    subst e1
    obtain ⟨t2, rfl⟩:=kb
    cases h
    exact eqc_bl_int
   | str x2 =>
    have e1 : u = _:=ka
    subst e1
    obtain ⟨t2, rfl⟩:=kb
    cases h
    exact eqc_bl_str
   | tup ys =>
    have e1 : u = _:=ka
    subst e1
    obtain ⟨a2, vs2, its2, rfl, r2, q2, z2⟩:=kb
    cases h
    exact eqc_bl_tup z2 hu
   | lst ys =>
    have e1 : u = _:=ka
    subst e1
    obtain ⟨a2, vs2, its2, rfl, r2, q2, z2⟩:=kb
    cases h
    exact eqc_bl_lst z2 hu
  | int i1 =>
   cases db with
   | no => cases h
   | non =>
    obtain ⟨t1, rfl⟩:=ka
    have e2 : w = _:=kb
    subst e2
    cases h
    exact eqc_int_non
   | bl b2 =>
    obtain ⟨t1, rfl⟩:=ka
    have e2 : w = _:=kb
    subst e2
    cases h
    exact eqc_int_bl
   | int i2 =>
    obtain ⟨t1, rfl⟩:=ka
    obtain ⟨t2, rfl⟩:=kb
    cases h
    exact eqc_int_int
   | str x2 =>
    obtain ⟨t1, rfl⟩:=ka
    obtain ⟨t2, rfl⟩:=kb
    cases h
    exact eqc_int_str
   | tup ys =>
    obtain ⟨t1, rfl⟩:=ka
    obtain ⟨a2, vs2, its2, rfl, r2, q2, z2⟩:=kb
    cases h
    exact eqc_int_tup z2 hu
   | lst ys =>
    obtain ⟨t1, rfl⟩:=ka
    obtain ⟨a2, vs2, its2, rfl, r2, q2, z2⟩:=kb
    cases h
    exact eqc_int_lst z2 hu
  | str x1 =>
   cases db with
   | no => cases h
   | non =>
    obtain ⟨t1, rfl⟩:=ka
    have e2 : w = _:=kb
    subst e2
    cases h
    exact eqc_str_non
   | bl b2 =>
    obtain ⟨t1, rfl⟩:=ka
    have e2 : w = _:=kb
    subst e2
    cases h
    exact eqc_str_bl
   | int i2 =>
    obtain ⟨t1, rfl⟩:=ka
    obtain ⟨t2, rfl⟩:=kb
    cases h
    exact eqc_str_int
   | str x2 =>
    obtain ⟨t1, rfl⟩:=ka
    obtain ⟨t2, rfl⟩:=kb
    cases h
    exact eqc_str_str
   | tup ys =>
    obtain ⟨t1, rfl⟩:=ka
    obtain ⟨a2, vs2, its2, rfl, r2, q2, z2⟩:=kb
    cases h
    exact eqc_str_tup z2 hu
   | lst ys =>
    obtain ⟨t1, rfl⟩:=ka
    obtain ⟨a2, vs2, its2, rfl, r2, q2, z2⟩:=kb
    cases h
    exact eqc_str_lst z2 hu
  | tup xs =>
   cases db with
   | no => cases h
   | non =>
    obtain ⟨a1, vs1, its1, rfl, r1, q1, z1⟩:=ka
    have e2 : w = _:=kb
    subst e2
    cases h
    exact eqc_tup_non z1 hu
   | bl b2 =>
    obtain ⟨a1, vs1, its1, rfl, r1, q1, z1⟩:=ka
    have e2 : w = _:=kb
    subst e2
    cases h
    exact eqc_tup_bl z1 hu
   | int i2 =>
    obtain ⟨a1, vs1, its1, rfl, r1, q1, z1⟩:=ka
    obtain ⟨t2, rfl⟩:=kb
    cases h
    exact eqc_tup_int z1 hu
   | str x2 =>
    obtain ⟨a1, vs1, its1, rfl, r1, q1, z1⟩:=ka
    obtain ⟨t2, rfl⟩:=kb
    cases h
    exact eqc_tup_str z1 hu
   | tup ys =>
    obtain ⟨a1, vs1, its1, rfl, r1, q1, z1⟩:=ka
    obtain ⟨a2, vs2, its2, rfl, r2, q2, z2⟩:=kb
    obtain ⟨he, hk⟩:=items h r1 r2 q1 q2
    have R:=SeqAt.RcAt.tuples z1 z2 hu he
    have N:=SeqAt.RcNeAt.tuples z1 z2 hu he
    rw [← hk] at R N
    refine ⟨?_, R, N⟩
    by_cases ea : a1 = a2
    ·subst ea
     rw [same rfl]
     exact SeqAt.EqAt.same _
    ·exact SeqAt.EqAt.of_refs ea R
   | lst ys =>
    obtain ⟨a1, vs1, its1, rfl, r1, q1, z1⟩:=ka
    obtain ⟨a2, vs2, its2, rfl, r2, q2, z2⟩:=kb
    cases h
    exact eqc_tup_lst z1 z2 hu
  | lst xs =>
   cases db with
   | no => cases h
   | non =>
    obtain ⟨a1, vs1, its1, rfl, r1, q1, z1⟩:=ka
    have e2 : w = _:=kb
    subst e2
    cases h
    exact eqc_lst_non z1 hu
   | bl b2 =>
    obtain ⟨a1, vs1, its1, rfl, r1, q1, z1⟩:=ka
    have e2 : w = _:=kb
    subst e2
    cases h
    exact eqc_lst_bl z1 hu
   | int i2 =>
    obtain ⟨a1, vs1, its1, rfl, r1, q1, z1⟩:=ka
    obtain ⟨t2, rfl⟩:=kb
    cases h
    exact eqc_lst_int z1 hu
   | str x2 =>
    obtain ⟨a1, vs1, its1, rfl, r1, q1, z1⟩:=ka
    obtain ⟨t2, rfl⟩:=kb
    cases h
    exact eqc_lst_str z1 hu
   | tup ys =>
    obtain ⟨a1, vs1, its1, rfl, r1, q1, z1⟩:=ka
    obtain ⟨a2, vs2, its2, rfl, r2, q2, z2⟩:=kb
    cases h
    exact eqc_lst_tup z1 z2 hu
   | lst ys =>
    obtain ⟨a1, vs1, its1, rfl, r1, q1, z1⟩:=ka
    obtain ⟨a2, vs2, its2, rfl, r2, q2, z2⟩:=kb
    obtain ⟨he, hk⟩:=items h r1 r2 q1 q2
    have RN : SeqAt.RcAt A s (.ref a1) (.ref a2) k ∧ SeqAt.RcNeAt A s (.ref a1) (.ref a2) (!k):=by
     by_cases hz : its1.toArray.size = its2.toArray.size
     ·have R:=SeqAt.RcAt.lists z1 z2 hz hu he
      have N:=SeqAt.RcNeAt.lists z1 z2 hz hu he
      have hk2 : k = (List.range its1.toArray.size).all (fun j => ((xs[j]?.bind fun x => ys[j]?.bind fun y => eqN st n x y).getD false)):=by
       rw [hk, ← hz, Nat.min_self]
       simp
      rw [← hk2] at R N
      exact ⟨R, N⟩
     ·have hk2 : k = false:=by
       rw [hk]
       simp only [beq_eq_false_iff_ne.mpr hz, Bool.and_false]
      have hb : (its1.toArray.size != its2.toArray.size) = true:=by simpa using hz
      subst hk2
      exact ⟨SeqAt.RcAt.lists_lengths z1 z2 hb hu, SeqAt.RcNeAt.lists_lengths z1 z2 hb hu⟩
    refine ⟨?_, RN.1, RN.2⟩
    by_cases ea : a1 = a2
    ·subst ea
     rw [same rfl]
     exact SeqAt.EqAt.same _
    ·exact SeqAt.EqAt.of_refs ea RN.1
end
end DL
end
section
namespace DL
open PySem PySem.Spec PyProof.Rows L2
noncomputable abbrev EXT:=Addr → Sto → List Addr → Hp → Prop
noncomputable def Run (K : PySem.W.Frag) (EX : EXT) {α : Type} (O : List Addr) (H : Hp) (r : Out α) (k : α → Sto → List Addr → Hp → Prop) : Prop:=match r with
 | .ok a st => ∀ O' H', Keep K O H O' H' → WR K O' H' st → k a st O' H'
 | .exc c st => ∀ O' H', Keep K O H O' H' → WR K O' H' st → EX c st O' H'
 | .bad => False
section
variable {K : PySem.W.Frag} {EX : EXT} {α β : Type} {O O' : List Addr} {H H' : Hp} {st : Sto}
theorem Run.now {a : α} {k : α → Sto → List Addr → Hp → Prop} (h : Run K EX O H (.ok a st) k) (W : WR K O H st) : k a st O H:=h O H Keep.refl W
theorem Run.later {r : Out α} {k : α → Sto → List Addr → Hp → Prop} (h : Run K EX O H r k) (kp : Keep K O H O' H') : Run K EX O' H' r k:=by
 cases r with
 | ok a st => exact fun O2 H2 k2 W2 => h O2 H2 (kp.trans k2) W2
 | exc c st => exact fun O2 H2 k2 W2 => h O2 H2 (kp.trans k2) W2
 | bad => exact h
theorem Run.mono {r : Out α} {k k' : α → Sto → List Addr → Hp → Prop} (h : Run K EX O H r k) (f : ∀ a st O' H', Keep K O H O' H' → WR K O' H' st → k a st O' H' → k' a st O' H') : Run K EX O H r k':=by
 cases r with
 | ok a st => exact fun O' H' kp W => f a st O' H' kp W (h O' H' kp W)
 | exc c st => exact h
 | bad => exact h
theorem Run.bind {r : Out α} {g : α → Sto → Out β} {k : β → Sto → List Addr → Hp → Prop} (h : Run K EX O H (r.bind g) k) : Run K EX O H r (fun a st O' H' => Run K EX O' H' (g a st) k):=by
 cases r with
 | ok a st => exact fun O' H' kp W => Run.later (r:=g a st) h kp
 | exc c st => exact h
 | bad => exact h
end
structure REnv (K : PySem.W.Frag) (O : List Addr) (H : Hp) (ρ : Ev) (σ : L2.St) : Prop where
 len : ρ.length = σ.length
 at_ : ∀ (i : Nat) (d : D), ρ[i]? = some (some d) → ∃ v, σ[i]? = some (some v) ∧ Rep K O H d v
section
variable {K : PySem.W.Frag} {O O' : List Addr} {H H' : Hp} {ρ : Ev} {σ : L2.St}
theorem REnv.mono (E : REnv K O H ρ σ) (k : Keep K O H O' H') : REnv K O' H' ρ σ :=
 ⟨E.len, fun i d e => let ⟨v, h, r⟩:=E.at_ i d e; ⟨v, h, Rep.mono k d v r⟩⟩
theorem REnv.set (E : REnv K O H ρ σ) {i : Nat} {d : D} {v : V} (r : Rep K O H d v) : REnv K O H (ρ.set i (some d)) (σ.set i (some v)):=by
 refine ⟨by rw [List.length_set, List.length_set, E.len], fun j e h => ?_⟩
 by_cases hij : i = j
 ·subst hij
  have hl : i < ρ.length:=by
   have:=(List.getElem?_eq_some_iff.mp h).1
   rwa [List.length_set] at this
  rw [List.getElem?_set_self hl] at h
  cases h
  exact ⟨v, List.getElem?_set_self (by rw [← E.len]; exact hl), r⟩
 ·rw [List.getElem?_set_ne hij] at h
  obtain ⟨u, h1, h2⟩:=E.at_ j e h
  exact ⟨u, by rw [List.getElem?_set_ne hij]; exact h1, h2⟩
end
noncomputable abbrev DE:=Ev → Sto → Out D
noncomputable abbrev DT:=Ev → Sto → Out Bool
noncomputable abbrev DA:=Ev → Sto → Out (List D)
noncomputable def EX0 : EXT:=fun _ _ _ _ => False
section
variable (K : PySem.W.Frag) (EX : EXT)
noncomputable def Val (Q : VK) (d : D) (_ : Sto) (O : List Addr) (H : Hp) : Prop:=∀ v, Rep K O H d v → Q v H
noncomputable def Vls (Q : List V → Hp → Prop) (ds : List D) (_ : Sto) (O : List Addr) (H : Hp) : Prop:=∀ vs, Reps K O H ds vs → Q vs H
noncomputable def New (Q : VK) (ds : List D) (_ : Sto) (O : List Addr) (H : Hp) : Prop:=∀ p vs, Reps K O H ds vs → H p = none → Q (.ref p) (upd H p (.lst vs))
noncomputable def tD (f : DE) : TE:=fun σ H Q => ∃ O ρ st, WR K O H st ∧ REnv K O H ρ σ ∧ Run K EX O H (f ρ st) (Val K Q)
noncomputable def tDT (f : DT) : TT:=fun σ H Q => ∃ O ρ st, WR K O H st ∧ REnv K O H ρ σ ∧ Run K EX O H (f ρ st) (fun b _ _ H' => Q b H')
noncomputable def tDA (f : DA) : TA:=fun σ H Q => ∃ O ρ st, WR K O H st ∧ REnv K O H ρ σ ∧ Run K EX O H (f ρ st) (Vls K Q)
noncomputable def tDF (f : DA) : TE:=fun σ H Q => ∃ O ρ st, WR K O H st ∧ REnv K O H ρ σ ∧ Run K EX O H (f ρ st) (New K Q)
noncomputable def rD2 (g : D → D → Sto → Out D) : R2:=fun x y H Q => ∃ O a b st, WR K O H st ∧ Rep K O H a x ∧ Rep K O H b y ∧ Run K EX O H (g a b st) (Val K Q)
noncomputable def rDF2 (g : D → D → Sto → Out (List D)) : R2:=fun x y H Q => ∃ O a b st, WR K O H st ∧ Rep K O H a x ∧ Rep K O H b y ∧ Run K EX O H (g a b st) (New K Q)
noncomputable def rDC (g : List D → Sto → Out D) : List V → Hp → VK → Prop:=fun xs H Q => ∃ O ds st, WR K O H st ∧ Reps K O H ds xs ∧ Run K EX O H (g ds st) (Val K Q)
noncomputable def rDCF (g : List D → Sto → Out (List D)) : List V → Hp → VK → Prop:=fun xs H Q => ∃ O ds st, WR K O H st ∧ Reps K O H ds xs ∧ Run K EX O H (g ds st) (New K Q)
end
section
variable (X : Cx) (EX : EXT)
noncomputable def PD (e : Expr) (f : DE) : Prop:=PE X e (tD X.K EX f)
noncomputable def PDT (e : Expr) (f : DT) : Prop:=PT X e (tDT X.K EX f)
noncomputable def PDW (e : Expr) (f : DT) : Prop:=PW X e (tDT X.K EX f)
noncomputable def PDA (es : List Expr) (f : DA) : Prop:=PA X es (tDA X.K EX f)
noncomputable def PDF (e : Expr) (f : DA) : Prop:=PE X e (tDF X.K EX f)
noncomputable def OpD (f : Value → Value → Sem Value) (g : D → D → Sto → Out D) : Prop:=OpR X f (rD2 X.K EX g)
noncomputable def OpF (f : Value → Value → Sem Value) (g : D → D → Sto → Out (List D)) : Prop:=OpR X f (rDF2 X.K EX g)
noncomputable def CallD (f : Value) (g : List D → Sto → Out D) : Prop:=CallR X f (rDC X.K EX g)
noncomputable def CallF (f : Value) (g : List D → Sto → Out (List D)) : Prop:=CallR X f (rDCF X.K EX g)
end
theorem PE.mono {X : Cx} {e : Expr} {t t' : TE} (h : PE X e t) (f : ∀ σ H Q, t' σ H Q → t σ H Q) : PE X e t':=fun pins s σ H Q I q => h pins s σ H Q I (f σ H Q q)
theorem PT.mono {X : Cx} {e : Expr} {t t' : TT} (h : PT X e t) (f : ∀ σ H Q, t' σ H Q → t σ H Q) : PT X e t':=fun pins s σ H Q I q => h pins s σ H Q I (f σ H Q q)
theorem PW.mono {X : Cx} {e : Expr} {t t' : TT} (h : PW X e t) (f : ∀ σ H Q, t' σ H Q → t σ H Q) : PW X e t':=fun wh pins s σ H Q I q => h wh pins s σ H Q I (f σ H Q q)
theorem PA.mono {X : Cx} {es : List Expr} {t t' : TA} (h : PA X es t) (f : ∀ σ H Q, t' σ H Q → t σ H Q) : PA X es t':=fun pos pins s σ H Q I q => h pos pins s σ H Q I (f σ H Q q)
theorem PS.mono {X : Cx} {e : Stmt} {t t' : TS} (h : PS X e t) (f : ∀ D σ H, t' D σ H → t D σ H) : PS X e t':=fun pins s σ H D I q => h pins s σ H D I (f D σ H q)
theorem PSs.mono {X : Cx} {e : List Stmt} {t t' : TS} (h : PSs X e t) (f : ∀ D σ H, t' D σ H → t D σ H) : PSs X e t':=fun pins s σ H D I q => h pins s σ H D I (f D σ H q)
theorem OpR.mono {X : Cx} {f : Value → Value → Sem Value} {r r' : R2} (h : OpR X f r) (g : ∀ x y H Q, r' x y H Q → r x y H Q) : OpR X f r':=fun pins s σ H x y v u Q I rx ry q => h pins s σ H x y v u Q I rx ry (g x y H Q q)
section
variable {X : Cx} {EX : EXT} {a b c e : Expr} {fa fb fc : DE} {pos : Pos} {ta tb : DT}
noncomputable def dVar (i : Nat) : DE:=fun ρ st => match ρ[i]? with
 | some (some d) => .ok d st
 | _ => .bad
theorem pd_var (i : Nat) {x : Str} {pos : Pos} (hN : X.N[i]? = some x := by rfl) (hv : Vis X.env.scope x := by first | exact Or.inl rfl | exact Or.inr (Or.inl rfl) | exact Or.inr (Or.inr rfl)) (hd : (x == ("__debug__" : Str)) = false := by decide)
  (hcd : (x == ("__classdict__" : Str)) = false := by decide) : PD X EX (.Name x pos) (dVar i) := by
 refine PE.mono (pe_var hN hv hd hcd) ?_
 rintro σ H Q ⟨O, ρ, st, W, E, R⟩
 unfold dVar at R
 cases h : ρ[i]? with
 | none => rw [h] at R; exact R.elim
 | some z =>
  cases z with
  | none => rw [h] at R; exact R.elim
  | some d =>
   rw [h] at R
   obtain ⟨v, h1, r⟩:=E.at_ i d h
   exact ⟨v, h1, R.now W v r⟩
noncomputable def dC (d : D) : DE:=fun _ st => .ok d st
theorem pd_C {v : V} {d : D} (h : PE X e (tC v)) (hr : ∀ O H, Rep X.K O H d v) : PD X EX e (dC d):=by
 refine PE.mono h ?_
 rintro σ H Q ⟨O, ρ, st, W, E, R⟩
 exact R.now W v (hr O H)
theorem pd_int {i j pos} : PD X EX (.Constant (.int i) j pos) (dC (.int i)):=pd_C pe_int fun _ _ => Rep.int_i.mpr rfl
theorem pd_bl {b j pos} : PD X EX (.Constant (.bool b) j pos) (dC (.bl b)):=pd_C pe_bl fun _ _ => Rep.bl_i.mpr rfl
theorem pd_non {j pos} : PD X EX (.Constant .none j pos) (dC .non):=pd_C pe_non fun _ _ => Rep.non_i.mpr rfl
theorem pd_str {x j pos} : PD X EX (.Constant (.str x) j pos) (dC (.str x)):=pd_C pe_str fun _ _ => Rep.str_i.mpr rfl
theorem pd_glob {x : Str} {v : V} {u : Value} {d : D} {pos : Pos} (hg : Gl X x) (hm : X.mg x = some u) (r : RelV v u) (hr : ∀ O H, Rep X.K O H d v) (hd : (x == ("__debug__" : Str)) = false := by decide) : PD X EX (.Name x pos) (dC d) :=
 pd_C (pe_glob hg hm r hd) hr
noncomputable def dBin (g : D → D → Sto → Out D) (fa fb : DE) : DE:=fun ρ st => (fa ρ st).bind fun x st1 => (fb ρ st1).bind fun y st2 => g x y st2
noncomputable def dBinF (g : D → D → Sto → Out (List D)) (fa fb : DE) : DA:=fun ρ st => (fa ρ st).bind fun x st1 => (fb ρ st1).bind fun y st2 => g x y st2
theorem bin_imp {g : D → D → Sto → Out D} : ∀ σ H Q, tD X.K EX (dBin g fa fb) σ H Q → tOp (rD2 X.K EX g) (tD X.K EX fa) (tD X.K EX fb) σ H Q:=by
 rintro σ H Q ⟨O, ρ, st, W, E, R⟩
 refine ⟨O, ρ, st, W, E, R.bind.mono fun x st1 O1 H1 k1 W1 R1 v r => ?_⟩
 refine ⟨O1, ρ, st1, W1, E.mono k1, R1.bind.mono fun y st2 O2 H2 k2 W2 R2 u r2 => ?_⟩
 exact ⟨O2, x, y, st2, W2, Rep.mono k2 x v r, r2, R2⟩
theorem binF_imp {g : D → D → Sto → Out (List D)} : ∀ σ H Q, tDF X.K EX (dBinF g fa fb) σ H Q → tOp (rDF2 X.K EX g) (tD X.K EX fa) (tD X.K EX fb) σ H Q:=by
 rintro σ H Q ⟨O, ρ, st, W, E, R⟩
 refine ⟨O, ρ, st, W, E, R.bind.mono fun x st1 O1 H1 k1 W1 R1 v r => ?_⟩
 refine ⟨O1, ρ, st1, W1, E.mono k1, R1.bind.mono fun y st2 O2 H2 k2 W2 R2 u r2 => ?_⟩
 exact ⟨O2, x, y, st2, W2, Rep.mono k2 x v r, r2, R2⟩
theorem pd_op {op : Operator} {g : D → D → Sto → Out D} (ho : OpD X EX (binaryOp op) g) (ha : PD X EX a fa) (hb : PD X EX b fb) : PD X EX (.BinOp a op b pos) (dBin g fa fb) :=
 PE.mono (pe_op ho ha hb) bin_imp
theorem pdf_op {op : Operator} {g : D → D → Sto → Out (List D)} (ho : OpF X EX (binaryOp op) g) (ha : PD X EX a fa) (hb : PD X EX b fb) : PDF X EX (.BinOp a op b pos) (dBinF g fa fb) :=
 PE.mono (pe_op ho ha hb) binF_imp
theorem pd_cmp {op : CmpOp} {g : D → D → Sto → Out D} (ho : OpD X EX (compareOp op) g) (ha : PD X EX a fa) (hb : PD X EX b fb) (hm : behindInMarks op b = false:=by first | exact nomark _ (by decide) (by decide) | with_unfolding_all rfl) : PD X EX (.Compare a [op] [b] pos) (dBin g fa fb) :=
 PE.mono (pe_cmpR ho ha hb hm) bin_imp
noncomputable def asB : D → Sto → Out Bool
 | .bl b, st => .ok b st
 | _, _ => .bad
noncomputable def dB (f : DE) : DT:=fun ρ st => (f ρ st).bind asB
theorem asB_run {O : List Addr} {H : Hp} {st : Sto} {d : D} {v : V} {Q : Bool → Hp → Prop} (W : WR X.K O H st) (r : Rep X.K O H d v) (R : Run X.K EX O H (asB d st) (fun b _ _ H' => Q b H')) : ∃ k, v = .bl k ∧ Q k H:=by
 cases d with
 | bl b => exact ⟨b, Rep.bl_i.mp r, Run.now (k:=fun b _ _ H' => Q b H') R W⟩
 | _ => exact R.elim
theorem pdt_cmp {op : CmpOp} {g : D → D → Sto → Out D} (ho : OpD X EX (compareOp op) g) (ha : PD X EX a fa) (hb : PD X EX b fb) (hm : behindInMarks op b = false:=by first | exact nomark _ (by decide) (by decide) | with_unfolding_all rfl) : PDT X EX (.Compare a [op] [b] pos) (dB (dBin g fa fb)):=by
 refine PT.mono (pt_cmpR ho ha hb hm) ?_
 rintro σ H Q ⟨O, ρ, st, W, E, R⟩
 exact bin_imp (X:=X) (EX:=EX) σ H _ ⟨O, ρ, st, W, E, R.bind.mono fun d st1 O1 H1 k1 W1 R1 v r => asB_run W1 r R1⟩
theorem pdt_val {f : DE} (h : PD X EX e f) (he : ∀ whole, isTrue e X.env whole = (do let v ← whole; standAt e.pos; holding [v] (truthy v)):=by intro _; rfl) : PDT X EX e (dB f):=by
 refine PT.mono (pt_val h he) ?_
 rintro σ H Q ⟨O, ρ, st, W, E, R⟩
 exact ⟨O, ρ, st, W, E, R.bind.mono fun d st1 O1 H1 k1 W1 R1 v r => asB_run W1 r R1⟩
noncomputable def dAnd (ta tb : DT) : DT:=fun ρ st => (ta ρ st).bind fun x st1 => if x = true then tb ρ st1 else .ok false st1
noncomputable def dOr (ta tb : DT) : DT:=fun ρ st => (ta ρ st).bind fun x st1 => if x = true then .ok true st1 else tb ρ st1
noncomputable def dNot (ta : DT) : DT:=fun ρ st => (ta ρ st).bind fun x st1 => .ok (!x) st1
theorem pdw_and1 (ha : PDT X EX a ta) : PDW X EX (.BoolOp .And [a] pos) ta:=pw_and1 ha
theorem pdw_or1 (ha : PDT X EX a ta) : PDW X EX (.BoolOp .Or [a] pos) ta:=pw_or1 ha
theorem pdw_and {rest : List Expr} (ha : PDT X EX a ta) (hb : PDW X EX (.BoolOp .And (b :: rest) pos) tb) : PDW X EX (.BoolOp .And (a :: b :: rest) pos) (dAnd ta tb):=by
 refine PW.mono (pw_and ha hb) ?_
 rintro σ H Q ⟨O, ρ, st, W, E, R⟩
 refine ⟨O, ρ, st, W, E, R.bind.mono fun x st1 O1 H1 k1 W1 R1 => ?_⟩
 cases x with
 | true => exact ⟨O1, ρ, st1, W1, E.mono k1, R1⟩
 | false => exact Run.now (k:=fun b _ _ H' => Q b H') R1 W1
theorem pdw_or {rest : List Expr} (ha : PDT X EX a ta) (hb : PDW X EX (.BoolOp .Or (b :: rest) pos) tb) : PDW X EX (.BoolOp .Or (a :: b :: rest) pos) (dOr ta tb):=by
 refine PW.mono (pw_or ha hb) ?_
 rintro σ H Q ⟨O, ρ, st, W, E, R⟩
 refine ⟨O, ρ, st, W, E, R.bind.mono fun x st1 O1 H1 k1 W1 R1 => ?_⟩
 cases x with
 | true => exact Run.now (k:=fun b _ _ H' => Q b H') R1 W1
 | false => exact ⟨O1, ρ, st1, W1, E.mono k1, R1⟩
theorem PDW.pt (h : PDW X EX e ta) : PDT X EX e ta:=PW.pt h
theorem pdt_not (ha : PDT X EX a ta) : PDT X EX (.UnaryOp .Not a pos) (dNot ta):=by
 refine PT.mono (pt_not ha) ?_
 rintro σ H Q ⟨O, ρ, st, W, E, R⟩
 exact ⟨O, ρ, st, W, E, R.bind.mono fun x st1 O1 H1 k1 W1 R1 => Run.now (k:=fun b _ _ H' => Q b H') R1 W1⟩
noncomputable def dAndV (fa fb : DE) : DE:=fun ρ st => (fa ρ st).bind fun d st1 => (asB d st1).bind fun x st2 => if x = true then fb ρ st2 else .ok (.bl false) st2
noncomputable def dNotV (fa : DE) : DE:=fun ρ st => (fa ρ st).bind fun d st1 => (asB d st1).bind fun x st2 => .ok (.bl (!x)) st2
theorem asB_runB {O : List Addr} {H : Hp} {st : Sto} {d : D} {v : V} {β : Type} {g : Bool → Sto → Out β} {k : β → Sto → List Addr → Hp → Prop} (r : Rep X.K O H d v) (R : Run X.K EX O H ((asB d st).bind g) k) : ∃ x, v = .bl x ∧ Run X.K EX O H (g x st) k:=by
 cases d with
 | bl b => exact ⟨b, Rep.bl_i.mp r, R⟩
 | _ => exact R.elim
theorem pd_one {op} (h : PD X EX a fa) : PD X EX (.BoolOp op [a] pos) fa:=pe_one h
theorem pd_and {rest : List Expr} (ha : PD X EX a fa) (hb : PD X EX (.BoolOp .And (b :: rest) pos) fb) : PD X EX (.BoolOp .And (a :: b :: rest) pos) (dAndV fa fb):=by
 refine PE.mono (pe_and ha hb) ?_
 rintro σ H Q ⟨O, ρ, st, W, E, R⟩
 refine ⟨O, ρ, st, W, E, R.bind.mono fun d st1 O1 H1 k1 W1 R1 v r => ?_⟩
 obtain ⟨x, rfl, R2⟩:=asB_runB r R1
 refine ⟨x, rfl, ?_⟩
 cases x with
 | true => exact ⟨O1, ρ, st1, W1, E.mono k1, R2⟩
 | false => exact Run.now (k:=Val X.K Q) R2 W1 _ (Rep.bl_i.mpr rfl)
theorem pd_not (ha : PD X EX a fa) : PD X EX (.UnaryOp .Not a pos) (dNotV fa):=by
 refine PE.mono (pe_not ha) ?_
 rintro σ H Q ⟨O, ρ, st, W, E, R⟩
 refine ⟨O, ρ, st, W, E, R.bind.mono fun d st1 O1 H1 k1 W1 R1 v r => ?_⟩
 obtain ⟨x, rfl, R2⟩:=asB_runB r R1
 exact ⟨x, rfl, Run.now (k:=Val X.K Q) R2 W1 _ (Rep.bl_i.mpr rfl)⟩
noncomputable def dIf (t : DT) (fa fb : DE) : DE:=fun ρ st => (t ρ st).bind fun x st1 => if x = true then fa ρ st1 else fb ρ st1
theorem pd_ifExp (hc : PDT X EX c ta) (ha : PD X EX a fa) (hb : PD X EX b fb) : PD X EX (.IfExp c a b pos) (dIf ta fa fb):=by
 refine PE.mono (pe_ifExp hc ha hb) ?_
 rintro σ H Q ⟨O, ρ, st, W, E, R⟩
 refine ⟨O, ρ, st, W, E, R.bind.mono fun x st1 O1 H1 k1 W1 R1 => ?_⟩
 cases x with
 | true => exact ⟨O1, ρ, st1, W1, E.mono k1, R1⟩
 | false => exact ⟨O1, ρ, st1, W1, E.mono k1, R1⟩
noncomputable def dChain (g g' : D → D → Sto → Out D) (fa fb fc : DE) : DE:=fun ρ st => (fa ρ st).bind fun x st1 => (fb ρ st1).bind fun y st2 => (g x y st2).bind fun z st3 => (asB z st3).bind fun k st4 =>
 if k = true then (fc ρ st4).bind fun w st5 => g' y w st5 else .ok (.bl false) st4
theorem chain_imp {g g' : D → D → Sto → Out D} : ∀ σ H Q, tD X.K EX (dChain g g' fa fb fc) σ H Q → tChain (rD2 X.K EX g) (rD2 X.K EX g') (tD X.K EX fa) (tD X.K EX fb) (tD X.K EX fc) σ H Q:=by
 rintro σ H Q ⟨O, ρ, st, W, E, R⟩
 refine ⟨O, ρ, st, W, E, R.bind.mono fun x st1 O1 H1 k1 W1 R1 v r => ?_⟩
 refine ⟨O1, ρ, st1, W1, E.mono k1, R1.bind.mono fun y st2 O2 H2 k2 W2 R2 u r2 => ?_⟩
 refine ⟨O2, x, y, st2, W2, Rep.mono k2 x v r, r2, R2.bind.mono fun z st3 O3 H3 k3 W3 R3 z' rz => ?_⟩
 obtain ⟨k, rfl, R4⟩:=asB_runB rz R3
 refine ⟨k, rfl, ?_⟩
 cases k with
 | true =>
  refine ⟨O3, ρ, st3, W3, E.mono (k1.trans (k2.trans k3)), R4.bind.mono fun w st5 O5 H5 k5 W5 R5 w' rw => ?_⟩
  exact ⟨O5, y, w, st5, W5, Rep.mono (k3.trans k5) y u r2, rw, R5⟩
 | false => exact Run.now (k:=Val X.K Q) R4 W3 _ (Rep.bl_i.mpr rfl)
theorem pd_chain {op op' : CmpOp} {g g' : D → D → Sto → Out D} (ho : OpD X EX (compareOp op) g) (ho' : OpD X EX (compareOp op') g') (ha : PD X EX a fa) (hb : PD X EX b fb) (hc : PD X EX c fc)
  (hm : lastMarks [op, op'] [b, c] = false:=by with_unfolding_all rfl) : PD X EX (.Compare a [op, op'] [b, c] pos) (dChain g g' fa fb fc):=PE.mono (pe_chain ho ho' ha hb hc hm) chain_imp
noncomputable def dNil : DA:=fun _ st => .ok [] st
noncomputable def dCons (f : DE) (g : DA) : DA:=fun ρ st => (f ρ st).bind fun x st1 => (g ρ st1).bind fun xs st2 => .ok (x :: xs) st2
theorem pda_nil : PDA X EX [] dNil:=by
 refine PA.mono pa_nil ?_
 rintro σ H Q ⟨O, ρ, st, W, E, R⟩
 exact Run.now (k:=Vls X.K Q) R W _ (Reps.nil_i.mpr rfl)
theorem pda_cons {es : List Expr} {g : DA} (ha : PD X EX a fa) (hr : PDA X EX es g) (hs : starEach (a :: es) X.env = (false, eval a X.env) :: starEach es X.env:=by rfl) : PDA X EX (a :: es) (dCons fa g):=by
 refine PA.mono (pa_cons ha hr hs) ?_
 rintro σ H Q ⟨O, ρ, st, W, E, R⟩
 refine ⟨O, ρ, st, W, E, R.bind.mono fun x st1 O1 H1 k1 W1 R1 v r => ?_⟩
 refine ⟨O1, ρ, st1, W1, E.mono k1, R1.bind.mono fun xs st2 O2 H2 k2 W2 R2 vs rs => ?_⟩
 exact Run.now (k:=Vls X.K Q) R2 W2 _ (Reps.cons_i.mpr ⟨v, vs, rfl, Rep.mono k2 x v r, rs⟩)
noncomputable def small : Nat:=10000
theorem small_le : small ≤ sizeLine:=by rw [sizeLine_eq]; decide
noncomputable def dTup (g : DA) : DE:=fun ρ st => (g ρ st).bind fun xs st1 => if xs.length ≤ small then .ok (.tup xs) st1 else .bad
noncomputable def dLst (g : DA) : DA:=fun ρ st => (g ρ st).bind fun xs st1 => if xs.length ≤ small then .ok xs st1 else .bad
theorem new_tup {O : List Addr} {H : Hp} {st : Sto} {xs : List D} {vs : List V} {p : Addr} {Q : VK} (W : WR X.K O H st) (r : Reps X.K O H xs vs) (hp : H p = none) (R : Run X.K EX O H (.ok (.tup xs) st) (Val X.K Q)) : Q (.ref p) (upd H p (.tup vs)) :=
 R O (upd H p (.tup vs)) (Keep.laid hp) (W.laid hp) _ (Rep.tup_i.mpr ⟨p, vs, rfl, upd_same, Reps.mono (Keep.laid hp) _ _ r⟩)
theorem new_lst {O : List Addr} {H : Hp} {st : Sto} {xs : List D} {vs : List V} {p : Addr} {Q : VK} (W : WR X.K O H st) (r : Reps X.K O H xs vs) (hp : H p = none) (R : Run X.K EX O H (.ok (.lst xs) st) (Val X.K Q)) : Q (.ref p) (upd H p (.lst vs)):=by
 refine R O (upd H p (.lst vs)) (Keep.laid hp) (W.laid hp) _ (Rep.lst_i.mpr ⟨p, vs, rfl, fun hm => ?_, upd_same, Reps.mono (Keep.laid hp) _ _ r⟩)
 obtain ⟨i, hi⟩:=List.mem_iff_getElem?.mp hm
 exact W.ne hi hp rfl
theorem pd_tup {es : List Expr} {x1} {g : DA} (h : PDA X EX es g) : PD X EX (.Tuple es x1 pos) (dTup g):=by
 refine PE.mono (pe_tup h) ?_
 rintro σ H Q ⟨O, ρ, st, W, E, R⟩
 refine ⟨O, ρ, st, W, E, R.bind.mono fun xs st1 O1 H1 k1 W1 R1 vs r => ?_⟩
 by_cases hz : xs.length ≤ small
 ·rw [if_pos hz] at R1
  exact ⟨by rw [← r.length]; exact Nat.le_trans hz small_le, fun p hp => new_tup W1 r hp R1⟩
 ·rw [if_neg hz] at R1
  exact R1.elim
theorem pdf_lst {es : List Expr} {g : DA} (h : PDA X EX es g) : PDF X EX (.List es pos) (dLst g):=by
 refine PE.mono (pe_lst h) ?_
 rintro σ H Q ⟨O, ρ, st, W, E, R⟩
 refine ⟨O, ρ, st, W, E, R.bind.mono fun xs st1 O1 H1 k1 W1 R1 vs r => ?_⟩
 by_cases hz : xs.length ≤ small
 ·rw [if_pos hz] at R1
  exact ⟨by rw [← r.length]; exact Nat.le_trans hz small_le, fun p hp => Run.now (k:=New X.K Q) R1 W1 p vs r hp⟩
 ·rw [if_neg hz] at R1
  exact R1.elim
noncomputable def dF (f : DA) : DE:=fun ρ st => (f ρ st).bind fun xs st1 => .ok (.lst xs) st1
theorem pd_F {f : DA} (h : PDF X EX e f) : PD X EX e (dF f):=by
 refine PE.mono h ?_
 rintro σ H Q ⟨O, ρ, st, W, E, R⟩
 exact ⟨O, ρ, st, W, E, R.bind.mono fun xs st1 O1 H1 k1 W1 R1 p vs r hp => new_lst W1 r hp R1⟩
end
end DL
end
section
namespace HT
open PySem PyProof.Rows
section
open PySem.SeqAt
open PySem.AutoSeq1 (wpAny_loadPart')
open PySem.MeetsSeq PySem.MeetsSeq2 PySem.MeetsSeq3
variable {prog : Program} {w : World} {A : Around} {E : Value → Shared → Prop} {s : Shared}
theorem cat_tup0 {t b : Addr} {ws : List Value} {Q : Value → Shared → Prop} (ht : IsTup s.heap t #[]) (hb : IsTup s.heap b ws.toArray) (h : Q (.ref b) s) : wpAny (model prog w) A (binaryOp .Add (.ref t) (.ref b)) Q E s:=by
 obtain ⟨⟨cls, dd, data, sl⟩, ho, hc, n, hd⟩:=id ht
 obtain ⟨⟨cls2, dd2, data2, sl2⟩, ho2, hc2, n2, hd2⟩:=id hb
 simp only at hc hd hc2 hd2
 subst hc hd hc2 hd2
 exact concat_meets ⟨_, ho, rfl⟩ ⟨_, ho2, rfl⟩ noFill_tuple_add seq_tuple_add PySem.F.slot_tuple_add PySem.F.entry_tuple_add (PySem.F.args_tuple_add_2 _ _)
   (tuple_addW0 t b #[] ws.toArray n n2 dd dd2 sl sl2 rfl) ⟨ho, ho2, h⟩
theorem getItem_tuple_whole {t sl : Addr} {items : Array Value} {vl vu : Value} {lo hi : Option Int} {Q : Value → Shared → Prop} (ht : IsTup s.heap t items) (hs : s.heap.IsSliceOf sl vl vu .none) (pl : IsPart vl lo) (pu : IsPart vu hi)
  (hw : sIx items.size 0 lo = 0 ∧ sIx items.size items.size hi = items.size) (h : Q (.ref t) s) : wpAny (model prog w) A (getItem (.ref t) (.ref sl)) Q E s:=by
 obtain ⟨os, hos, hcs, hds⟩:=id hs
 have hTs : s.TypeIs (.ref sl) "slice" := ⟨os, hos, hcs⟩
 unfold getItem
 try with_reducible refine wpAny_holding ?_
 first | refine wpAny_bind (wpAny_pure ?_) | skip
 refine wpAny_bind (wpAny_sequenceKey ht.typeIs (by decide) ?_)
 refine wpAny_bind (wpAny_callSpecial?_slot (name := Str.ofString "__getitem__") ht.typeIs PyProof.Rows.slot_tuple_getitem
  (wpAny_call_entry PyProof.Rows.slot_tuple_getitem ht.typeIs entry_tuple_getitem ?_ (args_tuple_getitem _ _)))
 show wpAny _ _ (Builtin.Tuple.tupleItemsOf (.ref t) >>= _) _ _ s
 refine wpAny_bind (tupleItemsOf_ ht ?_)
 refine wpAny_bind (wpAny_typeOf hTs ?_)
 rw [if_pos (by decide)]
 refine wpAny_bind (sliceApplied_gen hs pl pu ?_)
 have hyes : ((((sIx items.size 0 lo : Nat) : Int) == 0 && (1 : Int) == 1 && (sIx items.size items.size hi - sIx items.size 0 lo) == items.size) = true):=by
  rw [hw.1, hw.2]
  simp
 show wpAny _ _ (if (((sIx items.size 0 lo : Nat) : Int) == 0 && (1 : Int) == 1 && (sIx items.size items.size hi - sIx items.size 0 lo) == items.size) = true then _ else _) _ _ s
 rw [if_pos hyes]
 unfold Builtin.Tuple.tupleIsExact
 refine wpAny_bind (wpAny_bind (wpAny_typeOf ht.typeIs (wpAny_pure ?_)))
 rw [if_pos (by decide)]
 refine wpAny_bind (wpAny_rule ?_)
 first
  | exact wpAny_bind (wpAny_pure (wpAny_pure ⟨_, rfl, wpAny_pure h⟩))
  | exact wpAny_bind (wpAny_bind (wpAny_pure (wpAny_pure ⟨_, rfl, wpAny_pure h⟩)))
  | exact wpAny_pure ⟨_, rfl, wpAny_pure h⟩
end
end HT
namespace DL
open PySem PySem.Spec PyProof.Rows L2
section
variable {X : Cx} {EX : EXT}
noncomputable def addD : D → D → Sto → Out D
 | .int a, .int b, st => .ok (.int (a + b)) st
 | .str a, .str b, st => if a.length + b.length ≤ small then .ok (.str (a ++ b)) st else .bad
 | .tup xs, .tup ys, st => if xs.length + ys.length ≤ small then .ok (.tup (xs ++ ys)) st else .bad
 | _, _, _ => .bad
theorem op_addD : OpD X EX (binaryOp .Add) addD:=by
 intro pins s σ H x y v u Q I rx ry h
 obtain ⟨O, a, b, st, W, ra, rb, R⟩:=h
 cases a <;> cases b <;> first | exact R.elim | skip
 case int.int i j =>
  rw [Rep.int_i] at ra rb
  subst ra rb
  exact op_add pins s σ H _ _ v u Q I rx ry ⟨i, j, rfl, rfl, Run.now (k:=Val X.K Q) R W _ (Rep.int_i.mpr rfl)⟩
 case str.str i j =>
  rw [Rep.str_i] at ra rb
  subst ra rb
  dsimp only [addD] at R
  by_cases hz : i.length + j.length ≤ small
  ·rw [if_pos hz] at R
   exact op_add_str pins s σ H _ _ v u Q I rx ry ⟨i, j, rfl, rfl, Nat.le_trans hz small_le, Run.now (k:=Val X.K Q) R W _ (Rep.str_i.mpr rfl)⟩
  ·rw [if_neg hz] at R; exact R.elim
 case tup.tup xs ys =>
  dsimp only [addD] at R
  by_cases hz : xs.length + ys.length ≤ small
  ·rw [if_pos hz] at R
   rw [Rep.tup_i] at ra rb
   obtain ⟨a, vs, rfl, q1, r1⟩:=ra
   obtain ⟨b, ws, rfl, q2, r2⟩:=rb
   by_cases h0 : xs = []
   ·subst h0
    rw [Reps.nil_i] at r1
    subst r1
    cases rx
    cases ry
    obtain ⟨its, v1, p1, _⟩:=I.tuple (SqT.of q1)
    obtain ⟨its2, v2, p2, _⟩:=I.tuple (SqT.of q2)
    cases v1
    exact HT.cat_tup0 p1 p2 ⟨.ref b, H, I, rfl, Run.now (k:=Val X.K Q) R W _ (Rep.tup_i.mpr ⟨b, ws, rfl, q2, r2⟩)⟩
   ·refine op_catT pins s σ H _ _ v u Q I rx ry ⟨a, b, vs, ws, rfl, rfl, SqT.of q1, SqT.of q2, fun z => h0 ?_, ?_, fun z => ?_, fun z p hp => ?_⟩
    ·have:=r1.length; rw [z] at this; exact List.length_eq_zero_iff.mp this
    ·rw [← r1.length, ← r2.length]; exact Nat.le_trans hz small_le
    ·have e : ys = []:=by have:=r2.length; rw [z] at this; exact List.length_eq_zero_iff.mp this
     subst e
     rw [List.append_nil] at R
     exact Run.now (k:=Val X.K Q) R W _ (Rep.tup_i.mpr ⟨a, vs, rfl, q1, r1⟩)
    ·exact new_tup W (r1.append r2) hp R
  ·rw [if_neg hz] at R; exact R.elim
noncomputable def catL (a b : D) (st : Sto) : Out (List D):=match ownL st a, ownL st b with
 | some xs, some ys => if xs.length + ys.length ≤ small then .ok (xs ++ ys) st else .bad
 | _, _ => .bad
theorem op_catL : OpF X EX (binaryOp .Add) catL:=by
 intro pins s σ H x y v u Q I rx ry h
 obtain ⟨O, a, b, st, W, ra, rb, R⟩:=h
 unfold catL at R
 cases ea : ownL st a with
 | none => rw [ea] at R; exact R.elim
 | some xs =>
  cases eb : ownL st b with
  | none => rw [ea, eb] at R; exact R.elim
  | some ys =>
   rw [ea, eb] at R
   dsimp only at R
   by_cases hz : xs.length + ys.length ≤ small
   ·rw [if_pos hz] at R
    obtain ⟨p1, vs, rfl, q1, r1⟩:=rdO W ra ea
    obtain ⟨p2, ws, rfl, q2, r2⟩:=rdO W rb eb
    exact op_cat pins s σ H _ _ v u Q I rx ry ⟨p1, p2, vs, ws, rfl, rfl, q1, q2, by rw [← r1.length, ← r2.length]; exact Nat.le_trans hz small_le, fun p hp => Run.now (k:=New X.K Q) R W p _ (r1.append r2) hp⟩
   ·rw [if_neg hz] at R; exact R.elim
noncomputable def intOp (C : Int → Int → Bool) (g : Int → Int → Int) : D → D → Sto → Out D
 | .int a, .int b, st => if C a b = true then .ok (.int (g a b)) st else .bad
 | _, _, _ => .bad
theorem op_intOp {f : Value → Value → Sem Value} {C : Int → Int → Bool} {P : Int → Int → Prop} {g : Int → Int → Int} (h : OpR X f (rI P fun i j => .int (g i j))) (hC : ∀ i j, C i j = true → P i j) : OpD X EX f (intOp C g):=by
 intro pins s σ H x y v u Q I rx ry h'
 obtain ⟨O, a, b, st, W, ra, rb, R⟩:=h'
 cases a <;> cases b <;> first | exact R.elim | skip
 rename_i i j
 rw [Rep.int_i] at ra rb
 subst ra rb
 dsimp only [intOp] at R
 by_cases hz : C i j = true
 ·rw [if_pos hz] at R
  exact h pins s σ H _ _ v u Q I rx ry ⟨i, j, rfl, rfl, hC i j hz, Run.now (k:=Val X.K Q) R W _ (Rep.int_i.mpr rfl)⟩
 ·rw [if_neg hz] at R; exact R.elim
noncomputable def subD : D → D → Sto → Out D
 | .int a, .int b, st => .ok (.int (a - b)) st
 | _, _, _ => .bad
theorem op_subD : OpD X EX (binaryOp .Sub) subD:=by
 intro pins s σ H x y v u Q I rx ry h
 obtain ⟨O, a, b, st, W, ra, rb, R⟩:=h
 cases a <;> cases b <;> first | exact R.elim | skip
 rename_i i j
 rw [Rep.int_i] at ra rb
 subst ra rb
 exact op_sub pins s σ H _ _ v u Q I rx ry ⟨i, j, rfl, rfl, Run.now (k:=Val X.K Q) R W _ (Rep.int_i.mpr rfl)⟩
noncomputable def mulOk (i j : Int) : Bool:=(decide (-(2 ^ 64) < i) && decide (i < 2 ^ 64)) || (decide (-(2 ^ 64) < j) && decide (j < 2 ^ 64))
noncomputable def mulD : D → D → Sto → Out D:=intOp mulOk fun i j => i * j
theorem op_mulD : OpD X EX (binaryOp .Mult) mulD:=op_intOp op_mul fun i j h => by
 unfold mulOk at h
 rw [Bool.or_eq_true, Bool.and_eq_true, Bool.and_eq_true] at h
 rcases h with ⟨h1, h2⟩ | ⟨h1, h2⟩
 ·exact .inl ⟨of_decide_eq_true h1, of_decide_eq_true h2⟩
 ·exact .inr ⟨of_decide_eq_true h1, of_decide_eq_true h2⟩
noncomputable def divOk (_ j : Int) : Bool:=@decide (0 < j ∧ j < 1073741824) (Classical.propDecidable _)
noncomputable def fdivD : D → D → Sto → Out D:=intOp divOk fun i j => i / j
theorem op_fdivD : OpD X EX (binaryOp .FloorDiv) fdivD:=op_intOp op_fdiv fun i j h => @of_decide_eq_true (0 < j ∧ j < 1073741824) (Classical.propDecidable _) h
noncomputable def modD : D → D → Sto → Out D:=intOp (fun _ j => decide (0 < j)) fun i j => i % j
theorem op_modD : OpD X EX (binaryOp .Mod) modD:=op_intOp op_mod fun i j h => of_decide_eq_true h
noncomputable def depth : Nat:=50
noncomputable def eqD (a b : D) (st : Sto) : Out D:=match eqN st depth a b with
 | some k => .ok (.bl k) st
 | none => .bad
noncomputable def neD (a b : D) (st : Sto) : Out D:=match eqN st depth a b with
 | some k => .ok (.bl (!k)) st
 | none => .bad
theorem op_eqD (hu : X.A.units + 64 < cLine) : OpD X EX (compareOp .Eq) eqD:=by
 intro pins s σ H x y v u Q I rx ry h
 obtain ⟨O, a, b, st, W, ra, rb, R⟩:=h
 unfold eqD at R
 cases e : eqN st depth a b with
 | none => rw [e] at R; exact R.elim
 | some k =>
  rw [e] at R
  have h:=(eq_sound I W depth a b k e X.A x y v u ra rb rx ry (by show X.A.units + 50 < cLine; omega)).2.1
  exact h X.prog X.w X.xe _ ⟨.bl k, H, I, rfl, Run.now (k:=Val X.K Q) R W _ (Rep.bl_i.mpr rfl)⟩
theorem op_neD (hu : X.A.units + 64 < cLine) : OpD X EX (compareOp .NotEq) neD:=by
 intro pins s σ H x y v u Q I rx ry h
 obtain ⟨O, a, b, st, W, ra, rb, R⟩:=h
 unfold neD at R
 cases e : eqN st depth a b with
 | none => rw [e] at R; exact R.elim
 | some k =>
  rw [e] at R
  have h:=(eq_sound I W depth a b k e X.A x y v u ra rb rx ry (by show X.A.units + 50 < cLine; omega)).2.2
  exact h X.prog X.w X.xe _ ⟨.bl (!k), H, I, rfl, Run.now (k:=Val X.K Q) R W _ (Rep.bl_i.mpr rfl)⟩
noncomputable def cmpD (g : Int → Int → Bool) : D → D → Sto → Out D
 | .int a, .int b, st => .ok (.bl (g a b)) st
 | _, _, _ => .bad
theorem op_cmpD {f : Value → Value → Sem Value} {g : Int → Int → Bool} (h : OpR X f (rI0 fun i j => .bl (g i j))) : OpD X EX f (cmpD g):=by
 intro pins s σ H x y v u Q I rx ry h'
 obtain ⟨O, a, b, st, W, ra, rb, R⟩:=h'
 cases a <;> cases b <;> first | exact R.elim | skip
 rename_i i j
 rw [Rep.int_i] at ra rb
 subst ra rb
 exact h pins s σ H _ _ v u Q I rx ry ⟨i, j, rfl, rfl, Run.now (k:=Val X.K Q) R W _ (Rep.bl_i.mpr rfl)⟩
noncomputable def ltD:=cmpD fun i j => decide (i < j)
noncomputable def gtD:=cmpD fun i j => decide (j < i)
theorem op_ltD : OpD X EX (compareOp .Lt) ltD:=op_cmpD op_lt
theorem op_gtD : OpD X EX (compareOp .Gt) gtD:=op_cmpD op_gt
noncomputable def isN : D → Bool
 | .non => true
 | _ => false
noncomputable def isD : D → D → Sto → Out D
 | a, .non, st => .ok (.bl (isN a)) st
 | _, _, _ => .bad
theorem isN_rep {K : PySem.W.Frag} {O : List Addr} {H : Hp} {d : D} {v : V} (r : Rep K O H d v) : decide (v = .non) = isN d:=by
 cases d with
 | non => rw [Rep.non_i] at r; subst r; rfl
 | bl b => rw [Rep.bl_i] at r; subst r; rfl
 | int b => rw [Rep.int_i] at r; subst r; rfl
 | str b => rw [Rep.str_i] at r; subst r; rfl
 | tup ds => rw [Rep.tup_i] at r; obtain ⟨a, _, rfl, _⟩:=r; rfl
 | lst ds => rw [Rep.lst_i] at r; obtain ⟨a, _, rfl, _⟩:=r; rfl
 | scr ds => rw [Rep.scr_i] at r; obtain ⟨a, _, rfl, _⟩:=r; rfl
 | res i => rw [Rep.res_i] at r; obtain ⟨a, rfl, _⟩:=r; rfl
 | exv C => rw [Rep.exv_i] at r; obtain ⟨a, rfl, _⟩:=r; rfl
theorem op_isD : OpD X EX (compareOp .Is) isD:=by
 intro pins s σ H x y v u Q I rx ry h
 obtain ⟨O, a, b, st, W, ra, rb, R⟩:=h
 cases b <;> first | (simp only [isD] at R; exact R.elim) | skip
 rw [Rep.non_i] at rb
 exact op_isN pins s σ H x y v u Q I rx ry ⟨rb, by rw [isN_rep ra]; exact Run.now (k:=Val X.K Q) (by cases a <;> exact R) W _ (Rep.bl_i.mpr rfl)⟩
noncomputable def itemsOf (st : Sto) : D → Option (List D)
 | .tup xs => some xs
 | d => seqL st d
theorem in_units {A : Around} (hu : A.units + 64 < cLine) : A.in1.units + depth < cLine:=by
 show A.units + 1 + 50 < cLine
 omega
end
end DL
end
section
namespace DL
open PySem PySem.Spec PyProof.Rows L2
section
variable {X : Cx} {EX : EXT} {a b c e : Expr} {fa fb fc : DE} {pos p2 : Pos} {ta tb : DT}
noncomputable abbrev DO:=Ev → Sto → Out (Option Int)
noncomputable def tDO (K : PySem.W.Frag) (EX : EXT) (f : DO) : TO:=fun σ H Q => ∃ O ρ st, WR K O H st ∧ REnv K O H ρ σ ∧ Run K EX O H (f ρ st) (fun o _ _ H' => Q o H')
noncomputable def PDO (X : Cx) (EX : EXT) (e : Option Expr) (f : DO) : Prop:=PO X e (tDO X.K EX f)
noncomputable def dNoPart : DO:=fun _ st => .ok none st
noncomputable def asInt : D → Sto → Out (Option Int)
 | .int i, st => .ok (some i) st
 | _, _ => .bad
noncomputable def dPart (f : DE) : DO:=fun ρ st => (f ρ st).bind asInt
theorem PO.mono {e : Option Expr} {t t' : TO} (h : PO X e t) (f : ∀ σ H Q, t' σ H Q → t σ H Q) : PO X e t':=fun pins s σ H Q I q => h pins s σ H Q I (f σ H Q q)
theorem pdo_none : PDO X EX none dNoPart:=by
 refine PO.mono po_none ?_
 rintro σ H Q ⟨O, ρ, st, W, E, R⟩
 exact Run.now (k:=fun o _ _ H' => Q o H') R W
theorem pdo_some {f : DE} (h : PD X EX e f) : PDO X EX (some e) (dPart f):=by
 refine PO.mono (po_some h) ?_
 rintro σ H Q ⟨O, ρ, st, W, E, R⟩
 refine ⟨O, ρ, st, W, E, R.bind.mono fun d st1 O1 H1 k1 W1 R1 v r => ?_⟩
 cases d with
 | int i => exact ⟨i, Rep.int_i.mp r, Run.now (k:=fun o _ _ H' => Q o H') R1 W1⟩
 | _ => exact R1.elim
noncomputable def cutL {α : Type} (xs : List α) (lo hi : Option Int) : List α:=(xs.drop (HT.sIx xs.length 0 lo)).take (HT.sIx xs.length xs.length hi - HT.sIx xs.length 0 lo)
theorem Reps.cut {K : PySem.W.Frag} {O : List Addr} {H : Hp} {ds : List D} {vs : List V} (r : Reps K O H ds vs) (lo hi : Option Int) : Reps K O H (cutL ds lo hi) (cutV vs lo hi):=by
 unfold cutL cutV
 rw [r.length]
 exact (r.drop _).take _
noncomputable def rDS (K : PySem.W.Frag) (EX : EXT) (g : D → Option Int → Option Int → Sto → Out D) : V → Option Int → Option Int → Hp → VK → Prop:=fun x lo hi H Q => ∃ O d st, WR K O H st ∧ Rep K O H d x ∧ Run K EX O H (g d lo hi st) (Val K Q)
noncomputable def rDSF (K : PySem.W.Frag) (EX : EXT) (g : D → Option Int → Option Int → Sto → Out (List D)) : V → Option Int → Option Int → Hp → VK → Prop:=fun x lo hi H Q => ∃ O d st, WR K O H st ∧ Rep K O H d x ∧ Run K EX O H (g d lo hi st) (New K Q)
noncomputable def dSl {α : Type} (g : D → Option Int → Option Int → Sto → Out α) (f : DE) (l h : DO) : Ev → Sto → Out α:=fun ρ st => (f ρ st).bind fun x st1 => (l ρ st1).bind fun lo st2 => (h ρ st2).bind fun hi st3 => g x lo hi st3
theorem pd_slice {g : D → Option Int → Option Int → Sto → Out D} {lo hi : Option Expr} {fl fh : DO} (hr : SlR X (rDS X.K EX g)) (he : PD X EX e fa) (hl : PDO X EX lo fl) (hh : PDO X EX hi fh) : PD X EX (.Subscript e (.Slice lo hi none p2) pos) (dSl g fa fl fh):=by
 refine PE.mono (pe_slice hr he hl hh) ?_
 rintro σ H Q ⟨O, ρ, st, W, E, R⟩
 refine ⟨O, ρ, st, W, E, R.bind.mono fun x st1 O1 H1 k1 W1 R1 v r => ?_⟩
 refine ⟨O1, ρ, st1, W1, E.mono k1, R1.bind.mono fun lo st2 O2 H2 k2 W2 R2 => ?_⟩
 refine ⟨O2, ρ, st2, W2, E.mono (k1.trans k2), R2.bind.mono fun hi st3 O3 H3 k3 W3 R3 => ?_⟩
 exact ⟨O3, x, st3, W3, Rep.mono (k2.trans k3) x v r, R3⟩
theorem pdf_slice {g : D → Option Int → Option Int → Sto → Out (List D)} {lo hi : Option Expr} {fl fh : DO} (hr : SlR X (rDSF X.K EX g)) (he : PD X EX e fa) (hl : PDO X EX lo fl) (hh : PDO X EX hi fh) : PDF X EX (.Subscript e (.Slice lo hi none p2) pos) (dSl g fa fl fh):=by
 refine PE.mono (pe_slice hr he hl hh) ?_
 rintro σ H Q ⟨O, ρ, st, W, E, R⟩
 refine ⟨O, ρ, st, W, E, R.bind.mono fun x st1 O1 H1 k1 W1 R1 v r => ?_⟩
 refine ⟨O1, ρ, st1, W1, E.mono k1, R1.bind.mono fun lo st2 O2 H2 k2 W2 R2 => ?_⟩
 refine ⟨O2, ρ, st2, W2, E.mono (k1.trans k2), R2.bind.mono fun hi st3 O3 H3 k3 W3 R3 => ?_⟩
 exact ⟨O3, x, st3, W3, Rep.mono (k2.trans k3) x v r, R3⟩
noncomputable def cutT : D → Option Int → Option Int → Sto → Out D
 | .tup xs, lo, hi, st => .ok (.tup (cutL xs lo hi)) st
 | _, _, _, _ => .bad
theorem sl_T : SlR X (rDS X.K EX cutT):=by
 intro pins s σ H x v vl vu lo hi sl Q I rx hs pl pu h
 obtain ⟨O, d, st, W, r, R⟩:=h
 cases d with
 | tup xs =>
  rw [Rep.tup_i] at r
  obtain ⟨a, vs, rfl, q, rs⟩:=r
  by_cases hw : HT.sIx vs.length 0 lo = 0 ∧ HT.sIx vs.length vs.length hi = vs.length
  ·cases rx
   obtain ⟨its, hv, ht, hz⟩:=I.tuple (SqT.of q)
   have hlen : its.toArray.size = vs.length:=by rw [List.size_toArray]; exact hv.length.symm
   refine ⟨"tuple", _, PyProof.Rows.slot_tuple_getitem.lookup, ht.typeIs, HT.getItem_tuple_whole ht hs pl pu (by rw [hlen]; exact hw) ?_⟩
   have e : cutL xs lo hi = xs:=by
    unfold cutL
    rw [rs.length, hw.1, hw.2, List.drop_zero, Nat.sub_zero, ← rs.length, List.take_length]
   refine ⟨.ref a, H, I, rfl, ?_⟩
   dsimp only [cutT] at R
   rw [e] at R
   exact Run.now (k:=Val X.K Q) R W _ (Rep.tup_i.mpr ⟨a, vs, rfl, q, rs⟩)
  ·exact sl_tup pins s σ H _ v vl vu lo hi sl Q I rx hs pl pu ⟨a, vs, rfl, SqT.of q, hw, fun p hp => new_tup W (rs.cut lo hi) hp R⟩
 | _ => exact R.elim
noncomputable def cutF (d : D) (lo hi : Option Int) (st : Sto) : Out (List D):=match seqL st d with
 | some xs => .ok (cutL xs lo hi) st
 | none => .bad
theorem sl_F : SlR X (rDSF X.K EX cutF):=by
 intro pins s σ H x v vl vu lo hi sl Q I rx hs pl pu h
 obtain ⟨O, d, st, W, r, R⟩:=h
 unfold cutF at R
 cases e : seqL st d with
 | none => rw [e] at R; exact R.elim
 | some xs =>
  rw [e] at R
  obtain ⟨a, vs, rfl, q, rs⟩:=rdL W r e
  exact sl_list pins s σ H _ v vl vu lo hi sl Q I rx hs pl pu ⟨a, vs, rfl, q, fun p hp => Run.now (k:=New X.K Q) R W p _ (rs.cut lo hi) hp⟩
noncomputable def ixD (d : D) (i : D) (st : Sto) : Out D:=match i with
 | .int k => match d with
  | .str z => if z.length ≤ small then (match atI z.cps.toList k with
   | some c => .ok (.str ⟨#[c]⟩) st
   | none => .bad) else .bad
  | _ => match itemsOf st d with
   | some xs => match atI xs k with
    | some x => .ok x st
    | none => .bad
   | none => .bad
 | _ => .bad
theorem Reps.atI {K : PySem.W.Frag} {O : List Addr} {H : Hp} {ds : List D} {vs : List V} {k : Int} {d : D} (r : Reps K O H ds vs) (h : L2.atI ds k = some d) : ∃ v, L2.atI vs k = some v ∧ Rep K O H d v:=by
 unfold L2.atI at h ⊢
 rw [← r.length]
 cases e : ixN ds.length k with
 | none => rw [e] at h; cases h
 | some j =>
  rw [e] at h
  obtain ⟨v, h1, h2⟩:=r.get (i:=j) (d:=d) h
  exact ⟨v, h1, h2⟩
theorem ix_D : IxR X (rD2 X.K EX ixD):=by
 intro value slice pins s σ H x y v u Q I rx ry h hsub
 obtain ⟨O, d, i, st, W, rd, ri, R⟩:=h
 cases i with
 | int k =>
  rw [Rep.int_i] at ri
  subst ri
  have seq : ∀ xs, itemsOf st d = some xs → Run X.K EX O H (match L2.atI xs k with
    | some x => .ok x st
    | none => .bad) (Val X.K Q) → wpAny (model X.prog X.w) X.A (subscriptTail value slice v u) (EP X pins σ Q) X.xe s:=by
   intro xs e1 R'
   clear R
   cases e2 : L2.atI xs k with
   | none => rw [e2] at R'; exact R'.elim
   | some z =>
    rw [e2] at R'
    by_cases hb : ∃ zs, d = .tup zs
    ·obtain ⟨zs, rfl⟩:=hb
     simp only [itemsOf, Option.some.injEq] at e1
     subst e1
     rw [Rep.tup_i] at rd
     obtain ⟨p, vs, rfl, q, r⟩:=rd
     obtain ⟨w, h1, h2⟩:=r.atI e2
     exact ix_tup value slice pins s σ H _ _ v u Q I rx ry ⟨p, vs, k, w, rfl, rfl, SqT.of q, h1, Run.now (k:=Val X.K Q) R' W _ h2⟩ hsub
    ·have e3 : seqL st d = some xs:=by
      cases d <;> first | exact e1 | exact absurd ⟨_, rfl⟩ hb
     obtain ⟨p, vs, rfl, q, r⟩:=rdL W rd e3
     obtain ⟨w, h1, h2⟩:=r.atI e2
     exact ix_list value slice pins s σ H _ _ v u Q I rx ry ⟨p, vs, k, w, rfl, rfl, q, h1, Run.now (k:=Val X.K Q) R' W _ h2⟩ hsub
  cases d with
  | str z =>
   rw [Rep.str_i] at rd
   subst rd
   dsimp only [ixD] at R
   by_cases hz : z.length ≤ small
   ·rw [if_pos hz] at R
    cases e : L2.atI z.cps.toList k with
    | none => rw [e] at R; exact R.elim
    | some c =>
     rw [e] at R
     exact ix_str value slice pins s σ H _ _ v u Q I rx ry ⟨z, k, c, rfl, rfl, Nat.le_trans hz small_le, e, Run.now (k:=Val X.K Q) R W _ (Rep.str_i.mpr rfl)⟩ hsub
   ·rw [if_neg hz] at R; exact R.elim
  | tup xs => exact seq xs rfl R
  | lst xs => exact seq xs rfl R
  | scr xs => exact seq xs rfl R
  | res j =>
   dsimp only [ixD] at R
   cases e : itemsOf st (.res j) with
   | none => rw [e] at R; exact R.elim
   | some xs => rw [e] at R; exact seq xs e R
  | _ => exact R.elim
 | _ => exact R.elim
theorem pd_ix (ha : PD X EX a fa) (hb : PD X EX b fb) (hs : PlainIx b:=by intro _ _; rfl) : PD X EX (.Subscript a b pos) (dBin ixD fa fb):=PE.mono (pe_ix ix_D ha hb hs) bin_imp
noncomputable def dCall {α : Type} (g : List D → Sto → Out α) (f : DA) : Ev → Sto → Out α:=fun ρ st => (f ρ st).bind g
theorem call_imp {g : List D → Sto → Out D} {f : DA} : ∀ σ H Q, tD X.K EX (dCall g f) σ H Q → tCB (rDC X.K EX g) (tDA X.K EX f) σ H Q:=by
 rintro σ H Q ⟨O, ρ, st, W, E, R⟩
 exact ⟨O, ρ, st, W, E, R.bind.mono fun ds st1 O1 H1 k1 W1 R1 vs r => ⟨O1, ds, st1, W1, r, R1⟩⟩
theorem callF_imp {g : List D → Sto → Out (List D)} {f : DA} : ∀ σ H Q, tDF X.K EX (dCall g f) σ H Q → tCB (rDCF X.K EX g) (tDA X.K EX f) σ H Q:=by
 rintro σ H Q ⟨O, ρ, st, W, E, R⟩
 exact ⟨O, ρ, st, W, E, R.bind.mono fun ds st1 O1 H1 k1 W1 R1 vs r => ⟨O1, ds, st1, W1, r, R1⟩⟩
theorem pd_callB {x : Str} {p : Pos} {es : List Expr} {id : String} {g : List D → Sto → Out D} {f : DA} (hc : CallD X EX (.builtin id) g) (hg : Gl X x) (hm : X.mg x = none) (hv : bootBuiltins x = some (.builtin id)) (ha : PDA X EX (e :: es) f) (hn : x ≠ "__name__" := by decide) (hdb : (x == ("__debug__" : Str)) = false := by decide)
  (he : starEach (e :: es) X.env = (false, eval e X.env) :: starEach es X.env:=by rfl) (hpl : (backTo pos (starEach es X.env)).any (·.1) = false:=by rfl) : PD X EX (.Call (.Name x p) (e :: es) [] pos) (dCall g f):=PE.mono (pe_callB hc hg hm hv ha hn hdb he hpl) call_imp
theorem pd_callTy {x : Str} {p : Pos} {es : List Expr} {T : String} {g : List D → Sto → Out D} {f : DA} (hc : CallD X EX (.type T) g) (hg : Gl X x) (hm : X.mg x = none) (hv : bootBuiltins x = some (.type T)) (ha : PDA X EX (e :: es) f) (hn : x ≠ "__name__" := by decide) (hdb : (x == ("__debug__" : Str)) = false := by decide)
  (he : starEach (e :: es) X.env = (false, eval e X.env) :: starEach es X.env:=by rfl) (hpl : (backTo pos (starEach es X.env)).any (·.1) = false:=by rfl) : PD X EX (.Call (.Name x p) (e :: es) [] pos) (dCall g f):=PE.mono (pe_callTy hc hg hm hv ha hn hdb he hpl) call_imp
noncomputable def lenD : List D → Sto → Out D
 | [.str x], st => if x.length ≤ small then .ok (.int x.length) st else .bad
 | [d], st => match itemsOf st d with
  | some xs => .ok (.int xs.length) st
  | none => .bad
 | _, _ => .bad
theorem itemsOf_rd {O : List Addr} {H : Hp} {st : Sto} (W : WR X.K O H st) {d : D} {v : V} {xs : List D} (r : Rep X.K O H d v) (e : itemsOf st d = some xs) : ∃ p vs, v = .ref p ∧ (SqL X.K H p vs ∨ H p = some (.tup vs)) ∧ Reps X.K O H xs vs:=by
 by_cases hb : ∃ zs, d = .tup zs
 ·obtain ⟨zs, rfl⟩:=hb
  simp only [itemsOf, Option.some.injEq] at e
  subst e
  rw [Rep.tup_i] at r
  obtain ⟨p, vs, rfl, q, r⟩:=r
  exact ⟨p, vs, rfl, .inr q, r⟩
 ·have e3 : seqL st d = some xs:=by
   cases d <;> first | exact e | exact absurd ⟨_, rfl⟩ hb
  obtain ⟨p, vs, rfl, q, r⟩:=rdL W r e3
  exact ⟨p, vs, rfl, .inl q, r⟩
theorem Reps.one_of {K : PySem.W.Frag} {O : List Addr} {H : Hp} {d : D} {vs : List V} (h : Reps K O H [d] vs) : ∃ v, vs = [v] ∧ Rep K O H d v:=by
 obtain ⟨v, r, rfl, q, t⟩:=Reps.cons_i.mp h
 rw [Reps.nil_i] at t
 subst t
 exact ⟨v, rfl, q⟩
theorem Reps.two_of {K : PySem.W.Frag} {O : List Addr} {H : Hp} {d e : D} {vs : List V} (h : Reps K O H [d, e] vs) : ∃ v w, vs = [v, w] ∧ Rep K O H d v ∧ Rep K O H e w:=by
 obtain ⟨v, r, rfl, q, t⟩:=Reps.cons_i.mp h
 obtain ⟨w, rfl, q2⟩:=t.one_of
 exact ⟨v, w, rfl, q, q2⟩
theorem call_lenD : CallD X EX (.builtin "len") lenD := by
 intro pins s σ H xs us Q I rx h
 obtain ⟨O, ds, st, W, r, R⟩:=h
 match ds, r, R with
 | [], _, R => exact R.elim
 | [d], r, R =>
  obtain ⟨v, rfl, rv⟩:=r.one_of
  have seq : ∀ zs, itemsOf st d = some zs → Run X.K EX O H (.ok (.int zs.length) st) (Val X.K Q) → wpAny (model X.prog X.w) X.A (PySem.call (.builtin "len") us) (EP X pins σ Q) X.xe s := by
   intro zs e R
   obtain ⟨p, vs, rfl, q, rs⟩:=itemsOf_rd W rv e
   exact call_len_seq pins s σ H _ us Q I rx ⟨p, vs, rfl, q.imp_right SqT.of, by rw [← rs.length]; exact Run.now (k:=Val X.K Q) R W _ (Rep.int_i.mpr rfl)⟩
  cases d with
  | str x =>
   rw [Rep.str_i] at rv
   subst rv
   dsimp only [lenD] at R
   by_cases hz : x.length ≤ small
   ·rw [if_pos hz] at R
    exact call_len_str pins s σ H _ us Q I rx ⟨x, rfl, Nat.le_trans hz small_le, Run.now (k:=Val X.K Q) R W _ (Rep.int_i.mpr rfl)⟩
   ·rw [if_neg hz] at R; exact R.elim
  | tup zs => exact seq zs rfl R
  | lst zs => exact seq zs rfl R
  | scr zs => exact seq zs rfl R
  | res j =>
   dsimp only [lenD] at R
   cases e : itemsOf st (.res j) with
   | none => rw [e] at R; exact R.elim
   | some xs => rw [e] at R; exact seq xs e R
  | _ => exact R.elim
 | d1 :: _ :: _, _, R => cases d1 <;> exact R.elim
noncomputable def tupleD : List D → Sto → Out D
 | [d], st => match itemsOf st d with
  | some xs => .ok (.tup xs) st
  | none => .bad
 | _, _ => .bad
theorem call_tupleD : CallD X EX (.type "tuple") tupleD := by
 intro pins s σ H xs us Q I rx h
 obtain ⟨O, ds, st, W, r, R⟩:=h
 match ds, r, R with
 | [], _, R => exact R.elim
 | [d], r, R =>
  obtain ⟨v, rfl, rv⟩:=r.one_of
  dsimp only [tupleD] at R
  cases e : itemsOf st d with
  | none => rw [e] at R; exact R.elim
  | some zs =>
   rw [e] at R
   obtain ⟨p, vs, rfl, q, rs⟩:=itemsOf_rd W rv e
   rcases q with q | q
   ·exact call_tuple_of pins s σ H _ us Q I rx ⟨p, vs, rfl, .inl ⟨q, fun l hl => new_tup W rs hl R⟩⟩
   ·exact call_tuple_of pins s σ H _ us Q I rx ⟨p, vs, rfl, .inr ⟨SqT.of q, Run.now (k:=Val X.K Q) R W _ (Rep.tup_i.mpr ⟨p, vs, rfl, q, rs⟩)⟩⟩
 | _ :: _ :: _, _, R => exact R.elim
end
end DL
end
section
namespace DL
open PySem PySem.Spec PyProof.Rows L2
noncomputable abbrev FD:=List D → Sto → Out D
noncomputable def spD (K : PySem.W.Frag) (F : FD) : Sp:=fun vs H Q E => ∃ O ds st, WR K O H st ∧ Reps K O H ds vs ∧ Run K (fun c _ _ H' => E (.ref c) Option.none H') O H (F ds st) (Val K Q)
noncomputable def eOf (EX : EXT) : XK:=fun Cv _ H' => ∃ c st O', Cv = .ref c ∧ EX c st O' H'
noncomputable abbrev XeOk (CX : CXT) (X : Cx) (EX : EXT) : Prop:=Passes CX X (eOf EX)
theorem xe0 {X : Cx} {EX : EXT} : XeOk CX0 X EX:=fun _ _ _ _ _ _ _ h => h.elim
theorem Run.ex {K : PySem.W.Frag} {EX EX' : EXT} {α : Type} {O : List Addr} {H : Hp} {r : Out α} {k : α → Sto → List Addr → Hp → Prop} (h : Run K EX O H r k) (f : ∀ c st O' H', EX c st O' H' → EX' c st O' H') : Run K EX' O H r k:=by
 cases r with
 | ok a st => exact h
 | exc c st => exact fun O' H' kp W => f _ _ _ _ (h O' H' kp W)
 | bad => exact h
theorem Run.eOf {K : PySem.W.Frag} {EX : EXT} {α : Type} {O : List Addr} {H : Hp} {r : Out α} {k : α → Sto → List Addr → Hp → Prop} (h : Run K EX O H r k) : Run K (fun c _ _ H' => eOf EX (.ref c) Option.none H') O H r k :=
 h.ex fun c st O' H' z => ⟨c, st, O', rfl, z⟩
theorem Flds.look {K : PySem.W.Frag} {O : List Addr} {H : Hp} {f : Str} : ∀ {ds : List (Str × D)} {vs : List (Str × V)}, Flds K O H ds vs →
  (ds.lookup f = none → vs.lookup f = none) ∧ ∀ d, ds.lookup f = some d → ∃ v, vs.lookup f = some v ∧ Rep K O H d v
 | [], vs, h => by
  unfold Flds at h
  subst h
  exact ⟨fun _ => rfl, fun d e => by cases e⟩
 | (x, d) :: ds, vs, h => by
  unfold Flds at h
  obtain ⟨v, r, rfl, q, t⟩:=h
  obtain ⟨h1, h2⟩:=Flds.look (f:=f) t
  simp only [List.lookup_cons]
  cases hx : f == x with
  | true => exact ⟨fun e => (by cases e), fun d' e => ⟨v, rfl, by cases e; exact q⟩⟩
  | false => exact ⟨h1, h2⟩
noncomputable def putFD (f : Str) (d : D) : List (Str × D) → List (Str × D)
 | [] => [(f, d)]
 | (g, x) :: r => if g = f then (g, d) :: r else (g, x) :: putFD f d r
theorem Flds.put {K : PySem.W.Frag} {O : List Addr} {H : Hp} {f : Str} {d : D} {v : V} (q : Rep K O H d v) : ∀ {ds : List (Str × D)} {vs : List (Str × V)}, Flds K O H ds vs → Flds K O H (putFD f d ds) (putF f v vs)
 | [], vs, h => by
  unfold Flds at h
  subst h
  show Flds K O H [(f, d)] [(f, v)]
  unfold Flds
  exact ⟨v, [], rfl, q, by unfold Flds; rfl⟩
 | (x, e) :: ds, vs, h => by
  unfold Flds at h
  obtain ⟨u, r, rfl, q', t⟩:=h
  unfold putFD putF
  by_cases hx : x = f
  ·rw [if_pos hx, if_pos hx]
   unfold Flds
   exact ⟨v, r, rfl, q, t⟩
  ·rw [if_neg hx, if_neg hx]
   unfold Flds
   exact ⟨u, putF f v r, rfl, q', Flds.put q t⟩
theorem Flds.length {K : PySem.W.Frag} {O : List Addr} {H : Hp} : ∀ {ds : List (Str × D)} {vs : List (Str × V)}, Flds K O H ds vs → ds.length = vs.length
 | [], vs, h => by unfold Flds at h; subst h; rfl
 | (x, e) :: ds, vs, h => by
  unfold Flds at h
  obtain ⟨u, r, rfl, q', t⟩:=h
  rw [List.length_cons, List.length_cons, Flds.length t]
noncomputable def insAt (C : Addr) (st : Sto) : D → Option (Nat × List (Str × D))
 | .res i => match st[i]? with
  | some (.ins C' fs) => if C' = C then some (i, fs) else none
  | _ => none
 | _ => none
theorem insAt_rd {K : PySem.W.Frag} {O : List Addr} {H : Hp} {st : Sto} (W : WR K O H st) {C : Addr} {d : D} {v : V} {i : Nat} {fs : List (Str × D)} (r : Rep K O H d v) (e : insAt C st d = some (i, fs)) :
  d = .res i ∧ ∃ a dx vfs, v = .ref a ∧ O[i]? = some a ∧ H a = some (.ins C dx vfs) ∧ Flds K O H fs vfs:=by
 cases d with
 | res j =>
  dsimp only [insAt] at e
  cases hs : st[j]? with
  | none => rw [hs] at e; cases e
  | some s =>
   rw [hs] at e
   cases s with
   | lst xs => cases e
   | dct kvs => cases e
   | dtt kvs => cases e
   | ins C' fs' =>
    dsimp only at e
    by_cases hC : C' = C
    ·rw [if_pos hC] at e
     cases e
     subst hC
     rw [Rep.res_i] at r
     obtain ⟨a, rfl, q⟩:=r
     obtain ⟨dx, vfs, h1, h2⟩:=W.at_ _ _ _ q hs
     exact ⟨rfl, a, dx, vfs, rfl, q, h1, h2⟩
    ·rw [if_neg hC] at e; cases e
 | _ => cases e
section
variable {X : Cx} {EX : EXT} {a b c e o : Expr} {fa fb fc fo : DE} {pos p apos : Pos} {ta tb : DT} {CX : CXT} {k : Nat} {f C : Addr} {fd : FuncData} {ps : List Str} {n : Nat} {F : FD} {x m : Str} {es : List Expr} {g : DA}
theorem pd_call (G : FnOk X.prog X.w X.K X.mg X.base CX k f fd ps (spD X.K F)) (hr : Room k X.A) (hg : Gl X x) (hm : X.mg x = some (.ref f)) (hk : PySem.W.keepIn X.K (.ref f) = true) (hb : Binds X.K fd ps []) (hx : XeOk CX X EX) (ha : PDA X EX (e :: es) g)
  (hdb : (x == ("__debug__" : Str)) = false := by decide) (he : starEach (e :: es) X.env = (false, eval e X.env) :: starEach es X.env := by rfl) (hpl : (backTo pos (starEach es X.env)).any (·.1) = false := by rfl) :
  PD X EX (.Call (.Name x p) (e :: es) [] pos) (dCall F g):=by
 refine PE.mono (pe_call G hr hg hm hk hb .nil hx ha hdb he hpl) ?_
 rintro σ H Q ⟨O, ρ, st, W, E, R⟩
 refine ⟨O, ρ, st, W, E, R.bind.mono fun ds st1 O1 H1 k1 W1 R2 vs r => ?_⟩
 dsimp only
 rw [List.append_nil]
 exact ⟨O1, ds, st1, W1, r, R2.eOf⟩
noncomputable def dMeth (C : Addr) (m : Str) (F : FD) (fo : DE) (g : DA) : DE:=fun ρ st => (fo ρ st).bind fun d st1 => match insAt C st1 d with
 | some (_, fs) => if fs.lookup m = none then (g ρ st1).bind fun ds st2 => F (d :: ds) st2 else .bad
 | none => .bad
theorem meth_imp {g : DA} : ∀ σ H Q, tD X.K EX (dMeth C m F fo g) σ H Q → tMeth C m (spD X.K F) [] (eOf EX) (tD X.K EX fo) (tDA X.K EX g) σ H Q:=by
 rintro σ H Q ⟨O, ρ, st, W, E, R⟩
 refine ⟨O, ρ, st, W, E, R.bind.mono fun d st1 O1 H1 k1 W1 R1 v r => ?_⟩
 cases e : insAt C st1 d with
 | none => rw [e] at R1; exact R1.elim
 | some q =>
  obtain ⟨i, fs⟩:=q
  rw [e] at R1
  dsimp only at R1
  obtain ⟨rfl, a, dx, vfs, rfl, ho, hH, hf⟩:=insAt_rd W1 r e
  by_cases hm : fs.lookup m = none
  ·rw [if_pos hm] at R1
   refine ⟨a, dx, vfs, rfl, hH, hf.look.1 hm, O1, ρ, st1, W1, E.mono k1, R1.bind.mono fun ds st2 O2 H2 k2 W2 R2 vs rs => ?_⟩
   dsimp only
   rw [List.append_nil]
   exact ⟨O2, _, st2, W2, Reps.cons_i.mpr ⟨_, vs, rfl, Rep.mono k2 _ _ r, rs⟩, R2.eOf⟩
  ·rw [if_neg hm] at R1; exact R1.elim
theorem pd_meth {pl : Sem Bool} (he : PD X EX o fo) (c : Cls X.K C) (hm : Meth X.K C m f) (G : FnOk X.prog X.w X.K X.mg X.base CX k f fd ps (spD X.K F)) (hr : Room k X.A) (hb : Binds X.K fd ps []) (hx : XeOk CX X EX) (ha : PDA X EX (e :: es) g)
  (hst : starEach (e :: es) X.env = (false, eval e X.env) :: starEach es X.env:=by rfl) (hpl : (backTo pos (starEach es X.env)).any (·.1) = false:=by rfl)
  (ht : eval (.Call (.Attribute o m apos) (e :: es) [] pos) X.env = (do
   let ov ← eval o X.env
   standAt apos.atName
   let (f, first) ← holding [ov] (getMethod ov m pl)
   callWith pos f first (backTo pos (starEach (e :: es) X.env)) (backToKw pos (keywordEach [] X.env))):=by rfl) :
  PD X EX (.Call (.Attribute o m apos) (e :: es) [] pos) (dMeth C m F fo g):=PE.mono (pe_meth he c hm G hr hb .nil hx ha hst hpl ht) meth_imp
theorem pd_meth0 {pl : Sem Bool} (he : PD X EX o fo) (c : Cls X.K C) (hm : Meth X.K C m f) (G : FnOk X.prog X.w X.K X.mg X.base CX k f fd ps (spD X.K F)) (hr : Room k X.A) (hb : Binds X.K fd ps []) (hx : XeOk CX X EX)
  (ht : eval (.Call (.Attribute o m apos) [] [] pos) X.env = (do
   let ov ← eval o X.env
   standAt apos.atName
   let (f, first) ← holding [ov] (getMethod ov m pl)
   callWith pos f first (backTo pos (starEach [] X.env)) (backToKw pos (keywordEach [] X.env))):=by rfl) :
  PD X EX (.Call (.Attribute o m apos) [] [] pos) (dMeth C m F fo dNil):=by
 refine PE.mono (pe_meth0 he c hm G hr hb .nil hx ht) fun σ H Q h => ?_
 obtain ⟨O, ρ, st, W, E, R⟩:=meth_imp (X:=X) (EX:=EX) σ H Q h
 refine ⟨O, ρ, st, W, E, R.mono fun d st1 O1 H1 k1 W1 R1 v r => ?_⟩
 obtain ⟨a, dx, fs, h1, h2, h3, O2, ρ2, st2, W2, E2, R2⟩:=R1 v r
 exact ⟨a, dx, fs, h1, h2, h3, Run.now (k:=Vls X.K _) R2 W2 _ (Reps.nil_i.mpr rfl)⟩
noncomputable def dFld (C : Addr) (x : Str) (fo : DE) : DE:=fun ρ st => (fo ρ st).bind fun d st1 => match insAt C st1 d with
 | some (_, fs) => match fs.lookup x with
  | some v => .ok v st1
  | none => .bad
 | none => .bad
theorem pd_fld (he : PD X EX e fo) (c : Cls X.K C) (na : NoAttr X.K C x) (hb : attributeBase e x X.env (eval e X.env) = eval e X.env:=by rfl) : PD X EX (.Attribute e x pos) (dFld C x fo):=by
 refine PE.mono (pe_fld he hb) ?_
 rintro σ H Q ⟨O, ρ, st, W, E, R⟩
 refine ⟨O, ρ, st, W, E, R.bind.mono fun d st1 O1 H1 k1 W1 R1 v r => ?_⟩
 cases e : insAt C st1 d with
 | none => rw [e] at R1; exact R1.elim
 | some q =>
  obtain ⟨i, fs⟩:=q
  rw [e] at R1
  dsimp only at R1
  obtain ⟨rfl, a, dx, vfs, rfl, ho, hH, hf⟩:=insAt_rd W1 r e
  cases hl : fs.lookup x with
  | none => rw [hl] at R1; exact R1.elim
  | some w =>
   rw [hl] at R1
   obtain ⟨u, h1, h2⟩:=hf.look.2 w hl
   exact ⟨a, C, dx, vfs, u, rfl, hH, c, na, h1, Run.now (k:=Val X.K Q) R1 W1 _ h2⟩
noncomputable def asNon : D → Sto → Out Unit
 | .non, st => .ok () st
 | _, _ => .bad
noncomputable def dMake (C : Addr) (F : FD) (g : DA) : DE:=fun ρ st => (g ρ st).bind fun ds st1 => (F (.res st1.length :: ds) (st1 ++ [.ins C []])).bind fun d st2 => (asNon d st2).bind fun _ st3 => .ok (.res st1.length) st3
theorem make_imp {g : DA} : ∀ σ H Q, tD X.K EX (dMake C F g) σ H Q → tMake C (spD X.K F) [] (eOf EX) (tDA X.K EX g) σ H Q:=by
 rintro σ H Q ⟨O, ρ, st, W, E, R⟩
 refine ⟨O, ρ, st, W, E, R.bind.mono fun ds st1 O1 H1 k1 W1 R1 vs rs => ?_⟩
 intro y dy hy hdy hne
 rw [List.append_nil]
 have hy' : (upd H1 dy (.own y)) y = none:=by rw [upd_ne (Ne.symm hne)]; exact hy
 have kk : Keep X.K O1 H1 (O1 ++ [y]) (upd (upd H1 dy (.own y)) y (.ins C dy [])):=(Keep.laid hdy).trans (Keep.push hy')
 have WW : WR X.K (O1 ++ [y]) (upd (upd H1 dy (.own y)) y (.ins C dy [])) (st1 ++ [.ins C []]):=(W1.laid hdy).push' hy' ⟨dy, [], upd_same, by unfold Flds; rfl⟩
 refine ⟨O1 ++ [y], .res st1.length :: ds, st1 ++ [.ins C []], WW, Reps.cons_i.mpr ⟨.ref y, vs, rfl, rep_last W1.len, Reps.mono kk _ _ rs⟩, ?_⟩
 refine Run.eOf ?_
 refine (Run.later R1 kk).bind.mono fun d st2 O2 H2 k2 W2 R2 v r => ?_
 cases d with
 | non => exact ⟨Rep.non_i.mp r, Run.now (k:=Val X.K Q) R2 W2 _ (Rep.mono k2 _ _ (rep_last W1.len))⟩
 | _ => exact R2.elim
theorem pd_make0 {fI : Addr} (M : Mk X.K C fI) (G : FnOk X.prog X.w X.K X.mg X.base CX k fI fd ps (spD X.K F)) (hr : Room (k + 1) X.A) (hg : Gl X x) (hm : X.mg x = some (.ref C)) (hb : Binds X.K fd ps []) (hx : XeOk CX X EX)
  (hdb : (x == ("__debug__" : Str)) = false := by decide) : PD X EX (.Call (.Name x p) [] [] pos) (dMake C F dNil) := by
 refine PE.mono (pe_make0 M G hr hg hm hb .nil hx hdb) fun σ H Q h => ?_
 obtain ⟨O, ρ, st, W, E, R⟩:=make_imp (X:=X) (EX:=EX) σ H Q h
 exact Run.now (k:=Vls X.K _) R W _ (Reps.nil_i.mpr rfl)
end
inductive OutS where
 | nx (ρ : Ev) (st : Sto) | rt (d : D) (st : Sto) | bk (ρ : Ev) (st : Sto) | ct (ρ : Ev) (st : Sto) | exc (c : Addr) (st : Sto) | bad
noncomputable abbrev DS:=Ev → Sto → OutS
noncomputable def RunS (K : PySem.W.Frag) (EX : EXT) (Dn : Ends) (O : List Addr) (H : Hp) : OutS → Prop
 | .nx ρ st => ∀ O' H' σ, Keep K O H O' H' → WR K O' H' st → REnv K O' H' ρ σ → Dn.nx σ H'
 | .bk ρ st => ∀ O' H' σ, Keep K O H O' H' → WR K O' H' st → REnv K O' H' ρ σ → Dn.bk σ H'
 | .ct ρ st => ∀ O' H' σ, Keep K O H O' H' → WR K O' H' st → REnv K O' H' ρ σ → Dn.ct σ H'
 | .rt d st => ∀ O' H' v, Keep K O H O' H' → WR K O' H' st → Rep K O' H' d v → Dn.rt v H'
 | .exc c st => ∀ O' H', Keep K O H O' H' → WR K O' H' st → EX c st O' H'
 | .bad => False
noncomputable def tDS (K : PySem.W.Frag) (EX : EXT) (g : DS) : TS:=fun Dn σ H => ∃ O ρ st, WR K O H st ∧ REnv K O H ρ σ ∧ RunS K EX Dn O H (g ρ st)
noncomputable def PDs (X : Cx) (EX : EXT) (s : Stmt) (g : DS) : Prop:=PS X s (tDS X.K EX g)
noncomputable def PDS (X : Cx) (EX : EXT) (ss : List Stmt) (g : DS) : Prop:=PSs X ss (tDS X.K EX g)
theorem RunS.later {K : PySem.W.Frag} {EX : EXT} {Dn : Ends} {O O' : List Addr} {H H' : Hp} {r : OutS} (h : RunS K EX Dn O H r) (kp : Keep K O H O' H') : RunS K EX Dn O' H' r:=by
 cases r with
 | bad => exact h
 | exc c st => exact fun O2 H2 k2 W2 => h O2 H2 (kp.trans k2) W2
 | rt d st => exact fun O2 H2 v k2 W2 r2 => h O2 H2 v (kp.trans k2) W2 r2
 | nx ρ st => exact fun O2 H2 v k2 W2 r2 => h O2 H2 v (kp.trans k2) W2 r2
 | bk ρ st => exact fun O2 H2 v k2 W2 r2 => h O2 H2 v (kp.trans k2) W2 r2
 | ct ρ st => exact fun O2 H2 v k2 W2 r2 => h O2 H2 v (kp.trans k2) W2 r2
noncomputable def Out.to {α : Type} (r : Out α) (k : α → Sto → OutS) : OutS:=match r with
 | .ok a st => k a st
 | .exc c st => .exc c st
 | .bad => .bad
theorem RunS.to {K : PySem.W.Frag} {EX : EXT} {Dn : Ends} {α : Type} {O : List Addr} {H : Hp} {r : Out α} {g : α → Sto → OutS} (h : RunS K EX Dn O H (r.to g)) : Run K EX O H r (fun a st O' H' => RunS K EX Dn O' H' (g a st)):=by
 cases r with
 | ok a st => exact fun O' H' kp W => RunS.later (r:=g a st) h kp
 | exc c st => exact h
 | bad => exact h
section
variable {X : Cx} {EX : EXT} {a b c e o tg : Expr} {fa fb fc fo : DE} {pos p apos : Pos} {ta tb : DT} {s : Stmt} {ss : List Stmt} {g g' : DS} {x : Str} {C : Addr}
noncomputable def sNext : DS:=fun ρ st => .nx ρ st
noncomputable def sSeq (g g' : DS) : DS:=fun ρ st => match g ρ st with
 | .nx ρ' st' => g' ρ' st'
 | r => r
theorem pds_nil : PDS X EX [] sNext:=by
 refine PSs.mono pss_nil ?_
 rintro Dn σ H ⟨O, ρ, st, W, E, R⟩
 exact R O H σ Keep.refl W E
theorem pds_cons (h1 : PDs X EX s g) (h2 : PDS X EX ss g') : PDS X EX (s :: ss) (sSeq g g'):=by
 refine PSs.mono (pss_cons h1 h2) ?_
 rintro Dn σ H ⟨O, ρ, st, W, E, R⟩
 refine ⟨O, ρ, st, W, E, ?_⟩
 unfold sSeq at R
 cases hg : g ρ st with
 | nx ρ' st' =>
  rw [hg] at R
  exact fun O' H' σ' kp W' E' => ⟨O', ρ', st', W', E', RunS.later R kp⟩
 | _ => rw [hg] at R; exact R
theorem pds_one (h1 : PDs X EX s g) : PDS X EX [s] g:=pss_one h1
noncomputable def sExpr (f : DE) : DS:=fun ρ st => (f ρ st).to fun _ st1 => .nx ρ st1
theorem pd_expr (he : PD X EX e fa) (hs : swapsWith e none pos.line X.env = pure false:=by rfl) : PDs X EX (.Expr e pos) (sExpr fa):=by
 refine PS.mono (ps_expr he hs) ?_
 rintro Dn σ H ⟨O, ρ, st, W, E, R⟩
 exact ⟨O, ρ, st, W, E, R.to.mono fun d st1 O1 H1 k1 W1 R1 v r => R1 O1 H1 σ Keep.refl W1 (E.mono k1)⟩
noncomputable def sRet (f : DE) : DS:=fun ρ st => (f ρ st).to fun d st1 => .rt d st1
theorem pd_ret (he : PD X EX e fa) : PDs X EX (.Return (some e) pos) (sRet fa):=by
 refine PS.mono (ps_ret he) ?_
 rintro Dn σ H ⟨O, ρ, st, W, E, R⟩
 exact ⟨O, ρ, st, W, E, R.to.mono fun d st1 O1 H1 k1 W1 R1 v r => R1 O1 H1 v Keep.refl W1 r⟩
noncomputable def sRetF (f : DA) : DS:=fun ρ st => (f ρ st).to fun ds st1 => .rt (.res st1.length) (st1 ++ [.lst ds])
theorem pd_retF {f : DA} (he : PDF X EX e f) : PDs X EX (.Return (some e) pos) (sRetF f):=by
 refine PS.mono (ps_ret he) ?_
 rintro Dn σ H ⟨O, ρ, st, W, E, R⟩
 exact ⟨O, ρ, st, W, E, R.to.mono fun ds st1 O1 H1 k1 W1 R1 p vs r hp => R1 (O1 ++ [p]) _ _ (Keep.push hp) (W1.push hp r) (rep_last W1.len)⟩
noncomputable def sIf (t : DT) (g g' : DS) : DS:=fun ρ st => (t ρ st).to fun x st1 => if x = true then g ρ st1 else g' ρ st1
theorem pd_if {sa sb : List Stmt} (hc : PDT X EX c ta) (ha : PDS X EX sa g) (hb : PDS X EX sb g') : PDs X EX (.If c sa sb pos) (sIf ta g g'):=by
 refine PS.mono (ps_if hc ha hb) ?_
 rintro Dn σ H ⟨O, ρ, st, W, E, R⟩
 refine ⟨O, ρ, st, W, E, R.to.mono fun x st1 O1 H1 k1 W1 R1 => ?_⟩
 cases x with
 | true => exact ⟨O1, ρ, st1, W1, E.mono k1, R1⟩
 | false => exact ⟨O1, ρ, st1, W1, E.mono k1, R1⟩
noncomputable def sSet (i : Nat) (f : DE) : DS:=fun ρ st => (f ρ st).to fun d st1 => .nx (ρ.set i (some d)) st1
theorem pd_set (i : Nat) {pos' : Pos} (hN : X.N.Nodup) (hi : X.N[i]? = some x) (hx : Loc X.env.scope x) (he : PD X EX e fa) (hs : swapsWith e (some (.Name x pos')) pos.line X.env = pure false:=by rfl)
  (hf : X.fn x = true ∨ X.env.scope.names.lookup x = some .local:=by first | exact .inl rfl | exact .inr rfl | assumption) : PDs X EX (.Assign [.Name x pos'] e pos) (sSet i fa):=by
 refine PS.mono (ps_set hN hi hx he hs hf) ?_
 rintro Dn σ H ⟨O, ρ, st, W, E, R⟩
 exact ⟨O, ρ, st, W, E, R.to.mono fun d st1 O1 H1 k1 W1 R1 v r => R1 O1 H1 _ Keep.refl W1 ((E.mono k1).set r)⟩
noncomputable def sSetF (i : Nat) (f : DA) : DS:=fun ρ st => (f ρ st).to fun ds st1 => .nx (ρ.set i (some (.res st1.length))) (st1 ++ [.lst ds])
theorem pd_setF (i : Nat) {f : DA} {pos' : Pos} (hN : X.N.Nodup) (hi : X.N[i]? = some x) (hx : Loc X.env.scope x) (he : PDF X EX e f) (hs : swapsWith e (some (.Name x pos')) pos.line X.env = pure false:=by rfl)
  (hf : X.fn x = true ∨ X.env.scope.names.lookup x = some .local:=by first | exact .inl rfl | exact .inr rfl | assumption) : PDs X EX (.Assign [.Name x pos'] e pos) (sSetF i f):=by
 refine PS.mono (ps_set hN hi hx he hs hf) ?_
 rintro Dn σ H ⟨O, ρ, st, W, E, R⟩
 exact ⟨O, ρ, st, W, E, R.to.mono fun ds st1 O1 H1 k1 W1 R1 p vs r hp => R1 (O1 ++ [p]) _ _ (Keep.push hp) (W1.push hp r) ((E.mono (k1.trans (Keep.push hp))).set (rep_last W1.len))⟩
noncomputable def sFldS (C : Addr) (x : Str) (fo fv : DE) : DS:=fun ρ st => (fv ρ st).to fun v st1 => (fo ρ st1).to fun d st2 => match insAt C st2 d with
 | some (i, fs) => if fs.length < 900 then .nx ρ (st2.set i (.ins C (putFD x v fs))) else .bad
 | none => .bad
theorem pd_fldS {pos' : Pos} (ha : PD X EX o fo) (hv : PD X EX e fa) (c : Cls X.K C) (na : NoAttr X.K C x) (hs : swapsWith e (some (.Attribute o x pos')) pos.line X.env = pure false:=by rfl) : PDs X EX (.Assign [.Attribute o x pos'] e pos) (sFldS C x fo fa):=by
 refine PS.mono (ps_fld ha hv hs) ?_
 rintro Dn σ H ⟨O, ρ, st, W, E, R⟩
 refine ⟨O, ρ, st, W, E, R.to.mono fun w st1 O1 H1 k1 W1 R1 v r => ?_⟩
 refine ⟨O1, ρ, st1, W1, E.mono k1, R1.to.mono fun d st2 O2 H2 k2 W2 R2 u r2 => ?_⟩
 cases e : insAt C st2 d with
 | none => rw [e] at R2; exact R2.elim
 | some q =>
  obtain ⟨i, fs⟩:=q
  rw [e] at R2
  dsimp only at R2
  obtain ⟨rfl, a, dx, vfs, rfl, ho, hH, hf⟩:=insAt_rd W2 r2 e
  by_cases hl : fs.length < 900
  ·rw [if_pos hl] at R2
   refine ⟨a, C, dx, vfs, rfl, hH, c, na, by rw [← hf.length]; omega, ?_⟩
   have kw : Keep X.K O2 H2 O2 (upd H2 a (.ins C dx (putF x v vfs))):=Keep.write W2 ho
   exact R2 O2 _ σ kw (W2.write ho ⟨dx, _, upd_same, Flds.mono kw _ _ (hf.put (Rep.mono k2 _ _ r))⟩) (E.mono (k1.trans (k2.trans kw)))
  ·rw [if_neg hl] at R2; exact R2.elim
noncomputable def sFldF (C : Addr) (x : Str) (fo : DE) (fv : DA) : DS:=fun ρ st => (fv ρ st).to fun vs st1 => (fo ρ (st1 ++ [.lst vs])).to fun d st2 => match insAt C st2 d with
 | some (i, fs) => if fs.length < 900 then .nx ρ (st2.set i (.ins C (putFD x (.res st1.length) fs))) else .bad
 | none => .bad
theorem pd_fldF {f : DA} {pos' : Pos} (ha : PD X EX o fo) (hv : PDF X EX e f) (c : Cls X.K C) (na : NoAttr X.K C x) (hs : swapsWith e (some (.Attribute o x pos')) pos.line X.env = pure false:=by rfl) : PDs X EX (.Assign [.Attribute o x pos'] e pos) (sFldF C x fo f):=by
 refine PS.mono (ps_fld ha hv hs) ?_
 rintro Dn σ H ⟨O, ρ, st, W, E, R⟩
 refine ⟨O, ρ, st, W, E, R.to.mono fun w st1 O1 H1 k1 W1 R1 p vs r hp => ?_⟩
 refine ⟨O1 ++ [p], ρ, st1 ++ [.lst w], W1.push hp r, E.mono (k1.trans (Keep.push hp)), (RunS.later R1 (Keep.push hp)).to.mono fun d st2 O2 H2 k2 W2 R2 u r2 => ?_⟩
 cases e : insAt C st2 d with
 | none => rw [e] at R2; exact R2.elim
 | some q =>
  obtain ⟨i, fs⟩:=q
  rw [e] at R2
  dsimp only at R2
  obtain ⟨rfl, a, dx, vfs, rfl, ho, hH, hf⟩:=insAt_rd W2 r2 e
  by_cases hl : fs.length < 900
  ·rw [if_pos hl] at R2
   refine ⟨a, C, dx, vfs, rfl, hH, c, na, by rw [← hf.length]; omega, ?_⟩
   have kw : Keep X.K O2 H2 O2 (upd H2 a (.ins C dx (putF x (.ref p) vfs))):=Keep.write W2 ho
   exact R2 O2 _ σ kw (W2.write ho ⟨dx, _, upd_same, Flds.mono kw _ _ (hf.put (Rep.mono k2 _ _ (rep_last W1.len)))⟩) (E.mono (k1.trans ((Keep.push hp).trans (k2.trans kw))))
  ·rw [if_neg hl] at R2; exact R2.elim
noncomputable def sFldAdd (C : Addr) (x : Str) (fo fv : DE) : DS:=fun ρ st => (fo ρ st).to fun d st1 => match insAt C st1 d with
 | some (i, fs) => match fs.lookup x with
  | some (.int z) => (fv ρ st1).to fun v st2 => match v with
   | .int y => match insAt C st2 d with
    | some (j, fs') => if fs'.length < 900 then .nx ρ (st2.set j (.ins C (putFD x (.int (z + y)) fs'))) else .bad
    | none => .bad
   | _ => .bad
  | _ => .bad
 | none => .bad
theorem pd_fldAdd {tpos : Pos} (ha : PD X EX o fo) (hv : PD X EX e fa) (c : Cls X.K C) (na : NoAttr X.K C x) : PDs X EX (.AugAssign (.Attribute o x tpos) .Add e pos) (sFldAdd C x fo fa):=by
 refine PS.mono (ps_fldaug ha hv in_add) ?_
 rintro Dn σ H ⟨O, ρ, st, W, E, R⟩
 refine ⟨O, ρ, st, W, E, R.to.mono fun d st1 O1 H1 k1 W1 R1 u r => ?_⟩
 cases e : insAt C st1 d with
 | none => rw [e] at R1; exact R1.elim
 | some q =>
  obtain ⟨i, fs⟩:=q
  rw [e] at R1
  dsimp only at R1
  obtain ⟨rfl, a, dx, vfs, rfl, ho, hH, hf⟩:=insAt_rd W1 r e
  cases hl : fs.lookup x with
  | none => rw [hl] at R1; exact R1.elim
  | some w =>
   rw [hl] at R1
   cases w with
   | int z =>
    dsimp only at R1
    obtain ⟨v, h1, h2⟩:=hf.look.2 _ hl
    rw [Rep.int_i] at h2
    subst h2
    refine ⟨a, C, dx, vfs, _, rfl, hH, c, na, h1, O1, ρ, st1, W1, E.mono k1, R1.to.mono fun y st2 O2 H2 k2 W2 R2 vy ry => ?_⟩
    cases y with
    | int y =>
     rw [Rep.int_i] at ry
     subst ry
     refine ⟨z, y, rfl, rfl, ?_⟩
     dsimp only at R2
     cases e2 : insAt C st2 (.res i) with
     | none => rw [e2] at R2; exact R2.elim
     | some q =>
      obtain ⟨j, fs'⟩:=q
      rw [e2] at R2
      dsimp only at R2
      obtain ⟨ej, a', dx', vfs', ea, ho', hH', hf'⟩:=insAt_rd W2 (Rep.mono k2 _ _ r) e2
      cases ej
      cases ea
      by_cases hl2 : fs'.length < 900
      ·rw [if_pos hl2] at R2
       refine ⟨dx', vfs', hH', by rw [← hf'.length]; omega, ?_⟩
       have kw : Keep X.K O2 H2 O2 (upd H2 a (.ins C dx' (putF x (.int (z + y)) vfs'))):=Keep.write W2 ho'
       exact R2 O2 _ σ kw (W2.write ho' ⟨dx', _, upd_same, Flds.mono kw _ _ (hf'.put (Rep.int_i.mpr rfl))⟩) (E.mono (k1.trans (k2.trans kw)))
      ·rw [if_neg hl2] at R2; exact R2.elim
    | _ => exact R2.elim
   | _ => exact R1.elim
noncomputable def runF (N n : Nat) (g : DS) : FD:=fun ds st => if ds.length = n then (match g (ds.map some ++ List.replicate (N - n) none) st with
 | .nx _ st' => .ok .non st'
 | .rt d st' => .ok d st'
 | _ => .bad) else .bad
end
section
variable {P : Program} {w : World} {K : PySem.W.Frag} {mg : Str → Option Value} {base : Heap}
theorem renv_start {O : List Addr} {H : Hp} {N : List Str} : ∀ {ds : List D} {vs : List V} (m : Nat), Reps K O H ds vs → REnv K O H (ds.map some ++ List.replicate m none) (vs.map some ++ List.replicate m none):=by
 intro ds vs m r
 refine ⟨by simp [r.length], fun i d h => ?_⟩
 by_cases hi : i < ds.length
 ·rw [List.getElem?_append_left (by simpa using hi)] at h
  rw [List.getElem?_map] at h
  cases e : ds[i]? with
  | none => rw [e] at h; cases h
  | some d' =>
   rw [e] at h
   simp only [Option.map_some, Option.some.injEq] at h
   subst h
   obtain ⟨v, h1, h2⟩:=r.get e
   exact ⟨v, by rw [List.getElem?_append_left (by rw [List.length_map, ← r.length]; exact hi), List.getElem?_map, h1]; rfl, h2⟩
 ·rw [List.getElem?_append_right (by rw [List.length_map]; omega), List.getElem?_replicate] at h
  split at h <;> cases h
theorem fnD {x qual : Str} {st : Stmt} {f : Addr} {fd : FuncData} {N ps : List Str} {k : Nat} {g : DS} (F : Fun K x qual st f fd) (S : FnScope N ps (defScope st))
  (hbody : ∀ (cdv : Value) (A : Around) (outer : List Env) (s : Shared) (H : Hp) (E : XK), Room k (A.deeper (envOfC qual (defScope st) s.heap.objs.size f cdv)) →
   PDS (cxOf CX0 P w K mg base N qual (defScope st) f cdv A outer s H E).nox EX0 (defBody st) g) : FnOk P w K mg base CX0 (k + 1) f fd ps (spD K (runF N.length ps.length g)):=by
 have hlen : ∀ vs H Q E, spD K (runF N.length ps.length g) vs H Q E → vs.length = ps.length:=by
  rintro vs H Q E ⟨O, ds, st, W, r, R⟩
  unfold runF at R
  by_cases hl : ds.length = ps.length
  ·rw [← r.length]; exact hl
  ·rw [if_neg hl] at R; exact R.elim
 refine F.ok S hlen fun cdv A outer s H vs Q E hr h => ?_
 refine ⟨_, hbody cdv A outer s H E hr, ?_⟩
 have hl:=hlen vs H Q E h
 obtain ⟨O, ds, st, W, r, R⟩:=h
 have hd : ds.length = ps.length:=by rw [r.length]; exact hl
 unfold runF at R
 rw [if_pos hd] at R
 refine ⟨O, ds.map some ++ List.replicate (N.length - ps.length) none, st, W, ?_, ?_⟩
 ·unfold L2.start
  rw [hl]
  exact renv_start (N:=N) _ r
 ·cases hg : g (ds.map some ++ List.replicate (N.length - ps.length) none) st with
  | nx ρ st' => rw [hg] at R; exact fun O' H' σ kp W' _ => R O' H' kp W' _ (Rep.non_i.mpr rfl)
  | rt d st' => rw [hg] at R; exact fun O' H' v kp W' rv => R O' H' kp W' v rv
  | exc c st' => rw [hg] at R; exact R.elim
  | bad => rw [hg] at R; exact R
  | bk ρ st' => rw [hg] at R; exact R.elim
  | ct ρ st' => rw [hg] at R; exact R.elim
end
end DL
end
section
namespace DL
open PySem PySem.Spec PyProof.Rows L2
noncomputable abbrev TgD:=D → Ev → Option Ev
noncomputable def tgD (K : PySem.W.Frag) (t : TgD) : TG:=fun v σ H Q => ∃ O d ρ ρ', Rep K O H d v ∧ REnv K O H ρ σ ∧ t d ρ = some ρ' ∧ ∀ σ', REnv K O H ρ' σ' → Q σ' H
noncomputable def PGD (X : Cx) (tg : Expr) (t : TgD) : Prop:=PG X tg (tgD X.K t)
theorem PG.mono {X : Cx} {tg : Expr} {t t' : TG} (h : PG X tg t) (f : ∀ v σ H Q, t' v σ H Q → t v σ H Q) : PG X tg t':=fun pins s σ H v u Q I r q => h pins s σ H v u Q I r (f v σ H Q q)
theorem PGs.mono {X : Cx} {tg : List Expr} {t t' : TGs} (h : PGs X tg t) (f : ∀ v σ H Q, t' v σ H Q → t v σ H Q) : PGs X tg t':=fun pins s σ H v u Q I r q => h pins s σ H v u Q I r (f v σ H Q q)
noncomputable def tgName (i : Nat) : TgD:=fun d ρ => some (ρ.set i (some d))
noncomputable def setAll : List Nat → List D → Ev → Ev
 | i :: is, d :: ds, ρ => setAll is ds (ρ.set i (some d))
 | _, _, ρ => ρ
noncomputable def tgsD (K : PySem.W.Frag) (is : List Nat) : TGs:=fun vs σ H Q => ∃ O ds ρ, Reps K O H ds vs ∧ REnv K O H ρ σ ∧ ds.length = is.length ∧ ∀ σ', REnv K O H (setAll is ds ρ) σ' → Q σ' H
noncomputable def tgTup (is : List Nat) : TgD
 | .tup ds, ρ => if ds.length = is.length then some (setAll is ds ρ) else none
 | _, _ => none
section
variable {X : Cx} {EX : EXT} {pos : Pos} {x : Str}
theorem pgd_name (i : Nat) (hN : X.N.Nodup) (hi : X.N[i]? = some x) (hx : Loc X.env.scope x) (hf : X.fn x = true ∨ X.env.scope.names.lookup x = some .local:=by first | exact .inl rfl | exact .inr rfl | assumption) : PGD X (.Name x pos) (tgName i):=by
 refine PG.mono (pg_name hN hi hx hf) ?_
 rintro v σ H Q ⟨O, d, ρ, ρ', r, E, ht, q⟩
 cases ht
 exact q _ (E.set r)
theorem pgsd_nil : PGs X [] (tgsD X.K []):=by
 refine PGs.mono pgs_nil ?_
 rintro vs σ H Q ⟨O, ds, ρ, r, E, hl, q⟩
 have e : ds = []:=List.length_eq_zero_iff.mp hl
 subst e
 rw [Reps.nil_i] at r
 exact ⟨r, q _ E⟩
theorem pgsd_cons (i : Nat) {is : List Nat} {es : List Expr} (hN : X.N.Nodup) (hi : X.N[i]? = some x) (hx : Loc X.env.scope x) (h2 : PGs X es (tgsD X.K is)) (hf : X.fn x = true ∨ X.env.scope.names.lookup x = some .local:=by first | exact .inl rfl | exact .inr rfl | assumption)
  (hs : (assignEach (.Name x pos :: es) X.env).map (·.2) = assign (.Name x pos) X.env :: (assignEach es X.env).map (·.2):=by rfl) : PGs X (.Name x pos :: es) (tgsD X.K (i :: is)):=by
 refine PGs.mono (pgs_cons (pg_name hN hi hx hf) h2 hs) ?_
 rintro vs σ H Q ⟨O, ds, ρ, r, E, hl, q⟩
 cases ds with
 | nil => cases hl
 | cons d ds =>
  obtain ⟨v, vs', rfl, q1, t⟩:=Reps.cons_i.mp r
  exact ⟨v, vs', rfl, O, ds, _, t, E.set q1, by simpa using hl, q⟩
theorem pgd_tup {is : List Nat} {es : List Expr} {k : Nat} (hc : X.calm = true) (h : PGs X es (tgsD X.K is)) (hn : (assignEach es X.env).length = is.length:=by rfl) (hst : (assignEach es X.env).findIdx? (·.1) = none:=by rfl) : PGD X (.Tuple es k pos) (tgTup is):=by
 refine PG.mono (pg_tup hc h hn hst) ?_
 rintro v σ H Q ⟨O, d, ρ, ρ', r, E, ht, q⟩
 cases d with
 | tup ds =>
  dsimp only [tgTup] at ht
  by_cases hl : ds.length = is.length
  ·rw [if_pos hl] at ht
   cases ht
   rw [Rep.tup_i] at r
   obtain ⟨a, vs, rfl, hq, rs⟩:=r
   exact ⟨a, vs, rfl, SqT.of hq, by rw [← rs.length]; exact hl, O, ds, ρ, rs, E, hl, q⟩
  ·rw [if_neg hl] at ht; cases ht
 | _ => cases ht
end
noncomputable abbrev Wk:=List D × (Sto → Prop)
noncomputable def ItD (K : PySem.W.Frag) (J : It) (O0 : List Addr) (H0 : Hp) (q : Wk) : Prop :=
 ∀ (i : Nat) (O : List Addr) (H : Hp) (st : Sto), Keep K O0 H0 O H → WR K O H st → q.2 st →
  (∀ d, q.1[i]? = some d → J.go i H ∧ ∀ x H', J.yld i H x H' → Keep K O H O H' ∧ WR K O H' st ∧ Rep K O H' d x) ∧ (q.1.length ≤ i → J.stop i H)
noncomputable abbrev DI:=Ev → Sto → Out Wk
noncomputable def wiD (K : PySem.W.Frag) (EX : EXT) (f : DI) : TI:=fun σ H R => ∃ O ρ st, WR K O H st ∧ REnv K O H ρ σ ∧ Run K EX O H (f ρ st) (fun q _ O' H' => ∀ J, ItD K J O' H' q → R J H')
noncomputable def PID (X : Cx) (EX : EXT) (tg iter : Expr) (f : DI) : Prop:=PI X tg iter (wiD X.K EX f)
theorem PI.mono {X : Cx} {tg it : Expr} {t t' : TI} (h : PI X tg it t) (f : ∀ σ H Q, t' σ H Q → t σ H Q) : PI X tg it t':=fun pins s σ H Q I q => h pins s σ H Q I (f σ H Q q)
theorem PI.or {X : Cx} {tg it : Expr} {t t' : TI} (h : PI X tg it t) (h' : PI X tg it t') : PI X tg it (fun σ H R => t σ H R ∨ t' σ H R):=fun pins s σ H Q I q => by
 rcases q with q | q
 ·exact h pins s σ H Q I q
 ·exact h' pins s σ H Q I q
section
variable {K : PySem.W.Frag} {O : List Addr} {H : Hp} {st : Sto}
theorem it_tup {a : Addr} {vs : List V} {xs : List D} {P : Sto → Prop} (q : H a = some (.tup vs)) (r : Reps K O H xs vs) : ItD K (Itt K a) O H (xs, P):=by
 intro i O' H' st' kp W' _
 refine ⟨fun d hd => ?_, fun hl => ⟨vs, SqT.of (kp.tup _ _ q), by rw [← r.length]; exact hl⟩⟩
 obtain ⟨v, h1, h2⟩:=r.get hd
 refine ⟨⟨vs, v, SqT.of (kp.tup _ _ q), h1⟩, ?_⟩
 rintro x H2 ⟨rfl, h3⟩
 have h4:=h3 vs (SqT.of (kp.tup _ _ q))
 rw [h1] at h4
 cases h4
 exact ⟨Keep.refl, W', Rep.mono kp _ _ h2⟩
theorem it_list {a : Addr} {xs : List D} {P : Sto → Prop} (h : ∀ (O' : List Addr) (H' : Hp) (st' : Sto), Keep K O H O' H' → WR K O' H' st' → P st' → ∃ vs, SqL K H' a vs ∧ Reps K O' H' xs vs) : ItD K (Itl K a) O H (xs, P):=by
 intro i O' H' st' kp W' hp
 obtain ⟨vs, q, r⟩:=h O' H' st' kp W' hp
 refine ⟨fun d hd => ?_, fun hl => ⟨vs, q, by rw [← r.length]; exact hl⟩⟩
 obtain ⟨v, h1, h2⟩:=r.get hd
 refine ⟨⟨vs, v, q, h1⟩, ?_⟩
 rintro x H2 ⟨rfl, h3⟩
 have h4:=h3 vs q
 rw [h1] at h4
 cases h4
 exact ⟨Keep.refl, W', h2⟩
theorem it_range {lo : Int} {n : Nat} {P : Sto → Prop} : ItD K (Itr lo n) O H ((List.range n).map (fun (i : Nat) => D.int (lo + i)), P):=by
 intro i O' H' st' kp W' hp
 refine ⟨fun d hd => ?_, fun hl => (show n ≤ i by simpa using hl)⟩
 have hi : i < n:=by
  have:=(List.getElem?_eq_some_iff.mp hd).1
  simpa using this
 have e : d = D.int (lo + i):=by
  rw [List.getElem?_map, List.getElem?_range hi] at hd
  simpa using hd.symm
 subst e
 refine ⟨hi, ?_⟩
 rintro x H2 ⟨rfl, rfl⟩
 exact ⟨Keep.refl, W', Rep.int_i.mpr rfl⟩
end
section
variable {X : Cx} {EX : EXT} {tg e a b : Expr} {f : DE} {g : DA} {pos p : Pos}
noncomputable def dSeq (f : DE) : DI:=fun ρ st => (f ρ st).bind fun d st1 => match itemsOf st1 d with
 | some xs => .ok (xs, fun st => itemsOf st d = some xs) st1
 | none => .bad
theorem pid_seq (h : PD X EX e f) : PID X EX tg e (dSeq f):=by
 refine PI.mono (PI.or (pi_tup h) (pi_list h)) ?_
 rintro σ H R ⟨O, ρ, st, W, E, R0⟩
 have R1:=R0.bind
 cases hf : f ρ st with
 | bad => rw [hf] at R1; exact R1.elim
 | exc c st' =>
  rw [hf] at R1
  exact .inl ⟨O, ρ, st, W, E, by rw [hf]; exact R1⟩
 | ok d st' =>
  rw [hf] at R1
  by_cases hb : ∃ zs, d = .tup zs
  ·obtain ⟨zs, rfl⟩:=hb
   refine .inl ⟨O, ρ, st, W, E, ?_⟩
   rw [hf]
   intro O1 H1 k1 W1 v r
   have R2:=R1 O1 H1 k1 W1
   rw [Rep.tup_i] at r
   obtain ⟨q, vs, rfl, hq, rs⟩:=r
   exact ⟨q, rfl, ⟨vs, SqT.of hq⟩, Run.now (k:=fun q _ O' H' => ∀ J, ItD X.K J O' H' q → R J H') R2 W1 _ (it_tup hq rs)⟩
  ·refine .inr ⟨O, ρ, st, W, E, ?_⟩
   rw [hf]
   intro O1 H1 k1 W1 v r
   have R2:=R1 O1 H1 k1 W1
   have ei : ∀ s', itemsOf s' d = seqL s' d:=by
    intro s'
    cases d <;> first | rfl | exact absurd ⟨_, rfl⟩ hb
   dsimp only at R2
   rw [ei] at R2
   cases e1 : seqL st' d with
   | none => rw [e1] at R2; exact R2.elim
   | some xs =>
    rw [e1] at R2
    obtain ⟨q, vs, rfl, hq, rs⟩:=rdL W1 r e1
    refine ⟨q, rfl, ⟨vs, hq⟩, Run.now (k:=fun q _ O' H' => ∀ J, ItD X.K J O' H' q → R J H') R2 W1 _ (it_list fun O' H' st2 kp W' hp => ?_)⟩
    rw [ei] at hp
    obtain ⟨q', vs', e2, hq', rs'⟩:=rdL W' (Rep.mono kp _ _ r) hp
    cases e2
    exact ⟨vs', hq', rs'⟩
noncomputable def rngOk (j : Int) : Bool:=@decide (-(2 ^ 62) ≤ j ∧ j < 2 ^ 62) (Classical.propDecidable _)
theorem rngOk_iff {j : Int} : rngOk j = true ↔ (-(2 ^ 62) ≤ j ∧ j < 2 ^ 62):=by
 unfold rngOk
 exact @decide_eq_true_iff _ (Classical.propDecidable _)
theorem rngOk_of {j : Int} (h1 : -1000000 ≤ j) (h2 : j ≤ 1000000) : rngOk j = true:=rngOk_iff.mpr ⟨by omega, by omega⟩
noncomputable def dRng1 (g : DA) : DI:=fun ρ st => (g ρ st).bind fun ds st1 => match ds with
 | [.int j] => if rngOk j = true then .ok ((List.range j.toNat).map (fun (i : Nat) => D.int (0 + i)), fun _ => True) st1 else .bad
 | _ => .bad
theorem pid_range1 (hg : Gl X "range") (hm : X.mg "range" = none) (ha : PDA X EX [a] g) (hs : starEach [a] X.env = [(false, eval a X.env)] := by rfl) : PID X EX tg (.Call (.Name "range" p) [a] [] pos) (dRng1 g) := by
 refine PI.mono (pi_range1 hg hm ha hs) ?_
 rintro σ H R ⟨O, ρ, st, W, E, R0⟩
 refine ⟨O, ρ, st, W, E, R0.bind.mono fun ds st1 O1 H1 k1 W1 R1 vs r => ?_⟩
 split at R1
 ·rename_i j
  obtain ⟨v, rfl, rv⟩:=r.one_of
  rw [Rep.int_i] at rv
  subst rv
  by_cases hj : rngOk j = true
  ·rw [if_pos hj] at R1
   exact ⟨j, rfl, (rngOk_iff.mp hj).1, (rngOk_iff.mp hj).2, Run.now (k:=fun q _ O' H' => ∀ J, ItD X.K J O' H' q → R J H') R1 W1 _ it_range⟩
  ·rw [if_neg hj] at R1; exact R1.elim
 ·exact R1.elim
end
open Classical in
noncomputable def loopD (chk : Sto → Prop) (t : TgD) (g : DS) : List D → DS
 | [], ρ, st => if chk st then .nx ρ st else .bad
 | x :: xs, ρ, st => if chk st then (match t x ρ with
  | none => .bad
  | some ρ1 => match g ρ1 st with
   | .nx ρ' st' => loopD chk t g xs ρ' st'
   | .ct ρ' st' => loopD chk t g xs ρ' st'
   | .bk ρ' st' => .nx ρ' st'
   | r => r) else .bad
noncomputable def sFor (f : DI) (t : TgD) (g : DS) : DS:=fun ρ st => (f ρ st).to fun q st1 => loopD q.2 t g q.1 ρ st1
section
variable {X : Cx} {EX : EXT} {tg it : Expr} {f : DI} {t : TgD} {g : DS} {pos : Pos} {body : List Stmt}
theorem pd_for (hp : PassesOwn (model X.prog X.w) X.A X.env X.xe) (hc : X.calm = true) (hi : PID X EX tg it f) (hg : PGD X tg t) (hb : PDS X EX body g) (hs : ∀ x, foldedSetIterable it X.env x = pure x:=by intro _; rfl) : PDs X EX (.For tg it body [] pos) (sFor f t g):=by
 refine PS.mono (ps_for hp hc hi hg hb hs) ?_
 rintro Dn σ H ⟨O, ρ, st, W, E, R⟩
 refine ⟨O, ρ, st, W, E, R.to.mono fun q st1 O1 H1 k1 W1 R1 J hJ => ?_⟩
 refine ⟨fun i m σ' H' => m + i = q.1.length ∧ ∃ O' ρ' st', Keep X.K O1 H1 O' H' ∧ WR X.K O' H' st' ∧ REnv X.K O' H' ρ' σ' ∧ RunS X.K EX Dn O' H' (loopD q.2 t g (q.1.drop i) ρ' st'), ⟨q.1.length, rfl, O1, ρ, st1, Keep.refl, W1, E.mono k1, R1⟩, ?_⟩
 rintro i m σ' H' ⟨hm, O', ρ', st', kp, W', E', R'⟩
 cases hd : q.1.drop i with
 | nil =>
  rw [hd] at R'
  unfold loopD at R'
  have hl : q.1.length ≤ i:=List.drop_eq_nil_iff.mp hd
  by_cases hch : q.2 st'
  ·rw [if_pos hch] at R'
   exact .inl ⟨(hJ i O' H' st' kp W' hch).2 hl, R' O' H' σ' Keep.refl W' E'⟩
  ·rw [if_neg hch] at R'; exact R'.elim
 | cons x xs =>
  rw [hd] at R'
  unfold loopD at R'
  have hx : q.1[i]? = some x:=by
   have:=List.getElem?_drop (xs:=q.1) (i:=i) (j:=0)
   rw [hd] at this
   simpa using this.symm
  have hxs : q.1.drop (i + 1) = xs:=by
   have:=List.drop_drop (i:=1) (j:=i) (l:=q.1)
   rw [hd] at this
   simpa using this.symm
  have hi : i < q.1.length:=(List.getElem?_eq_some_iff.mp hx).1
  by_cases hch : q.2 st'
  ·rw [if_pos hch] at R'
   obtain ⟨hgo, hy⟩:=(hJ i O' H' st' kp W' hch).1 x hx
   refine .inr ⟨hgo, fun σ2 H2 => (m - 1) + (i + 1) = q.1.length ∧ ∃ O' ρ' st', True ∧ WR X.K O' H2 st' ∧ Keep X.K O1 H1 O' H2 ∧ REnv X.K O' H2 ρ' σ2 ∧ RunS X.K EX Dn O' H2 (loopD q.2 t g (q.1.drop (i + 1)) ρ' st'), ?_, ?_⟩
   ·rintro σ2 H2 ⟨h1, O2, ρ2, st2, _, W2, kp2, E2, R2⟩
    exact ⟨m - 1, by omega, h1, O2, ρ2, st2, kp2, W2, E2, R2⟩
   ·intro v H2 hv
    obtain ⟨ky, Wy, ry⟩:=hy v H2 hv
    cases ht : t x ρ' with
    | none => rw [ht] at R'; exact R'.elim
    | some ρ1 =>
     rw [ht] at R'
     dsimp only at R'
     refine ⟨O', x, ρ', ρ1, ry, E'.mono ky, ht, fun σ2 E2 => ⟨O', ρ1, st', Wy, E2, ?_⟩⟩
     cases hgr : g ρ1 st' with
     | nx ρ2 st2 =>
      rw [hgr] at R'
      intro O3 H3 σ3 k3 W3 E3
      exact ⟨by omega, O3, ρ2, st2, trivial, W3, kp.trans (ky.trans k3), E3, by rw [hxs]; exact RunS.later R' (ky.trans k3)⟩
     | ct ρ2 st2 =>
      rw [hgr] at R'
      intro O3 H3 σ3 k3 W3 E3
      exact ⟨by omega, O3, ρ2, st2, trivial, W3, kp.trans (ky.trans k3), E3, by rw [hxs]; exact RunS.later R' (ky.trans k3)⟩
     | bk ρ2 st2 =>
      rw [hgr] at R'
      exact fun O3 H3 σ3 k3 W3 E3 => R' O3 H3 σ3 (ky.trans k3) W3 E3
     | rt d st2 =>
      rw [hgr] at R'
      exact fun O3 H3 σ3 k3 W3 E3 => R' O3 H3 σ3 (ky.trans k3) W3 E3
     | exc c st2 =>
      rw [hgr] at R'
      exact fun O3 H3 k3 W3 => R' O3 H3 (ky.trans k3) W3
     | bad => rw [hgr] at R'; exact R'
  ·rw [if_neg hch] at R'; exact R'.elim
end
section
variable {X : Cx} {EX : EXT} {c : Expr} {t : DT} {g : DS} {pos : Pos} {body : List Stmt}
end
end DL
end
section
namespace DL
open PySem PySem.Spec PyProof.Rows L2
section
variable {prog : Program} {w : World} {A : Around} {E : Value → Shared → Prop} {R : Result → Shared → Prop} {s : Shared}
theorem compLoop_gen {elt target iter : Expr} {ifs : List Expr} {scope : Scope} {pos : Pos} {it acc : Value} {env : Env} (I : Nat → Shared → Prop)
  (turn : ∀ n s, I n s → wpAny (model prog w) A (pyNext it) (fun r s₁ => match r with
   | none => R (.ok .next) s₁
   | some v => wpAny (model prog w) A (letOwnedTupleGo target it v) (fun _ s₁' => wpAny (model prog w) A (assign target env v) (fun _ s₂ =>
     wpAny (model prog w) A (forIn ifs true fun c r => if r = true then do let ok ← isTrue c env (eval c env); pure (ForInStep.yield ok) else pure (ForInStep.yield r)) (fun ok s₃ =>
      if ok = true then wpAny (model prog w) A (eval elt env) (fun x s₄ =>
       wpAny (model prog w) A (call (.builtin "list.append") [acc, x]) (fun _ s₅ => ∃ m, m < n ∧ I m s₅) (fun _ _ => False) s₄) (fun _ _ => False) s₃
      else ∃ m, m < n ∧ I m s₃) (fun _ _ => False) s₂) (fun _ _ => False) s₁') (fun _ _ => False) s₁) (fun _ _ => False) s)
  (n : Nat) (h : I n s) :
  codeAny (model prog w) A (.compLoop (.ListComp elt [⟨target, iter, ifs, 0⟩] scope pos) 0 it acc env) R s:=by
 refine codeAny_loop rfl I (fun n s hI => ?_) n h
 show wpAny _ A ((compTurn (.ListComp elt [⟨target, iter, ifs, 0⟩] scope pos) 0 it acc env).onRaise (fun x => do noteFrame x env; theTreesLotGoes x)) _ _ s
 refine wpAny_noted ?_
 rw [compTurn_list]
 refine wpAny_bind (wpAny_standAt (wpAny_bind (wpAny_mono (turn n s hI) (fun r s₁ h₁ => ?_) fun _ _ h' => h'.elim)))
 cases r with
 | none => exact wpAny_pure h₁
 | some v =>
  refine wpAny_bind (wpAny_mono h₁ (fun _ s₁' h₁' => ?_) fun _ _ h' => h'.elim)
  refine wpAny_bind (wpAny_mono h₁' (fun _ s₂ h₂ => wpAny_bind (wpAny_mono h₂ (fun ok s₃ h₃ => ?_) fun _ _ h' => h'.elim)) fun _ _ h' => h'.elim)
  cases ok with
  | false => exact wpAny_pure ⟨rfl, h₃⟩
  | true =>
   exact wpAny_bind (wpAny_bind (wpAny_mono h₃ (fun x s₄ h₄ => wpAny_bind (wpAny_mono h₄ (fun _ s₅ h₅ => wpAny_pure (wpAny_pure ⟨rfl, h₅⟩)) fun _ _ h' => h'.elim)) fun _ _ h' => h'.elim))
theorem append_obj {l : Addr} {items : List Value} {n : Nat} {x : Value} {Q : Value → Shared → Prop} (ho : s.heap.get? l = some { cls := .type "list", data := .seq items.toArray n })
  (hQ : ∀ h', h'.get? l = some { cls := .type "list", data := .seq (items ++ [x]).toArray (n + 1) } → Heap.SameBut l s.heap h' → Q .none { s with heap := h' }) (hsz : items.length ≤ sizeLine) :
  wpAny (model prog w) A (call (.builtin "list.append") [.ref l, x]) Q E s := by
 have hl : s.heap.IsList l items.toArray:=⟨_, ho, rfl, n, rfl⟩
 refine wpAny_call_entry slot_list_append hl.typeIs entry_list_append ?_ (args_list_append _ _)
 show wpAny _ _ (updateSeq l (·.push x) >>= fun _ => ret .none) _ _ s
 refine wpAny_bind ?_
 refine wpAny_updateSeq (hz:=by rw [List.size_toArray]; exact hsz) ho rfl (wpAny_pure ⟨.none, rfl, hQ _ ?_ (Heap.SameBut.update ..)⟩)
 rw [Heap.get?_update_self _ ho (by rfl)]
 simp [Obj.mapSeq]
end
noncomputable def clOf (env : Env) : List (Str × NameKind) → List (Str × Addr) → List (Str × Addr)
 | [], acc => acc
 | (n, k) :: r, acc => if k == .free then (match env.cells.lookup n with
  | some a => clOf env r ((n, a) :: acc)
  | none => clOf env r acc) else clOf env r acc
theorem clos_run (env : Env) : ∀ (names : List (Str × NameKind)) (acc : List (Str × Addr)), (∀ y ∈ names, y.2 = .free → ∃ a, env.cells.lookup y.1 = some a) →
  (forIn names acc fun (x : Str × NameKind) (cs : List (Str × Addr)) => (if (x.2 == NameKind.free) = true then do let a ← cellOf env x.1; pure (ForInStep.yield ((x.1, a) :: cs)) else pure (ForInStep.yield cs) : Sem (ForInStep (List (Str × Addr))))) = pure (clOf env names acc)
 | [], acc, _ => rfl
 | (n, k) :: r, acc, h => by
  have ih:=fun acc => clos_run env r acc fun y hy => h y (List.mem_cons_of_mem _ hy)
  rw [List.forIn_cons]
  unfold clOf
  by_cases hk : (k == NameKind.free) = true
  ·obtain ⟨a, ha⟩:=h (n, k) List.mem_cons_self (by simpa using hk)
   have e : cellOf env n = pure a:=by unfold cellOf; rw [ha]
   simp only [hk, if_true, e, ha, pure_bind]
   exact ih _
  ·have hk' : (k == NameKind.free) = false:=by simpa using hk
   simp only [hk', Bool.false_eq_true, if_false, pure_bind]
   exact ih _
theorem closureFor_of {scope : Scope} {env : Env} (h : ∀ y ∈ scope.names, y.2 = .free → ∃ a, env.cells.lookup y.1 = some a) : closureFor scope env = pure (clOf env scope.names []):=by
 have e:=clos_run env scope.names [] h
 unfold closureFor
 simp only [bind_pure]
 refine Eq.trans ?_ e
 rfl
theorem clOf_look {env : Env} {x : Str} {c : Addr} : ∀ (names : List (Str × NameKind)) (acc : List (Str × Addr)), (∀ y a, acc.lookup y = some a → env.cells.lookup y = some a) → (clOf env names acc).lookup x = some c → env.cells.lookup x = some c
 | [], acc, h, e => h x c e
 | (n, k) :: r, acc, h, e => by
  unfold clOf at e
  split at e
  ·split at e
   ·rename_i a ha
    refine clOf_look r _ (fun y b hb => ?_) e
    rw [List.lookup_cons] at hb
    cases hy : y == n with
    | true =>
     rw [hy] at hb
     have ey : y = n:=eq_of_beq hy
     subst ey
     cases hb
     exact ha
    | false => rw [hy] at hb; exact h y b hb
   ·exact clOf_look r _ h e
  ·exact clOf_look r _ h e
theorem clOf_acc {env : Env} {x : Str} {c : Addr} (hx : env.cells.lookup x = some c) : ∀ (names : List (Str × NameKind)) (acc : List (Str × Addr)), acc.lookup x = some c ∨ (x, NameKind.free) ∈ names → (clOf env names acc).lookup x = some c
 | [], acc, h => by
  rcases h with h | h
  ·exact h
  ·cases h
 | (n, k) :: r, acc, h => by
  unfold clOf
  have keep : ∀ a, env.cells.lookup n = some a → acc.lookup x = some c → ((n, a) :: acc).lookup x = some c:=by
   intro a ha hl
   rw [List.lookup_cons]
   cases hy : x == n with
   | true =>
    have ey : x = n:=eq_of_beq hy
    subst ey
    rw [hx] at ha
    cases ha
    rfl
   | false => exact hl
  split
  ·rename_i hk
   split
   ·rename_i a ha
    refine clOf_acc hx r _ ?_
    rcases h with h | h
    ·exact .inl (keep a ha h)
    ·rcases List.mem_cons.mp h with e | h
     ·cases e
      refine .inl ?_
      rw [hx] at ha
      cases ha
      simp
     ·exact .inr h
   ·rename_i hn
    refine clOf_acc hx r _ ?_
    rcases h with h | h
    ·exact .inl h
    ·rcases List.mem_cons.mp h with e | h
     ·cases e
      rw [hx] at hn
      cases hn
     ·exact .inr h
  ·rename_i hk
   refine clOf_acc hx r _ ?_
   rcases h with h | h
   ·exact .inl h
   ·rcases List.mem_cons.mp h with e | h
    ·cases e
     exact absurd rfl hk
    ·exact .inr h
noncomputable def relS (scope sc : Scope) : Scope :=
 { scope with names:=scope.names.map fun (n, k) => if (k == .free && sc.kind == .function && sc.names.lookup n == some .cell) then (n, .cell) else (n, k) }
structure Blk (sc scope : Scope) (N0 N : List Str) (caps : List Nat) (nT : Nat) : Prop where
 kind : scope.kind = .function
 nocell : ∀ y ∈ scope.names, y.2 ≠ .cell
 names : ∀ y ∈ scope.names, y.2 = .local → scope.names.lookup y.1 = some .local
 free : ∀ y ∈ scope.names, y.2 = .free → sc.names.lookup y.1 = some .cell ∨ sc.names.lookup y.1 = some .free
 len : N.length = nT + caps.length
 cap : ∀ q ∈ (List.range caps.length), ∃ i x, caps[q]? = some i ∧ N[nT + q]? = some x ∧ N0[i]? = some x ∧ (x, NameKind.free) ∈ scope.names ∧ ((relS scope sc).names.lookup x = some .cell ∨ (relS scope sc).names.lookup x = some .free)
noncomputable def blkB (sc scope : Scope) (N0 N : List Str) (caps : List Nat) (nT : Nat) : Bool :=
 (scope.kind == .function) && scope.names.all (fun y => !(y.2 == .cell)) && scope.names.all (fun y => !(y.2 == .local) || scope.names.lookup y.1 == some .local) &&
  scope.names.all (fun y => !(y.2 == .free) || (sc.names.lookup y.1 == some .cell || sc.names.lookup y.1 == some .free)) && (N.length == nT + caps.length) &&
  (List.range caps.length).all fun q => match caps[q]?, N[nT + q]? with
   | some i, some x => (N0[i]? == some x) && scope.names.any (fun y => y.1 == x && y.2 == .free) && ((relS scope sc).names.lookup x == some .cell || (relS scope sc).names.lookup x == some .free)
   | _, _ => false
theorem Blk.of {sc scope : Scope} {N0 N : List Str} {caps : List Nat} {nT : Nat} (h : blkB sc scope N0 N caps nT = true) : Blk sc scope N0 N caps nT:=by
 unfold blkB at h
 simp only [Bool.and_eq_true] at h
 obtain ⟨⟨⟨⟨⟨h1, h2⟩, h3⟩, h4⟩, h5⟩, h6⟩:=h
 refine ⟨eq_of_beq h1, fun y hy => ?_, fun y hy hl => ?_, fun y hy hl => ?_, eq_of_beq h5, fun q hq => ?_⟩
 ·have:=List.all_eq_true.mp h2 y hy
  simpa using this
 ·have:=List.all_eq_true.mp h3 y hy
  rw [hl] at this
  simpa using this
 ·have:=List.all_eq_true.mp h4 y hy
  rw [hl] at this
  simpa using this
 ·have:=List.all_eq_true.mp h6 q hq
  split at this
  ·rename_i i x e1 e2
   simp only [Bool.and_eq_true, Bool.or_eq_true, List.any_eq_true, beq_iff_eq] at this
   obtain ⟨⟨g1, ⟨y, g2, g3, g4⟩⟩, g5⟩:=this
   refine ⟨i, x, e1, e2, g1, ?_, g5⟩
   obtain ⟨y1, y2⟩:=y
   simp only at g3 g4
   subst g3 g4
   exact g2
  ·cases this
noncomputable def cxC (X : Cx) (N : List Str) (scope : Scope) (acc : Addr) (fp : List Addr) (s3 : Shared) (H : Hp) : Cx :=
 { X with N:=N, s₀:=s3, H₀:=H, env:=compEnvC scope (clOf X.env scope.names []) s3.heap.objs.size X.env, outer:=X.stack, ex:=acc :: fp, fn:=fun _ => false, pn:=[], xe:=fun _ _ => False }
noncomputable def capEv (ρ : Ev) (caps : List Nat) (nT : Nat) : Ev:=List.replicate nT none ++ caps.map fun i => (ρ[i]?).join
noncomputable def capSt (σ : L2.St) (caps : List Nat) (nT : Nat) : L2.St:=List.replicate nT none ++ caps.map fun i => (σ[i]?).join
theorem capEnv {K : PySem.W.Frag} {O : List Addr} {H : Hp} {ρ : Ev} {σ : L2.St} (E : REnv K O H ρ σ) (caps : List Nat) (nT : Nat) : REnv K O H (capEv ρ caps nT) (capSt σ caps nT):=by
 refine ⟨by simp [capEv, capSt], fun i d h => ?_⟩
 unfold capEv at h
 unfold capSt
 by_cases hi : i < nT
 ·rw [List.getElem?_append_left (by simpa using hi), List.getElem?_replicate] at h
  split at h <;> cases h
 ·rw [List.getElem?_append_right (by simpa using hi)] at h ⊢
  rw [List.length_replicate, List.getElem?_map] at h ⊢
  cases hc : caps[i - nT]? with
  | none => rw [hc] at h; cases h
  | some j =>
   rw [hc] at h
   simp only [Option.map_some, Option.some.injEq] at h ⊢
   cases hj : ρ[j]? with
   | none => rw [hj] at h; cases h
   | some z =>
    rw [hj] at h
    simp only [Option.join_some] at h
    subst h
    obtain ⟨v, h1, h2⟩:=E.at_ j d hj
    exact ⟨v, by rw [h1]; rfl, h2⟩
section
variable {X : Cx} {pins : List (Addr × Obj)} {σ : L2.St} {H : Hp} {s : Shared} {scope : Scope} {N : List Str} {caps : List Nat} {nT : Nat} {fp : List Addr}
theorem blk_start (B : Blk X.env.scope scope X.N N caps nT) (I : Inv X pins σ H s) (hf : ∀ b ∈ fp, FpOk X pins H b) (ho : ∀ b ∈ fp, ∃ o, s.heap.get? b = some o) {h4 : Heap} {tk : Nat}
  (hns : h4.Ns (s.heap.push { cls := .type "list", data := .seq ([] : List Value).toArray }).objs.size (fun x => ([] : List (Str × Value)).reverse.lookup x))
  (hsb : Heap.SameBut (s.heap.push { cls := .type "list", data := .seq ([] : List Value).toArray }).objs.size ((s.heap.push { cls := .type "list", data := .seq ([] : List Value).toArray }).push { cls := .type "dict", data := .dict #[] }) h4) :
  Inv (cxC X N scope s.heap.objs.size fp { s with heap := s.heap.push { cls := .type "list", data := .seq ([] : List Value).toArray } } H) [] (capSt σ caps nT) H { s with heap := h4, toks := tk } := by
 generalize hH2 : s.heap.push { cls := .type "list", data := .seq ([] : List Value).toArray } = h3 at hns hsb ⊢
 have hC : h3.objs.size = s.heap.objs.size + 1:=by rw [← hH2, Heap.size_push]
 have k3 : ∀ b o, s.heap.get? b = some o → h3.get? b = some o:=fun b o e => hH2 ▸ Heap.get?_push_of_some _ e
 have I3 : Inv X pins σ H { s with heap:=h3 }:=I.kept (t':=s.toks) k3
 have k4 : ∀ b o, h3.get? b = some o → h4.get? b = some o:=fun b o e => hsb.extBut b o (Nat.ne_of_lt (Heap.lt_size e)) (Heap.get?_push_of_some _ e)
 have lt3 : ∀ b o, s.heap.get? b = some o → b < h3.objs.size:=fun b o e => Heap.lt_size (k3 b o e)
 have cells : ∀ x c, (clOf X.env scope.names []).lookup x = some c → X.env.cells.lookup x = some c:=fun x c e => clOf_look scope.names [] (fun y a z => by cases z) e
 have ok : (cxC X N scope s.heap.objs.size fp { s with heap:=h3 } H).Ok:=by
  refine ⟨I.ok.mod, B.kind, I.ok.glob, I.ok.blt, Nat.le_refl _, fun x y c h1 h2 => I.ok.inj x y c (cells _ _ h1) (cells _ _ h2), ?_, fun x c hx => (by cases hx), I.ok.hd, I.ok.frames, .inl rfl, ?_, I3.bs, Nat.le_trans I.ok.bsz (Nat.le_trans I.sz (by show s.heap.objs.size ≤ h3.objs.size; omega)), ?_, ?_, I3.stack, I3.stkFree⟩
  ·intro x hx
   have hx' : (relS scope X.env.scope).names.lookup x = some .cell ∨ (relS scope X.env.scope).names.lookup x = some .free:=hx
   have hm : (x, NameKind.free) ∈ scope.names:=by
    have mem : ∀ (l : List (Str × NameKind)), ((l.map fun (n, k) => if (k == NameKind.free && X.env.scope.kind == .function && X.env.scope.names.lookup n == some .cell) then (n, NameKind.cell) else (n, k)).lookup x = some .cell ∨ (l.map fun (n, k) => if (k == NameKind.free && X.env.scope.kind == .function && X.env.scope.names.lookup n == some .cell) then (n, NameKind.cell) else (n, k)).lookup x = some .free) → (∀ y ∈ l, y.2 ≠ .cell) → (x, NameKind.free) ∈ l:=by
     intro l
     induction l with
     | nil => intro h _; rcases h with h | h <;> cases h
     | cons y l ih =>
      obtain ⟨n, k⟩:=y
      intro h hnc
      rw [List.map_cons] at h
      by_cases hc : (k == NameKind.free && X.env.scope.kind == .function && X.env.scope.names.lookup n == some .cell) = true
      ·simp only [hc, if_true, List.lookup_cons] at h
       have hk : k = .free:=by simp only [Bool.and_eq_true] at hc; simpa using hc.1.1
       cases hy : x == n with
       | true => rw [eq_of_beq hy, hk]; exact List.mem_cons_self
       | false =>
        rw [hy] at h
        exact List.mem_cons_of_mem _ (ih h fun z hz => hnc z (List.mem_cons_of_mem _ hz))
      ·simp only [hc, if_false, List.lookup_cons, Bool.false_eq_true] at h
       cases hy : x == n with
       | true =>
        rw [hy] at h
        have hk : k = .free:=by
         rcases h with h | h
         ·exact absurd (Option.some.inj h) (hnc (n, k) List.mem_cons_self)
         ·exact Option.some.inj h
        rw [eq_of_beq hy, hk]; exact List.mem_cons_self
       | false =>
        rw [hy] at h
        exact List.mem_cons_of_mem _ (ih h fun z hz => hnc z (List.mem_cons_of_mem _ hz))
    exact mem scope.names hx' B.nocell
   obtain ⟨c, hc⟩:=I.ok.has x (B.free _ hm rfl)
   exact ⟨c, clOf_acc hc scope.names [] (.inr hm)⟩
  ·intro b hb
   rcases List.mem_cons.mp hb with rfl | hb
   ·refine ⟨?_, fun x c h1 h2 => ?_⟩
    ·show s.heap.objs.size ≠ h3.objs.size
     omega
    ·obtain ⟨v, o, ho', _⟩:=I.cell x c (cells _ _ h1)
     exact absurd (h2 ▸ Heap.lt_size ho') (Nat.lt_irrefl _)
   ·obtain ⟨o, ho'⟩:=ho b hb
    refine ⟨?_, fun x c h1 => (hf b hb).2.2.2.2.1 x c (cells _ _ h1)⟩
    exact Nat.ne_of_lt (lt3 b o ho')
  ·intro b o hb
   intro hm
   rcases List.mem_cons.mp hm with rfl | hm
   ·exact absurd (Heap.lt_size (I.bk _ _ hb)) (Nat.lt_irrefl _)
   ·rcases (hf b hm).2.2.2.1 with h1 | h1
    ·exact I.ok.noex b o hb h1
    ·exact absurd (Nat.lt_of_lt_of_le (Heap.lt_size (I.ok.bs b o hb).1) h1) (Nat.lt_irrefl _)
  ·intro b hb hm
   rcases List.mem_cons.mp hb with rfl | hb
   ·rcases List.mem_cons.mp (I.stkSub _ hm) with h1 | h1
    ·have:=I.lt
     rw [← h1] at this
     exact absurd this (Nat.lt_irrefl _)
    ·exact I.nofs (Nat.le_refl _) h1
   ·rcases List.mem_cons.mp (I.stkSub _ hm) with h1 | h1
    ·exact (hf b hb).2.1 h1
    ·exact (hf b hb).2.2.1 h1
 refine ⟨ok, rfl, I.bare, Un.kept k4, ?_, ?_, ?_, ?_, (fun p hp => (by cases hp)), I3.hok.kept k4, ?_⟩
 ·refine ⟨_, hns, fun i x v h1 h2 hv => ?_⟩
  by_cases hi : i < nT
  ·unfold capSt at h2
   rw [List.getElem?_append_left (by simpa using hi), List.getElem?_replicate] at h2
   split at h2 <;> cases h2
  ·unfold capSt at h2
   rw [List.getElem?_append_right (by simpa using hi), List.length_replicate, List.getElem?_map] at h2
   cases hc : caps[i - nT]? with
   | none => rw [hc] at h2; cases h2
   | some j =>
    rw [hc] at h2
    simp only [Option.map_some, Option.some.injEq] at h2
    cases hj : σ[j]? with
    | none => rw [hj] at h2; cases h2
    | some z =>
     rw [hj] at h2
     simp only [Option.join_some] at h2
     subst h2
     have hq : i - nT < caps.length:=(List.getElem?_eq_some_iff.mp hc).1
     obtain ⟨j', x', e1, e2, e3, e4, e5⟩:=B.cap (i - nT) (List.mem_range.mpr hq)
     rw [hc] at e1
     cases e1
     have en : nT + (i - nT) = i:=by omega
     rw [en] at e2
     have ex : x' = x:=Option.some.inj (e2.symm.trans h1)
     subst ex
     have hk:=B.free _ e4 rfl
     obtain ⟨m, hm, hloc⟩:=I.loc
     obtain ⟨u, ru, lk⟩:=hloc j x' v e3 hj (hk.elim (fun z => .inr (.inl z)) fun z => .inr (.inr z))
     rcases lk with ⟨hl, _⟩ | ⟨_, c, hc1, hc2⟩
     ·rcases hk with hk | hk
      ·have : X.env.scope.names.lookup x' = some .local:=hl
       rw [hk] at this; cases this
      ·have : X.env.scope.names.lookup x' = some .local:=hl
       rw [hk] at this; cases this
     ·refine ⟨u, ru, .inr ⟨e5, c, clOf_acc hc1 scope.names [] (.inr e4), ?_⟩⟩
      obtain ⟨o, ho', hd⟩:=hc2
      exact ⟨o, k4 _ _ (k3 _ _ ho'), hd⟩
 ·intro x c h1
  obtain ⟨v, o, ho', hd⟩:=I.cell x c (cells _ _ h1)
  exact ⟨v, o, k4 _ _ (k3 _ _ ho'), hd⟩
 ·exact I3.hok.fresh (Nat.le_refl _)
 ·intro x c h1
  exact I.freeC x c (cells _ _ h1)
 ·show (capSt σ caps nT).length = N.length
  rw [B.len]
  simp [capSt]
end
end DL
end
section
namespace DL
open PySem PySem.Spec PyProof.Rows L2
section
variable {X : Cx} {pins : List (Addr × Obj)} {σ : L2.St} {H : Hp} {s : Shared} {scope : Scope} {N : List Str} {fp : List Addr}
theorem blk_end (I : Inv X pins σ H s) (hf : ∀ b ∈ fp, FpOk X pins H b) {σc : L2.St} {H' : Hp} {s' : Shared} {vs : List V} {its : List Value} {n : Nat}
  (J : Inv (cxC X N scope s.heap.objs.size fp { s with heap := s.heap.push { cls := .type "list", data := .seq ([] : List Value).toArray } } H) [] σc H' s')
  (ha : s'.heap.get? s.heap.objs.size = some { cls := .type "list", data := .seq its.toArray n }) (hn : H' s.heap.objs.size = none) (hv : Vals vs its) (hz : vs.length ≤ sizeLine) : Inv X pins σ (upd H' s.heap.objs.size (.lst vs)) s' := by
 have u:=J.base
 have push : ∀ b o, s.heap.get? b = some o → (s.heap.push { cls := .type "list", data := .seq ([] : List Value).toArray }).get? b = some o := fun b o e => Heap.get?_push_of_some _ e
 have ne : ∀ b o, s.heap.get? b = some o → b ≠ s.heap.objs.size:=fun b o e => Nat.ne_of_lt (Heap.lt_size e)
 have nex : ∀ b o, s.heap.get? b = some o → b ∉ fp → b ∉ s.heap.objs.size :: fp:=fun b o e hb hm => by
  rcases List.mem_cons.mp hm with h | h
  ·exact ne b o e h
  ·exact hb h
 refine I.call' (ch:=fp) J.os ?_ ?_ J.bare fun b hb => ⟨(hf b hb).2.2.2.1, (hf b hb).2.1, (hf b hb).2.2.2.2.1, (hf b hb).2.2.2.2.2⟩
 ·refine ⟨fun b o e h0 h1 h2 => u.keep b o (push b o e) h0 h1 (nex b o e h2), fun b o e h0 h1 h2 => u.slot b o (push b o e) h0 h1 (nex b o e h2), fun b o e h0 h2 => ?_, fun b o e h2 => u.there b o (push b o e) (nex b o e h2), fun b xs e => ?_, fun b o w e => ?_, fun b ps e => ?_⟩
  ·rw [upd_ne (ne b o e)]
   exact u.free b o (push b o e) h0 (nex b o e h2)
  ·have h1:=u.tups b xs e
   rw [upd_ne (ne_of_none h1 hn)]
   exact h1
  ·have h1:=u.frzs b o w e
   rw [upd_ne (ne_of_none h1 hn)]
   exact h1
  ·obtain ⟨more, h1⟩:=u.tbls b ps e
   exact ⟨more, by rw [upd_ne (ne_of_none h1 hn)]; exact h1⟩
 ·intro a o e
  by_cases haa : a = s.heap.objs.size
  ·subst haa
   rw [upd_same] at e
   cases e
   exact ⟨hz, its, n, hv, ha⟩
  ·rw [upd_ne haa] at e
   exact (J.hok a o e).stay (fun b u _ q => q) (fun b q => by rw [upd_ne (ne_of_none q hn)]; exact q) fun b xs q => by rw [upd_ne (ne_of_none q hn)]; exact q
end
noncomputable def dTrue : DT:=fun _ st => .ok true st
open Classical in
noncomputable def compD (chk : Sto → Prop) (t : TgD) (cond : DT) (fe : DE) : List D → Ev → Sto → List D → Out (List D)
 | [], _, st, acc => if chk st then .ok acc st else .bad
 | x :: xs, ρ, st, acc => if chk st ∧ acc.length < small then (match t x ρ with
  | none => .bad
  | some ρ1 => match cond ρ1 st with
   | .ok true st1 => (match fe ρ1 st1 with
    | .ok d st2 => compD chk t cond fe xs ρ1 st2 (acc ++ [d])
    | _ => .bad)
   | .ok false st1 => compD chk t cond fe xs ρ1 st1 acc
   | _ => .bad) else .bad
noncomputable def dComp (caps : List Nat) (nT : Nat) (f : DI) (t : TgD) (cond : DT) (fe : DE) : DA:=fun ρ st => (f ρ st).bind fun q st1 => compD q.2 t cond fe q.1 (capEv ρ caps nT) st1 []
noncomputable def PTs (X : Cx) (ifs : List Expr) (cond : DT) : Prop:=∀ (pins : List (Addr × Obj)) (s : Shared) (σ : L2.St) (H : Hp) (Q : Bool → Hp → Prop), Inv X pins σ H s → tDT X.K EX0 cond σ H Q →
 wpAny (model X.prog X.w) X.A (forIn ifs true fun c r => if r = true then do let ok ← isTrue c X.env (eval c X.env); pure (ForInStep.yield ok) else pure (ForInStep.yield r)) (TP X pins σ Q) X.xe s
theorem pts_nil {X : Cx} : PTs X [] dTrue:=by
 rintro pins s σ H Q I ⟨O, ρ, st, W, E, R⟩
 exact wpAny_tests_nil ⟨H, I, Run.now (k:=fun b _ _ H' => Q b H') R W⟩
theorem pts_one {X : Cx} {c : Expr} {t : DT} (h : PDT X EX0 c t) : PTs X [c] t:=fun pins s σ H Q I q => wpAny_tests_one (h pins s σ H Q I q)
section
variable {X : Cx} {EX : EXT} {scope : Scope} {N : List Str} {caps : List Nat} {nT : Nat} {elt tg iter : Expr} {ifs : List Expr} {pos : Pos} {f : DI} {t : TgD} {cond : DT} {fe : DE}
structure BlkOk (X : Cx) (scope : Scope) (N : List Str) (caps : List Nat) (nT : Nat) (tg elt : Expr) (ifs : List Expr) (t : TgD) (cond : DT) (fe : DE) : Prop where
 blk : Blk X.env.scope scope X.N N caps nT
 tgt : ∀ acc fp s3 H, PGD (cxC X N scope acc fp s3 H) tg t
 tst : ∀ acc fp s3 H, PTs (cxC X N scope acc fp s3 H) ifs cond
 elt : ∀ acc fp s3 H, PD (cxC X N scope acc fp s3 H) EX0 elt fe
theorem lc_block (hc : X.calm = true) (B : BlkOk X scope N caps nT tg elt ifs t cond fe) {pins : List (Addr × Obj)} {σ : L2.St} {H : Hp} {s : Shared} {O : List Addr} {ρ : Ev} {st : Sto} {q : Wk} {J : It} {fp : List Addr} {it : Addr} {tn : Nat → Heap → Prop} {Q : VK} {E : Value → Shared → Prop}
  {RR : Value → Addr → Result → Shared → Prop}
  (I : Inv X pins σ H s) (T : Turn X.prog X.w X.K tg J fp it tn) (h0 : tn 0 s.heap) (hf : ∀ b ∈ fp, FpOk X pins H b) (hJ : ItD X.K J O H q) (W : WR X.K O H st) (Er : REnv X.K O H ρ σ)
  (R : Run X.K EX O H (compD q.2 t cond fe q.1 (capEv ρ caps nT) st []) (New X.K Q))
  (hRR : ∀ (p C : Addr) (H' : Hp) (vs : List V) (s' : Shared) (m : Str → Option Value), s.heap.objs.size ≤ C → H' C = none → s'.heap.Ns C m → p ≠ C → Inv X pins σ (upd H' p (.lst vs)) s' → Q (.ref p) (upd H' p (.lst vs)) → RR (.ref p) C (.ok .next) s') :
  wpAny (model X.prog X.w) X.A (newList []) (fun acc s₃ => wpAny (model X.prog X.w) X.A (newFunctionEnv scope X.env.globals (clOf X.env scope.names []) [] X.env.qual none .none (some X.env)) (fun cenv s₄ =>
   codeAny (model X.prog X.w) X.A (.compStart (.ListComp elt [⟨tg, iter, ifs, 0⟩] scope pos) 0 (.ref it) acc { cenv with scope:=relabel scope X.env }) (RR acc cenv.locals) s₄) E s₃) E s:=by
 refine wpAny_newObj_type (wpAny_newFunctionEnv B.blk.nocell (by intro y hy; simp at hy) (fun h₁ hns₁ hsb₁ => ?_) B.blk.kind)
 dsimp only at hns₁ hsb₁ ⊢
 have ltC : s.heap.objs.size < (s.heap.push { cls := .type "list", data := .seq ([] : List Value).toArray }).objs.size := by rw [Heap.size_push]; exact Nat.lt_succ_self _
 have fpo : ∀ b ∈ fp, ∃ o, s.heap.get? b = some o:=fun b hb => let ⟨o, e, _⟩:=T.obj 0 _ h0 b hb; ⟨o, e⟩
 have I4:=blk_start (tk:=s.toks + ([] : List (Str × Value)).length) B.blk I hf fpo hns₁ hsb₁
 have fpne : ∀ b ∈ fp, b ≠ s.heap.objs.size:=fun b hb => let ⟨o, e⟩:=fpo b hb; Nat.ne_of_lt (Heap.lt_size e)
 generalize hXC : cxC X N scope s.heap.objs.size fp { s with heap := s.heap.push { cls := .type "list", data := .seq ([] : List Value).toArray } } H = XC at I4
 have fok : ∀ (H' : Hp) (P : List (Addr × Obj)), (∀ b ∈ fp, H' b = none) → (∀ p ∈ P, p.1 ∉ fp) → ∀ b ∈ fp, FpOk XC P H' b:=by
  intro H' P h1 h2 b hb
  subst hXC
  obtain ⟨o, e⟩:=fpo b hb
  refine ⟨h1 b hb, Nat.ne_of_lt (Nat.lt_trans (Heap.lt_size e) ltC), fun hm => ?_, .inl (List.mem_cons_of_mem _ hb), fun x c hx => (hf b hb).2.2.2.2.1 x c (clOf_look scope.names [] (fun y a z => (by cases z)) hx), fun p hp hpe => h2 p (by have hp' : p ∈ [] ++ P:=hp; simpa using hp') (hpe ▸ hb)⟩
  rcases List.mem_cons.mp (I.stkSub _ hm) with z | z
  ·exact (hf b hb).2.1 z
  ·exact (hf b hb).2.2.1 z
 have aok : ∀ (H' : Hp), H' s.heap.objs.size = none → FpOk XC [] H' s.heap.objs.size:=by
  intro H' h1
  subst hXC
  refine ⟨h1, Nat.ne_of_lt ltC, fun hm => ?_, .inl List.mem_cons_self, fun x c hx z => ?_, fun p hp => by cases hp⟩
  ·rcases List.mem_cons.mp (I.stkSub _ hm) with z | z
   ·have:=I.lt
    rw [← z] at this
    exact absurd this (Nat.lt_irrefl _)
   ·exact I.nofs (Nat.le_refl _) z
  ·obtain ⟨v, o, ho', _⟩:=I.cell x c (clOf_look scope.names [] (fun y a z => (by cases z)) hx)
   exact absurd (z ▸ Heap.lt_size ho') (Nat.lt_irrefl _)
 have k4 : ∀ b o, s.heap.get? b = some o → h₁.get? b = some o:=fun b o e => hsb₁.extBut b o (Nat.ne_of_lt (Nat.lt_trans (Heap.lt_size e) ltC)) (Heap.get?_push_of_some _ (Heap.get?_push_of_some _ e))
 have hacc0 : h₁.get? s.heap.objs.size = some { cls := .type "list", data := .seq ([] : List Value).toArray } := hsb₁.extBut _ _ (Nat.ne_of_lt ltC) (Heap.get?_push_of_some _ (Heap.get?_push_size _ rfl))
 have eP : XC.prog = X.prog:=by subst hXC; rfl
 have eW : XC.w = X.w:=by subst hXC; rfl
 have eK : XC.K = X.K:=by subst hXC; rfl
 have eA : XC.A = X.A:=by subst hXC; rfl
 have eC : XC.calm = true:=by subst hXC; exact hc
 have eX : XC.xe = fun _ _ => False:=by subst hXC; rfl
 have eE : XC.env = compEnvC scope (clOf X.env scope.names []) (s.heap.push { cls := .type "list", data := .seq ([] : List Value).toArray }).objs.size X.env := by subst hXC; rfl
 have loop : ∀ s4 : Shared, s4 = { s with heap:=h₁, toks:=s.toks + ([] : List (Str × Value)).length } →
   codeAny (model X.prog X.w) X.A (.compLoop (.ListComp elt [⟨tg, iter, ifs, 0⟩] scope pos) 0 (.ref it) (.ref s.heap.objs.size) XC.env) (RR (.ref s.heap.objs.size) (s.heap.push { cls := .type "list", data := .seq ([] : List Value).toArray }).objs.size) s4 := by
  intro s4 es4
  refine compLoop_gen (fun n s' => ∃ (i : Nat) (O' : List Addr) (ρ' : Ev) (st' : Sto) (ds : List D) (vs : List V) (its : List Value) (nn : Nat) (H' : Hp) (σc : L2.St), n + i = q.1.length ∧ Inv XC [] σc H' s' ∧ Keep X.K O H O' H' ∧ WR X.K O' H' st' ∧ REnv X.K O' H' ρ' σc ∧ tn i s'.heap ∧
   (∀ b ∈ fp, H' b = none) ∧ s'.heap.get? s.heap.objs.size = some { cls := .type "list", data := .seq its.toArray nn } ∧ H' s.heap.objs.size = none ∧ Vals vs its ∧ Reps X.K O' H' ds vs ∧ ds.length ≤ small ∧ Run X.K EX O' H' (compD q.2 t cond fe (q.1.drop i) ρ' st' ds) (New X.K Q)) ?_ q.1.length ?_
  ·rintro n s' ⟨i, O', ρ', st', ds, vs, its, nn, H', σc, hn, Ic, kp, W', E', htn, hfn, hacc, haccH, hv, hr, hz, hR⟩
   have IcA : Inv XC (pinsAt [s.heap.objs.size] s'.heap) σc H' s':=by
    have:=Ic.pinned (fp:=[s.heap.objs.size]) (fun b hb => by rw [List.mem_singleton] at hb; subst hb; exact aok H' haccH) (fun b hb => by rw [List.mem_singleton] at hb; subst hb; exact ⟨_, hacc, fun v z => by cases z⟩)
    simpa using this
   have pA : ∀ p ∈ pinsAt [s.heap.objs.size] s'.heap, p.1 ∉ fp:=fun p hp hm => by
    have:=(of_pinsAt hp).1
    rw [List.mem_singleton] at this
    exact fpne _ hm this
   have hpin : (s.heap.objs.size, ({ cls := .type "list", data := .seq its.toArray nn } : Obj)) ∈ pinsAt [s.heap.objs.size] s'.heap := mem_pinsAt (List.mem_singleton.mpr rfl) hacc
   cases hd : q.1.drop i with
   | nil =>
    rw [hd] at hR
    unfold compD at hR
    by_cases hch : q.2 st'
    ·rw [if_pos hch] at hR
     have hl : q.1.length ≤ i:=List.drop_eq_nil_iff.mp hd
     have hstop:=(hJ i O' H' st' kp W' hch).2 hl
     have hw:=T.done XC eP eW eK eC i (pinsAt [s.heap.objs.size] s'.heap) s' σc H' (fun _ _ => False) IcA (fok H' _ hfn pA) htn hstop
     rw [eA] at hw
     refine wpAny_mono hw (fun r s1 hr1 => ?_) fun _ _ z => z
     obtain ⟨rfl, I1⟩:=hr1
     obtain ⟨p1, p2, _⟩:=I1.pin _ (List.mem_append_right _ hpin)
     obtain ⟨m, hm, _⟩:=I1.loc
     have I1' : Inv XC [] σc H' s1:=I1.pins_of fun p hp => I1.pin p (List.mem_append_left _ (by simpa using hp))
     have hCf:=I1.free
     rw [eE] at hm hCf
     refine hRR _ _ H' vs s1 m (Nat.le_of_lt ltC) hCf hm (Nat.ne_of_lt ltC) ?_ (Run.now (k:=New X.K Q) hR W' _ vs hr haccH)
     subst hXC
     exact blk_end I hf I1' p1 haccH hv (by rw [← hr.length]; exact Nat.le_trans hz small_le)
    ·rw [if_neg hch] at hR; exact hR.elim
   | cons x xs =>
    rw [hd] at hR
    unfold compD at hR
    have hx : q.1[i]? = some x:=by
     have:=List.getElem?_drop (xs:=q.1) (i:=i) (j:=0)
     rw [hd] at this
     simpa using this.symm
    have hxs : q.1.drop (i + 1) = xs:=by
     have:=List.drop_drop (i:=1) (j:=i) (l:=q.1)
     rw [hd] at this
     simpa using this.symm
    have hi : i < q.1.length:=(List.getElem?_eq_some_iff.mp hx).1
    by_cases hch : q.2 st' ∧ ds.length < small
    ·rw [if_pos hch] at hR
     obtain ⟨hgo, hy⟩:=(hJ i O' H' st' kp W' hch.1).1 x hx
     have hw:=T.item XC eP eW eK eC i (pinsAt [s.heap.objs.size] s'.heap) s' σc H' (fun _ _ => False) IcA (fok H' _ hfn pA) htn hgo
     rw [eA] at hw
     refine wpAny_mono hw (fun r s1 hr1 => ?_) fun _ _ z => z
     obtain ⟨u, rfl, hw2⟩:=hr1
     refine wpAny_mono hw2 (fun _ s2 hr2 => ?_) fun _ _ z => z
     obtain ⟨x', H1, I1, rx, hyl, htn1, hfn1⟩:=hr2
     obtain ⟨ky, Wy, ry⟩:=hy x' H1 hyl
     cases ht : t x ρ' with
     | none => rw [ht] at hR; exact hR.elim
     | some ρ1 =>
      rw [ht] at hR
      dsimp only at hR
      have I1' : Inv XC (pinsAt [s.heap.objs.size] s'.heap ++ pinsAt fp s2.heap) σc H1 s2:=I1.pinned (fok H1 _ hfn1 pA) fun b hb => T.obj (i + 1) _ htn1 b hb
      generalize hP2 : pinsAt [s.heap.objs.size] s'.heap ++ pinsAt fp s2.heap = P2 at I1'
      have hpa : (s.heap.objs.size, ({ cls := .type "list", data := .seq its.toArray nn } : Obj)) ∈ P2 := hP2 ▸ List.mem_append_left _ hpin
      have hpf : ∀ b ∈ fp, ∀ o, s2.heap.get? b = some o → (b, o) ∈ P2:=fun b hb o e => hP2 ▸ List.mem_append_right _ (mem_pinsAt hb e)
      have back : ∀ {σ2 : L2.St} {H2 : Hp} {s3 : Shared}, Inv XC P2 σ2 H2 s3 → s3.heap.get? s.heap.objs.size = some { cls := .type "list", data := .seq its.toArray nn } ∧ H2 s.heap.objs.size = none ∧ (∀ b ∈ fp, H2 b = none) ∧ (∀ b ∈ fp, ∀ o, s2.heap.get? b = some o → s3.heap.get? b = some o) ∧ Inv XC [] σ2 H2 s3 := by
       intro σ2 H2 s3 I3
       refine ⟨(I3.pin _ (List.mem_append_right _ hpa)).1, (I3.pin _ (List.mem_append_right _ hpa)).2.1, fun b hb => ?_, fun b hb o e => (I3.pin _ (List.mem_append_right _ (hpf b hb o e))).1, I3.pins_of fun p hp => I3.pin p (List.mem_append_left _ (by simpa using hp))⟩
       obtain ⟨o, e, _⟩:=T.obj (i + 1) _ htn1 b hb
       exact (I3.pin _ (List.mem_append_right _ (hpf b hb o e))).2.1
      have PG1 : PGD XC tg t:=by subst hXC; exact B.tgt _ _ _ _
      have PT1 : PTs XC ifs cond:=by subst hXC; exact B.tst _ _ _ _
      have PE1 : PD XC EX0 elt fe:=by subst hXC; exact B.elt _ _ _ _
      have ha:=PG1 P2 s2 σc H1 x' u (fun σ' H'' => H'' = H1 ∧ REnv X.K O' H1 ρ1 σ') I1' rx ⟨O', x, ρ', ρ1, by rw [eK]; exact ry, by rw [eK]; exact E'.mono ky, ht, fun σ' E2 => ⟨rfl, by rw [eK] at E2; exact E2⟩⟩
      rw [eP, eW, eA, eX] at ha
      refine wpAny_mono ha (fun _ s3 hr3 => ?_) fun _ _ z => z
      obtain ⟨σ2, H1', I3, rfl, E2⟩:=hr3
      have hb:=PT1 P2 s3 σ2 H1' (fun b H'' => ∃ O'' stb, cond ρ1 st' = .ok b stb ∧ Keep X.K O' H1' O'' H'' ∧ WR X.K O'' H'' stb) I3 ⟨O', ρ1, st', by rw [eK]; exact Wy, by rw [eK]; exact E2, by
       rw [eK]
       cases hcnd : cond ρ1 st' with
       | ok b stb => exact fun O'' H'' k W => ⟨O'', stb, rfl, k, W⟩
       | exc c stb => rw [hcnd] at hR; exact hR.elim
       | bad => rw [hcnd] at hR; exact hR.elim⟩
      rw [eP, eW, eA, eX] at hb
      refine wpAny_mono hb (fun ok s4 hr4 => ?_) fun _ _ z => z
      obtain ⟨H2, I4', O2, stb, hcnd, kb, Wb⟩:=hr4
      rw [hcnd] at hR
      cases ok with
      | false =>
       dsimp only at hR
       obtain ⟨b1, b2, b3, b4, b5⟩:=back I4'
       refine ⟨n - 1, by omega, i + 1, O2, ρ1, stb, ds, vs, its, nn, H2, σ2, by omega, b5, kp.trans (ky.trans kb), Wb, E2.mono kb, T.keep _ _ _ htn1 b4, b3, b1, b2, hv, Reps.mono (ky.trans kb) _ _ hr, hz, ?_⟩
       rw [hxs]
       exact Run.later hR (ky.trans kb)
      | true =>
       dsimp only at hR
       have he:=PE1 P2 s4 σ2 H2 (fun v H3 => ∃ O3 st3 d, fe ρ1 stb = .ok d st3 ∧ Keep X.K O2 H2 O3 H3 ∧ WR X.K O3 H3 st3 ∧ Rep X.K O3 H3 d v) I4' ⟨O2, ρ1, stb, by rw [eK]; exact Wb, by rw [eK]; exact E2.mono kb, by
        rw [eK]
        cases hfe : fe ρ1 stb with
        | ok d st3 => exact fun O3 H3 k W v r => ⟨O3, st3, d, rfl, k, W, r⟩
        | exc c st3 => rw [hfe] at hR; exact hR.elim
        | bad => rw [hfe] at hR; exact hR.elim⟩
       rw [eP, eW, eA, eX] at he
       refine wpAny_mono he (fun uv s5 hr5 => ?_) fun _ _ z => z
       obtain ⟨v, H3, I5, rv, O3, st3, d, hfe, ke, We, re⟩:=hr5
       rw [hfe] at hR
       dsimp only at hR
       obtain ⟨b1, b2, b3, b4, b5⟩:=back I5
       refine append_obj b1 (fun h6 hg6 hs6 => ?_) (by rw [← hv.length, ← hr.length]; exact Nat.le_trans hz small_le)
       obtain ⟨f0, f1, f2, f3, f4, f5⟩:=aok H3 b2
       have I6 : Inv XC [] σ2 H3 { s5 with heap:=h6 }:=b5.turned (t':=s5.toks) (fun b o hb e => (hs6.2 b hb).trans e) f0 f1 f3 f4 f5
       refine ⟨n - 1, by omega, i + 1, O3, ρ1, st3, ds ++ [d], vs ++ [v], its ++ [uv], nn + 1, H3, σ2, by omega, I6, kp.trans (ky.trans (kb.trans ke)), We, E2.mono (kb.trans ke), T.keep _ _ _ htn1 (fun b hb o e => (hs6.2 b (fpne b hb)).trans (b4 b hb o e)), b3, hg6, b2, hv.append (.cons rv .nil), (Reps.mono (ky.trans (kb.trans ke)) _ _ hr).append (Reps.one re), by rw [List.length_append]; exact hch.2, ?_⟩
       rw [hxs]
       exact Run.later hR (ky.trans (kb.trans ke))
    ·rw [if_neg hch] at hR; exact hR.elim
  ·subst es4
   refine ⟨0, O, capEv ρ caps nT, st, [], [], [], 0, H, capSt σ caps nT, rfl, I4, Keep.refl, W, capEnv Er caps nT, T.keep _ _ _ h0 (fun b hb o e => k4 b o e), fun b hb => (hf b hb).1, hacc0, I.hok.fresh (Nat.le_refl _), .nil, Reps.nil_i.mpr rfl, Nat.zero_le _, ?_⟩
   rw [List.drop_zero]
   exact R
 have e5 : ({ newEnv scope (s.heap.push { cls := .type "list", data := .seq ([] : List Value).toArray }).objs.size X.env.globals (clOf X.env scope.names []) X.env.qual none .none (some X.env) builtinsNs with scope := relabel scope X.env } : Env) = XC.env := by rw [eE]; rfl
 have h5:=loop _ rfl
 refine codeAny_compStart_list ?_ ?_
 ·exact e5 ▸ h5
 ·exact T.self _ 0 _ _ _ (T.keep _ _ _ h0 (fun b hb o e => k4 b o e)) (e5 ▸ h5)
end
end DL
end
section
namespace DL
open PySem PySem.Spec PyProof.Rows L2
section
variable {X : Cx} {EX : EXT} {scope : Scope} {N : List Str} {caps : List Nat} {nT : Nat} {elt tg iter : Expr} {ifs : List Expr} {pos spos py : Pos} {f : DI} {t : TgD} {cond : DT} {fe : DE} {y : Str}
theorem gone {pins : List (Addr × Obj)} {σ : L2.St} {H H1 : Hp} {s s1 : Shared} {C : Addr} {h' : Heap} (I : Inv X pins σ H s) (hC : s.heap.objs.size ≤ C) {σ1 : L2.St} (I1 : Inv X pins σ1 H1 s1) (hn : H1 C = none) (hs : Heap.SameBut C s1.heap h') : Inv X pins σ1 H1 { s1 with heap:=h' }:=by
 refine I1.turned (t':=s1.toks) (fun b o hb e => (hs.2 b hb).trans e) hn ?_ (.inr (Nat.le_trans I.sz hC)) ?_ ?_
 ·intro z
  exact absurd (Nat.lt_of_lt_of_le I.lt (z ▸ hC)) (Nat.lt_irrefl _)
 ·intro x c hx z
  obtain ⟨v, o, ho, _⟩:=I.cell x c hx
  exact absurd (Nat.lt_of_lt_of_le (Heap.lt_size ho) (z ▸ hC)) (Nat.lt_irrefl _)
 ·intro p hp z
  obtain ⟨h1, _⟩:=I.pin p hp
  exact absurd (Nat.lt_of_lt_of_le (Heap.lt_size h1) (z ▸ hC)) (Nat.lt_irrefl _)
noncomputable def LcR (X : Cx) (EX : EXT) (σ : L2.St) (caps : List Nat) (nT : Nat) (t : TgD) (cond : DT) (fe : DE) (Q : VK) (J : It) (H1 : Hp) : Prop :=
 ∃ O1 ρ q st1, ItD X.K J O1 H1 q ∧ WR X.K O1 H1 st1 ∧ REnv X.K O1 H1 ρ σ ∧ Run X.K EX O1 H1 (compD q.2 t cond fe q.1 (capEv ρ caps nT) st1 []) (New X.K Q)
theorem lc_wi {σ : L2.St} {H : Hp} {Q : VK} (h : tDF X.K EX (dComp caps nT f t cond fe) σ H Q) : wiD X.K EX f σ H (LcR X EX σ caps nT t cond fe Q):=by
 obtain ⟨O, ρ, st, W, E, R⟩:=h
 exact ⟨O, ρ, st, W, E, R.bind.mono fun q st1 O1 H1 k1 W1 R1 J hJ => ⟨O1, ρ, q, st1, hJ, W1, E.mono k1, R1⟩⟩
theorem clos_ok {pins : List (Addr × Obj)} {σ : L2.St} {H : Hp} {s : Shared} (B : Blk X.env.scope scope X.N N caps nT) (I : Inv X pins σ H s) : closureFor scope X.env = pure (clOf X.env scope.names []) :=
 closureFor_of fun y hy hk => I.ok.has y.1 (B.free y hy hk)
theorem pdf_lc (hc : X.calm = true) (B : BlkOk X scope N caps nT tg elt ifs t cond fe) (hi : PID X EX tg iter f) (hs : ∀ x, foldedSetIterable iter X.env x = pure x:=by intro _; rfl) : PDF X EX (.ListComp elt [⟨tg, iter, ifs, 0⟩] scope pos) (dComp caps nT f t cond fe):=by
 intro pins s σ H Q I h
 rw [eval_ListComp]
 refine wpAny_comprehension_free (use:=none) rfl hs (clos_ok B.blk I) B.blk.kind B.blk.names (wpAny_mono (hi pins s σ H _ I (lc_wi h)) (fun xv s₁ h₁ => wpAny_mono h₁ (fun itv s₂ h₂ => ?_) fun _ _ e => e) fun _ _ e => e)
 obtain ⟨it, fp, tn, J, H', rfl, I', T, h0, hf, O1, ρ, q, st1, hJ, W1, E1, R1⟩:=h₂
 refine lc_block (RR:=fun acc C => compPost (model X.prog X.w) X.A X.xe none (EP X pins σ Q) acc C) hc B I' T h0 hf hJ W1 E1 R1 ?_
 intro p C H2 vs s' m hC hn hns hpC I2 hq
 refine ⟨m, hns, fun h' hsb => ⟨.ref p, _, gone I' hC I2 (by rw [upd_ne (Ne.symm hpC)]; exact hn) hsb, rfl, hq⟩⟩
end
end DL
end
section
namespace HT
open PySem PyProof.Rows
section
open PySem.AutoSeq1 (wpAny_loadPart')
theorem noFill_tuple_mul : fillsNumberSlot (.type "tuple") "mul" = pure false :=
 PySem.fillsNumberSlot_seq (id := "tuple.__mul__") (r := some (.builtin "tuple.__rmul__")) F.slot_tuple_mul.lookup (by decide +kernel) F.slot_tuple_rmul.lookup (by decide +kernel)
theorem repeat_tuple : seqRepeat? (.type "tuple") = pure (some (.builtin "tuple.__mul__")) := by
 unfold seqRepeat?
 rw [PySem.seqSlot_of (T := "tuple") (name := "__mul__") (id := "tuple.__mul__") F.slot_tuple_mul.lookup (by decide +kernel), PySem.seqSlot_of (T := "tuple") (name := "__rmul__") (id := "tuple.__rmul__") F.slot_tuple_rmul.lookup (by decide +kernel)]
 rfl
theorem int_rmul_tuple (a : Int) (t : Tok) (l : Addr) (items : Array Value) (n : Nat) (dd : Option Addr) (sl : Array (Option Value)) :
  Meets (Builtin.«int.__rmul__» ⟨[.int a t, .ref l], []⟩) (fun _ R s => s.heap.get? l = some { cls := .type "tuple", dict := dd, data := .seq items n, slots := sl } ∧ R (.ok (.ret Value.notImplemented)) s) :=
 .of_wp fun prog w A R s h => by obtain ⟨hp, g, d, tk, os⟩:=s; obtain ⟨hl, h⟩:=h; wp_walk using wpAny_loadPart' hl; exact ⟨_, rfl, h⟩
theorem tuple_mulW1 (l : Addr) (items : Array Value) (n : Nat) (dd : Option Addr) (sl : Array (Option Value)) (k : Int) (u : Tok) (hf : ¬ (decide (k < -(2 ^ 63)) || decide (k ≥ 2 ^ 63)) = true) (hc : (items.isEmpty || k == 1) = true) :
  Meets (Builtin.«tuple.__mul__» ⟨[.ref l, .int k u], []⟩) (fun _ R s => s.heap.get? l = some { cls := .type "tuple", dict := dd, data := .seq items n, slots := sl } ∧ R (.ok (.ret (.ref l))) s) :=
 .of_wp fun prog w A R s h => by obtain ⟨hp, g, d, tk, os⟩:=s; obtain ⟨hl, h⟩:=h; have f1:=AutoSeq1.idx_int; wp_walk using wpAny_loadPart' hl; refine wpAny_ite_false (decide_eq_false hf) ?_; wp_walk using wpAny_loadPart' hl; exact ⟨_, rfl, h⟩
theorem tuple_mulW2 (l : Addr) (items : Array Value) (n : Nat) (dd : Option Addr) (sl : Array (Option Value)) (k : Int) (u : Tok) (hf : ¬ (decide (k < -(2 ^ 63)) || decide (k ≥ 2 ^ 63)) = true) (hc : ¬ (items.isEmpty || k == 1) = true) (hc2 : (decide (k ≤ 0) || items.isEmpty) = true) :
  Meets (Builtin.«tuple.__mul__» ⟨[.ref l, .int k u], []⟩) (fun _ R s => s.heap.get? l = some { cls := .type "tuple", dict := dd, data := .seq items n, slots := sl } ∧ R (.ok (.ret (.ref s.heap.objs.size))) { s with heap := s.heap.push { cls := .type "tuple", data := .seq #[] } }) :=
 .of_wp fun prog w A R s h => by obtain ⟨hp, g, d, tk, os⟩:=s; obtain ⟨hl, h⟩:=h; have f1:=AutoSeq1.idx_int; wp_walk using wpAny_loadPart' hl; refine wpAny_ite_false (decide_eq_false hf) ?_; wp_walk using wpAny_loadPart' hl; exact ⟨_, rfl, h⟩
theorem tuple_mulW3 (l : Addr) (items : Array Value) (n : Nat) (dd : Option Addr) (sl : Array (Option Value)) (k : Int) (u : Tok) (hf : ¬ (decide (k < -(2 ^ 63)) || decide (k ≥ 2 ^ 63)) = true) (hc : ¬ (items.isEmpty || k == 1) = true) (hc2 : ¬ (decide (k ≤ 0) || items.isEmpty) = true)
  (hc3 : ¬ (items.size : Int) * k > (2 ^ 63 - 1) / 8) (hc4 : ¬ Builtin.Tuple.tupleTooMany ((items.size : Int) * k) = true) (hsz : ((List.replicate k.toNat items).foldl (· ++ ·) #[]).size ≤ sizeLine) :
  Meets (Builtin.«tuple.__mul__» ⟨[.ref l, .int k u], []⟩) (fun _ R s => s.heap.get? l = some { cls := .type "tuple", dict := dd, data := .seq items n, slots := sl } ∧ R (.ok (.ret (.ref s.heap.objs.size))) { s with heap := s.heap.push { cls := .type "tuple", data := .seq ((List.replicate k.toNat items).foldl (· ++ ·) #[]) } }) :=
 .of_wp fun prog w A R s h => by obtain ⟨hp, g, d, tk, os⟩:=s; obtain ⟨hl, h⟩:=h; have f1:=AutoSeq1.idx_int; wp_walk using wpAny_loadPart' hl; refine wpAny_ite_false (decide_eq_false hf) ?_; wp_walk using wpAny_loadPart' hl; refine wpAny_ite_false (decide_eq_false hc3) ?_; wp_walk using wpAny_loadPart' hl; exact ⟨_, rfl, h⟩
end
end HT
namespace DL
open PySem PySem.Spec PyProof.Rows L2
section
variable {X : Cx} {EX : EXT} {a b c e o : Expr} {fa fb fc fo : DE} {pos p apos : Pos}
noncomputable def repL (xs : List D) (k : Nat) : List D:=(List.replicate k xs).flatten
noncomputable def mul2D : D → D → Sto → Out D
 | .tup xs, .int k, st => if -1000 ≤ k ∧ k ≤ 1000 ∧ xs.length ≤ 10 then .ok (.tup (repL xs k.toNat)) st else .bad
 | .str x, .int k, st => if -1000 ≤ k ∧ k ≤ 1000 ∧ x.length ≤ 10 then .ok (.str (PySem.Txt.mul x k)) st else .bad
 | a, b, st => mulD a b st
theorem mul_tup {pins : List (Addr × Obj)} {σ : L2.St} {H : Hp} {s : Shared} {O : List Addr} {st : Sto} {xs : List D} {l : Addr} {vs : List V} {k : Int} {t : Tok} {Q : VK} (I : Inv X pins σ H s) (W : WR X.K O H st) (q : H l = some (.tup vs)) (r : Reps X.K O H xs vs) (hk : -1000 ≤ k ∧ k ≤ 1000 ∧ xs.length ≤ 10)
  (R : Run X.K EX O H (.ok (.tup (repL xs k.toNat)) st) (Val X.K Q)) : wpAny (model X.prog X.w) X.A (binaryOp .Mult (.ref l) (.int k t)) (EP X pins σ Q) X.xe s:=by
 obtain ⟨its, hv, ht, hz⟩:=I.tuple (SqT.of q)
 obtain ⟨⟨cls, dd, data, sl⟩, ho, hc, n, hd⟩:=id ht
 simp only at hc hd
 subst hc hd
 have lk : its.length ≤ 10:=by rw [← hv.length, ← r.length]; exact hk.2.2
 have hf : ¬ (decide (k < -(2 ^ 63)) || decide (k ≥ 2 ^ 63)) = true:=by
  rw [Bool.or_eq_true, not_or]
  exact ⟨fun h => by have:=of_decide_eq_true h; omega, fun h => by have:=of_decide_eq_true h; omega⟩
 have fold : (List.replicate k.toNat its.toArray).foldl (· ++ ·) #[] = (List.replicate k.toNat its).flatten.toArray:=by
  have:=foldl_rep its k.toNat []
  rw [List.nil_append] at this
  exact this
 refine wpAny_binaryOp_repeat_ref (T := "tuple") (U := "int") (by decide) ⟨_, ho, rfl⟩ (fun s' => typeIs_int s' k t) HT.noFill_tuple_mul F.fills_int_mul F.slot_int_rmul HT.repeat_tuple F.slot_int_index.lookup
  (call_meets F.slot_int_rmul (typeIs_int s k t) F.entry_int_rmul (F.args_int_rmul_2 _ _) (HT.int_rmul_tuple k t l its.toArray n dd sl)
   ⟨ho, rfl, ⟨_, ho, rfl⟩, ?_⟩)
 by_cases h1 : (its.toArray.isEmpty || k == 1) = true
 ·refine call_meets F.slot_tuple_mul ⟨_, ho, rfl⟩ F.entry_tuple_mul (F.args_tuple_mul_2 _ _) (HT.tuple_mulW1 l its.toArray n dd sl k t hf h1) ⟨ho, ?_⟩
  have e : repL xs k.toNat = xs:=by
   rw [Bool.or_eq_true] at h1
   rcases h1 with h1 | h1
   ·have h2 : its = []:=by simpa using h1
    have h3 : xs = []:=by
     have:=r.length
     rw [hv.length, h2] at this
     exact List.length_eq_zero_iff.mp this
    subst h3
    unfold repL
    induction k.toNat with
    | zero => rfl
    | succ m ih => rw [List.replicate_succ, List.flatten_cons, ih]; rfl
   ·have h2 : k = 1:=by simpa using h1
    subst h2
    simp [repL]
  rw [e] at R
  exact ⟨.ref l, H, I, rfl, Run.now (k:=Val X.K Q) R W _ (Rep.tup_i.mpr ⟨l, vs, rfl, q, r⟩)⟩
 ·by_cases h2 : (decide (k ≤ 0) || its.toArray.isEmpty) = true
  ·refine call_meets F.slot_tuple_mul ⟨_, ho, rfl⟩ F.entry_tuple_mul (F.args_tuple_mul_2 _ _) (HT.tuple_mulW2 l its.toArray n dd sl k t hf h1 h2) ⟨ho, ?_⟩
   have e : k.toNat = 0:=by
    rw [Bool.or_eq_true] at h2 h1
    rcases h2 with h2 | h2
    ·have:=of_decide_eq_true h2; omega
    ·exact absurd (.inl h2) h1
   have hp:=I.hok.fresh (Nat.le_refl s.heap.objs.size)
   rw [e] at R
   refine ⟨.ref s.heap.objs.size, _, I.laid (t':=s.toks) (o:=.tup []) (fun b ob q => Heap.get?_push_of_some _ q) (Nat.le_refl _) ⟨by decide, [], .nil, IsTup.new _ _⟩, rfl, ?_⟩
   exact new_tup (xs:=repL xs 0) W (Reps.nil_i.mpr rfl) hp R
  ·have hk0 : 0 < k:=by
    rw [Bool.or_eq_true, not_or] at h2
    have:=of_decide_eq_false (Bool.eq_false_iff.mpr h2.1)
    omega
   have hm : (its.toArray.size : Int) * k ≤ 10000:=by
    have h3 : (its.toArray.size : Int) ≤ 10:=by rw [List.size_toArray]; omega
    have h4 : (its.toArray.size : Int) * k ≤ 10 * k:=Int.mul_le_mul_of_nonneg_right h3 (by omega)
    omega
   have hlen : ((List.replicate k.toNat its).flatten).length ≤ 10000:=by
    rw [len_rep]
    have h3 : k.toNat * its.length ≤ 1000 * 10:=Nat.mul_le_mul (by omega) lk
    omega
   have hbig : (10000 : Nat) ≤ sizeLine:=small_le
   refine call_meets F.slot_tuple_mul ⟨_, ho, rfl⟩ F.entry_tuple_mul (F.args_tuple_mul_2 _ _) (HT.tuple_mulW3 l its.toArray n dd sl k t hf h1 h2 (by omega) (by
     unfold Builtin.Tuple.tupleTooMany
     intro h
     have:=of_decide_eq_true h
     omega) (by rw [fold, List.size_toArray]; omega)) ⟨ho, ?_⟩
   have hp:=I.hok.fresh (Nat.le_refl s.heap.objs.size)
   rw [fold]
   refine ⟨.ref s.heap.objs.size, _, I.laid (t':=s.toks) (o:=.tup (List.replicate k.toNat vs).flatten) (fun b ob q => Heap.get?_push_of_some _ q) (Nat.le_refl _) ⟨?_, _, hv.rep k.toNat, IsTup.new _ _⟩, rfl, ?_⟩
   ·rw [len_rep, hv.length, ← len_rep]; omega
   ·exact new_tup W (r.rep k.toNat) hp R
theorem op_mul2D : OpD X EX (binaryOp .Mult) mul2D:=by
 intro pins s σ H x y v u Q I rx ry h
 obtain ⟨O, a, b, st, W, ra, rb, R⟩:=h
 have other : Run X.K EX O H (mulD a b st) (Val X.K Q) → wpAny (model X.prog X.w) X.A (binaryOp .Mult v u) (EP X pins σ Q) X.xe s:=fun R => op_mulD pins s σ H x y v u Q I rx ry ⟨O, a, b, st, W, ra, rb, R⟩
 cases a <;> cases b <;> first | exact other R | skip
 case tup.int xs k =>
  dsimp only [mul2D] at R
  by_cases hk : -1000 ≤ k ∧ k ≤ 1000 ∧ xs.length ≤ 10
  ·rw [if_pos hk] at R
   rw [Rep.tup_i] at ra
   rw [Rep.int_i] at rb
   subst rb
   obtain ⟨l, vs, rfl, q, r⟩:=ra
   cases rx
   obtain ⟨t, rfl⟩:=ry
   exact mul_tup I W q r hk R
  ·rw [if_neg hk] at R; exact R.elim
 case str.int z k =>
  dsimp only [mul2D] at R
  by_cases hk : -1000 ≤ k ∧ k ≤ 1000 ∧ z.length ≤ 10
  ·rw [if_pos hk] at R
   rw [Rep.str_i] at ra
   rw [Rep.int_i] at rb
   subst ra rb
   obtain ⟨t', rfl⟩:=rx
   obtain ⟨t, rfl⟩:=ry
   exact SB.mul (mulOk_of 10 1000 hk.2.2 hk.2.1 (by omega) (by decide) (by decide)) fun t2 k2 => ⟨.str (PySem.Txt.mul z k), H, I.tok k2, ⟨t2, rfl⟩, Run.now (k:=Val X.K Q) R W _ (Rep.str_i.mpr rfl)⟩
  ·rw [if_neg hk] at R; exact R.elim
end
end DL
end
section
namespace HT
open PySem PyProof.Rows
section
variable {prog : Program} {w : World} {A : Around} {E : Value → Shared → Prop} {s : Shared}
end
end HT
end
section
namespace DL
open PySem PySem.Spec PyProof.Rows L2
end DL
end
section
namespace HT
open PySem PyProof.Rows
section
variable {prog : Program} {w : World} {A : Around} {E : Value → Shared → Prop} {s : Shared}
end
end HT
namespace DL
open PySem PySem.Spec PyProof.Rows L2
section
variable {X : Cx} {EX : EXT} {a b e o tg : Expr} {fa fb fo : DE} {g : DA} {pos p px apos cpos : Pos} {x : Str}
noncomputable def dAppend (fo fa : DE) : DE:=fun ρ st => (fo ρ st).bind fun d st1 => match d with
 | .res i => match st1[i]? with
  | some (.lst _) => (fa ρ st1).bind fun v st2 => match st2[i]? with
   | some (.lst xs) => if xs.length < small then .ok .non (st2.set i (.lst (xs ++ [v]))) else .bad
   | _ => .bad
  | _ => .bad
 | _ => .bad
theorem res_lst {K : PySem.W.Frag} {O : List Addr} {H : Hp} {st : Sto} (W : WR K O H st) {i : Nat} {v : V} {xs : List D} (r : Rep K O H (.res i) v) (e : st[i]? = some (.lst xs)) : ∃ a vs, v = .ref a ∧ O[i]? = some a ∧ H a = some (.lst vs) ∧ Reps K O H xs vs:=by
 rw [Rep.res_i] at r
 obtain ⟨a, rfl, q⟩:=r
 obtain ⟨vs, h1, h2⟩:=W.at_ _ _ _ q e
 exact ⟨a, vs, rfl, q, h1, h2⟩
theorem pd_append (ho : PD X EX o fo) (ha : PD X EX a fa) (hbase : attributeBase o "append" X.env (eval o X.env) = eval o X.env := by rfl)
  (hfew : ((backTo cpos (starEach [a] X.env)).all (fun x => !x.1) && (backToKw cpos (keywordEach [] X.env)).all (fun x => x.1.isSome)
   && decide ([a].length + ([] : List Keyword).length + (if ([] : List Keyword).isEmpty then 0 else 1) < 30)) = true:=by rfl)
  (hline : (apos.endLine == cpos.line) = true := by rfl) (hs : starEach [a] X.env = (false, eval a X.env) :: starEach [] X.env := by rfl) (hplain : (backTo cpos (starEach [] X.env)).any (·.1) = false := by rfl) : PD X EX (.Call (.Attribute o "append" apos) [a] [] cpos) (dAppend fo fa) := by
 refine PE.mono (pe_bm PySem.F.plainAttrs_list PySem.F.slot_list_append PySem.F.type_list_append mt_append ho (pda_cons ha pda_nil hs) hbase hfew hline hs hplain) ?_
 rintro σ H Q ⟨O, ρ, st, W, E, R⟩
 refine ⟨O, ρ, st, W, E, R.bind.mono fun d st1 O1 H1 k1 W1 R1 v r => ?_⟩
 cases d with
 | res i =>
  dsimp only at R1
  cases e1 : st1[i]? with
  | none => rw [e1] at R1; exact R1.elim
  | some s1 =>
   rw [e1] at R1
   cases s1 with
   | ins C fs => exact R1.elim
   | dct kvs => exact R1.elim
   | dtt kvs => exact R1.elim
   | lst xs0 =>
    dsimp only at R1
    obtain ⟨pa, vs0, rfl, q0, h0, _⟩:=res_lst W1 r e1
    refine ⟨.inl ⟨rfl, _, SqL.of h0⟩, O1, ρ, st1, W1, E.mono k1, ?_⟩
    cases hfa : fa ρ st1 with
    | bad => rw [hfa] at R1; exact R1.elim
    | exc c st2 =>
     rw [hfa] at R1
     show Run X.K EX O1 H1 (dCons fa dNil ρ st1) _
     unfold dCons
     rw [hfa]
     exact R1
    | ok w st2 =>
     rw [hfa] at R1
     show Run X.K EX O1 H1 (dCons fa dNil ρ st1) _
     unfold dCons
     rw [hfa]
     intro O2 H2 k2 W2 ws rs
     obtain ⟨u, rfl, ru⟩:=Reps.one_of rs
     have R2:=Run.later R1 k2
     dsimp only [Out.bind] at R2
     cases e2 : st2[i]? with
     | none => rw [e2] at R2; exact R2.elim
     | some s2 =>
      rw [e2] at R2
      cases s2 with
      | ins C fs => exact R2.elim
      | dct kvs => exact R2.elim
      | dtt kvs => exact R2.elim
      | lst xs =>
       dsimp only at R2
       by_cases hl : xs.length < small
       ·rw [if_pos hl] at R2
        obtain ⟨pa', vs, e3, q, h1, h2⟩:=res_lst W2 (Rep.mono k2 _ _ r) e2
        cases e3
        refine ⟨pa, vs, u, rfl, rfl, h1, by rw [← h2.length]; exact Nat.lt_of_lt_of_le hl small_le, ?_⟩
        exact R2 O2 _ (Keep.write W2 q) (W2.writeL q (h2.append (Reps.one ru))) _ (Rep.non_i.mpr rfl)
       ·rw [if_neg hl] at R2; exact R2.elim
 | _ => exact R1.elim
theorem Reps.dropLast {K : PySem.W.Frag} {O : List Addr} {H : Hp} {ds : List D} {vs : List V} (r : Reps K O H ds vs) : Reps K O H ds.dropLast vs.dropLast:=by
 rw [List.dropLast_eq_take, List.dropLast_eq_take, r.length]
 exact r.take _
noncomputable def strsOf : List D → Option (List Str)
 | [] => some []
 | .str x :: r => (strsOf r).map (x :: ·)
 | _ :: _ => none
noncomputable def joinD : D → List D → Sto → Out D
 | .str z, [d], st => match itemsOf st d with
  | some xs => match strsOf xs with
   | some ys => if (ys.map (·.length)).sum + ys.length * z.length ≤ small then .ok (.str (PySem.Txt.join z ys)) st else .bad
   | none => .bad
  | none => .bad
 | _, _, _ => .bad
theorem strs_are {K : PySem.W.Frag} {O : List Addr} {H : Hp} : ∀ {xs : List D} {ys : List Str} {vs : List V} {us : List Value}, strsOf xs = some ys → Reps K O H xs vs → Vals vs us → StrsAre us ys
 | [], ys, vs, us, e, r, v => by
  cases e
  rw [Reps.nil_i] at r
  subst r
  cases v
  exact .nil
 | d :: xs, ys, vs, us, e, r, v => by
  obtain ⟨w, vs', rfl, rd, rs⟩:=Reps.cons_i.mp r
  cases d with
  | str x =>
   rw [Rep.str_i] at rd
   subst rd
   cases v with
   | cons q t =>
    obtain ⟨tk, rfl⟩:=q
    unfold strsOf at e
    cases e1 : strsOf xs with
    | none => rw [e1] at e; cases e
    | some zs =>
     rw [e1] at e
     cases e
     exact .cons x tk (strs_are e1 rs t)
  | _ => cases e
noncomputable def dBM (g : D → List D → Sto → Out D) (fo : DE) (f : DA) : DE:=fun ρ st => (fo ρ st).bind fun d st1 => match d with
 | .str z => (f ρ st1).bind fun ds st2 => g (.str z) ds st2
 | _ => .bad
theorem mt_joinD : MtR X "str.join" (fun x xs H Q => ∃ O d ds st, WR X.K O H st ∧ Rep X.K O H d x ∧ Reps X.K O H ds xs ∧ Run X.K EX O H (joinD d ds st) (Val X.K Q)) := by
 intro pins s σ H x xs v us Q I rx rxs h
 obtain ⟨O, d, ds, st, W, r, rs, R⟩:=h
 unfold joinD at R
 split at R
 ·rename_i z d'
  rw [Rep.str_i] at r
  subst r
  obtain ⟨tk, rfl⟩:=rx
  obtain ⟨v', rfl, rv⟩:=rs.one_of
  obtain ⟨u, rfl, ru⟩:=vals1 rxs
  cases e1 : itemsOf st d' with
  | none => rw [e1] at R; exact R.elim
  | some zs =>
   rw [e1] at R
   dsimp only at R
   cases e2 : strsOf zs with
   | none => rw [e2] at R; exact R.elim
   | some ys =>
    rw [e2] at R
    dsimp only at R
    by_cases hz : (ys.map (·.length)).sum + ys.length * z.length ≤ small
    ·rw [if_pos hz] at R
     have hz' : (ys.map (·.length)).sum + ys.length * z.length ≤ 16777216:=Nat.le_trans hz (by decide)
     obtain ⟨pp, vs, rfl, q, rz⟩:=itemsOf_rd W rv e1
     cases ru
     have fin : ∀ t' k, EP X pins σ Q (.str (PySem.Txt.join z ys) t') { s with toks:=k }:=fun t' k => ⟨.str _, H, I.tok k, ⟨t', rfl⟩, Run.now (k:=Val X.K Q) R W _ (Rep.str_i.mpr rfl)⟩
     rcases q with q | q
     ·obtain ⟨its, hv, hp, _⟩:=I.list q
      exact join_list hp.isList (strs_are e2 rz hv) hz' fin
     ·obtain ⟨its, hv, hp, _⟩:=I.tuple (SqT.of q)
      exact join_tuple hp (strs_are e2 rz hv) hz' fin
    ·rw [if_neg hz] at R; exact R.elim
 ·exact R.elim
theorem pd_join (ho : PD X EX o fo) (ha : PD X EX a fa) (hbase : attributeBase o "join" X.env (eval o X.env) = eval o X.env := by rfl)
  (hfew : ((backTo cpos (starEach [a] X.env)).all (fun x => !x.1) && (backToKw cpos (keywordEach [] X.env)).all (fun x => x.1.isSome)
   && decide ([a].length + ([] : List Keyword).length + (if ([] : List Keyword).isEmpty then 0 else 1) < 30)) = true:=by rfl)
  (hline : (apos.endLine == cpos.line) = true := by rfl) (hs : starEach [a] X.env = (false, eval a X.env) :: starEach [] X.env := by rfl) (hplain : (backTo cpos (starEach [] X.env)).any (·.1) = false := by rfl) : PD X EX (.Call (.Attribute o "join" apos) [a] [] cpos) (dBM joinD fo (dCons fa dNil)) := by
 refine PE.mono (pe_bm PySem.F.plainAttrs_str PySem.F.slot_str_join PySem.F.type_str_join (mt_joinD (EX:=EX)) ho (pda_cons ha pda_nil hs) hbase hfew hline hs hplain) ?_
 rintro σ H Q ⟨O, ρ, st, W, E, R⟩
 refine ⟨O, ρ, st, W, E, R.bind.mono fun d st1 O1 H1 k1 W1 R1 v r => ?_⟩
 cases d with
 | str z =>
  dsimp only at R1
  have r':=r
  rw [Rep.str_i] at r
  subst r
  exact ⟨rfl, O1, ρ, st1, W1, E.mono k1, R1.bind.mono fun ds st2 O2 H2 k2 W2 R2 vs rs => ⟨O2, _, ds, st2, W2, Rep.mono k2 _ _ r', rs, R2⟩⟩
 | _ => exact R1.elim
end
end DL
end
section
namespace DL
open PySem PySem.Spec PyProof.Rows L2
noncomputable def tyName : D → Option String
 | .non => some "NoneType"
 | .bl _ => some "bool"
 | .int _ => some "int"
 | .str _ => some "str"
 | .tup _ => some "tuple"
 | .lst _ => some "list"
 | _ => none
noncomputable def subTy (t T : String) : Bool := t == T || (t == "bool" && T == "int")
noncomputable def tyNames : List String := ["NoneType", "bool", "int", "str", "tuple", "list"]
noncomputable def clNames : List String := ["bool", "int", "str", "tuple", "list"]
theorem kit_tab (K : PySem.W.Frag) : ∀ t ∈ tyNames, ∀ T ∈ clNames, PySem.W.kitOne K (.type t) (.type T) = some (subTy t T):=by
 intro t ht T hT
 simp only [tyNames, clNames, List.mem_cons, List.not_mem_nil, or_false] at ht hT
 rcases ht with rfl | rfl | rfl | rfl | rfl | rfl <;> rcases hT with rfl | rfl | rfl | rfl | rfl <;> rfl
theorem tyName_in {d : D} {t : String} (h : tyName d = some t) : t ∈ tyNames:=by
 cases d <;> simp only [tyName, Option.some.injEq, reduceCtorEq] at h <;> subst h <;> decide
section
variable {X : Cx} {EX : EXT} {a b c e o : Expr} {fa fb fc fo : DE} {pos p pT apos : Pos}
theorem inst_ok {pins : List (Addr × Obj)} {σ : L2.St} {H : Hp} {s : Shared} {O : List Addr} {st : Sto} {d : D} {v : V} {u : Value} {t T : String} {E : Value → Shared → Prop} {Q : Value → Shared → Prop} (I : Inv X pins σ H s) (W : WR X.K O H st) (r : Rep X.K O H d v) (q : RelV v u) (ht : tyName d = some t) (hT : T ∈ clNames)
  (h : ∀ tk, Q (.bool (subTy t T)) { s with toks := tk }) : wpAny (model X.prog X.w) X.A (call (.builtin "isinstance") [u, .type T]) Q E s := by
 have e:=kit_tab X.K t (tyName_in ht) T hT
 cases d with
 | non => cases ht; rw [Rep.non_i] at r; subst r; exact isinst_ok I q .non e h
 | bl b => cases ht; rw [Rep.bl_i] at r; subst r; exact isinst_ok I q (.bl b) e h
 | int b => cases ht; rw [Rep.int_i] at r; subst r; exact isinst_ok I q (.int b) e h
 | str b => cases ht; rw [Rep.str_i] at r; subst r; exact isinst_ok I q (.str b) e h
 | tup ds =>
  cases ht
  rw [Rep.tup_i] at r
  obtain ⟨a, vs, rfl, z, _⟩:=r
  obtain ⟨its, _, ⟨o, h1, h2, _⟩, _⟩:=I.tuple (SqT.of z)
  cases q
  exact PySem.W.kia_one PySem.W.kitx_tuple I.kIn ⟨o, h1, h2⟩ e (fun z => nomatch z) h
 | lst ds =>
  cases ht
  rw [Rep.lst_i] at r
  obtain ⟨a, vs, rfl, _, z, _⟩:=r
  exact isinst_ok I q (.lst z) e h
 | _ => cases ht
noncomputable def dInst (T : String) (f : DE) : DE:=fun ρ st => (f ρ st).bind fun d st1 => match tyName d with
 | some t => .ok (.bl (subTy t T)) st1
 | none => .bad
theorem pd_inst {x : Str} {T : String} (hT : T ∈ clNames) (he : PD X EX e fa) (hg : Gl X "isinstance") (hm : X.mg "isinstance" = none) (hgT : Gl X x) (hmT : X.mg x = none) (hvT : bootBuiltins x = some (.type T)) (hn : x ≠ "__name__" := by decide) (hdb : (x == ("__debug__" : Str)) = false := by decide)
  (hs : starEach [e, .Name x pT] X.env = (false, eval e X.env) :: starEach [.Name x pT] X.env:=by rfl) (hs1 : starEach [.Name x pT] X.env = (false, eval (.Name x pT) X.env) :: starEach [] X.env:=by rfl) (hpl : (backTo pos (starEach [.Name x pT] X.env)).any (·.1) = false:=by rfl) :
  PD X EX (.Call (.Name "isinstance" p) [e, .Name x pT] [] pos) (dInst T fa) := by
 have hc : CallR X (.builtin "isinstance") (fun xs H Q => ∃ v, xs = [v, .ty T] ∧ ∃ O d st t, WR X.K O H st ∧ Rep X.K O H d v ∧ tyName d = some t ∧ Q (.bl (subTy t T)) H) := by
  intro pins s σ H xs us Q I r h
  obtain ⟨v, rfl, O, d, st, t, W, rd, ht, q⟩:=h
  obtain ⟨u, w, rfl, ru, rw'⟩:=vals2 r
  cases rw'
  exact inst_ok I W rd ru ht hT fun tk => ⟨.bl _, H, I.tok tk, rfl, q⟩
 refine PE.mono (pe_callB hc hg hm PyProof.Rows.boot_isinstance (pa_cons he (pa_cons (pe_bltn hgT hmT hvT (v:=.ty T) rfl hn hdb) pa_nil hs1) hs) (by decide) (by decide) hs hpl) ?_
 rintro σ H Q ⟨O, ρ, st, W, E, R⟩
 refine ⟨O, ρ, st, W, E, R.bind.mono fun d st1 O1 H1 k1 W1 R1 v r => ?_⟩
 cases ht : tyName d with
 | none => rw [ht] at R1; exact R1.elim
 | some t =>
  rw [ht] at R1
  exact ⟨v, rfl, O1, d, st1, t, W1, r, ht, Run.now (k:=Val X.K Q) R1 W1 _ (Rep.bl_i.mpr rfl)⟩
noncomputable def dNeg (f : DE) : DE:=fun ρ st => (f ρ st).bind fun d st1 => match d with
 | .int i => .ok (.int (-i)) st1
 | _ => .bad
theorem pd_neg (ha : PD X EX a fa) : PD X EX (.UnaryOp .USub a pos) (dNeg fa):=by
 refine PE.mono (pe_un un_neg ha) ?_
 rintro σ H Q ⟨O, ρ, st, W, E, R⟩
 refine ⟨O, ρ, st, W, E, R.bind.mono fun d st1 O1 H1 k1 W1 R1 v r => ?_⟩
 cases d with
 | int i => exact ⟨i, Rep.int_i.mp r, Run.now (k:=Val X.K Q) R1 W1 _ (Rep.int_i.mpr rfl)⟩
 | _ => exact R1.elim
end
structure FnAt (P : Program) (w : World) (K : PySem.W.Frag) (mg : Str → Option Value) (base : Heap) (x : Str) (k : Nat) (F : FD) : Prop where
 ex : ∃ (f : Addr) (fd : FuncData) (ps : List Str), FnOk P w K mg base CX0 k f fd ps (spD K F) ∧ mg x = some (.ref f) ∧ PySem.W.keepIn K (.ref f) = true ∧ Binds K fd ps []
section
variable {X : Cx} {EX : EXT} {e : Expr} {es : List Expr} {pos p : Pos} {x : Str} {k j : Nat} {F : FD} {g : DA}
theorem pd_fn (h : FnAt X.prog X.w X.K X.mg X.base x j F) (hr : Room k X.A) (hj : j ≤ k) (hg : Gl X x) (ha : PDA X EX (e :: es) g)
  (hdb : (x == ("__debug__" : Str)) = false := by decide) (he : starEach (e :: es) X.env = (false, eval e X.env) :: starEach es X.env := by rfl) (hpl : (backTo pos (starEach es X.env)).any (·.1) = false := by rfl) :
  PD X EX (.Call (.Name x p) (e :: es) [] pos) (dCall F g):=by
 obtain ⟨f, fd, ps, G, hm, hk, hb⟩:=h.ex
 exact pd_call G (hr.mono hj) hg hm hk hb xe0 ha hdb he hpl
end
theorem fnAt {P : Program} {w : World} {K : PySem.W.Frag} {mg : Str → Option Value} {base : Heap} {x qual : Str} {st : Stmt} {f : Addr} {fd : FuncData} {N ps : List Str} {k : Nat} {g : DS} (F : Fun K x qual st f fd) (S : FnScope N ps (defScope st)) (hm : mg x = some (.ref f)) (hb : Binds K fd ps [])
  (hbody : ∀ (cdv : Value) (A : Around) (outer : List Env) (s : Shared) (H : Hp) (E : XK), Room k (A.deeper (envOfC qual (defScope st) s.heap.objs.size f cdv)) →
   PDS (cxOf CX0 P w K mg base N qual (defScope st) f cdv A outer s H E).nox EX0 (defBody st) g) : FnAt P w K mg base x (k + 1) (runF N.length ps.length g) :=
 ⟨f, fd, ps, fnD F S hbody, hm, F.kp, hb⟩
end DL
end
section
namespace HT
open PySem PyProof.Rows PyProof.Rows.LSm
section
variable {prog : Program} {w : World} {A : Around} {E : Value → Shared → Prop} {s : Shared} {l : Addr} {vs : List Value}
theorem all_kept {bs : List Bool} {Q : Value → Shared → Prop} (hh : A.handled = none) (hl : s.heap.IsList l vs.toArray) (hb : BoolsAre vs bs)
  (h : ∀ h' tk, (∀ b x, s.heap.get? b = some x → h'.get? b = some x) → Q (.bool (bs.all id)) { s with heap := h', toks := tk }) : wpAny (model prog w) A (call (.builtin "all") [.ref l]) Q E s := by
 have hlt : l < s.heap.objs.size:=by obtain ⟨_, e, _⟩:=hl; exact Heap.lt_size e
 refine call_all_walk (wpAny_pyIter_list hl ?_)
 refine ⟨s.heap.objs.size, [s.heap.objs.size, l], [s.heap.objs.size], vs.toArray.size, _, _, fun i => (bs[i]?).getD true, rfl, Walks.list (A:=A.in1) hh _ l (Nat.ne_of_lt hlt) vs.toArray, ⟨⟨_, Heap.get?_push_size _ rfl, rfl, rfl⟩, hl.push _⟩, fun i v s' Q' E' hP hQ => ?_, fun h' tk hk => ?_⟩
 ·obtain ⟨b, e, rfl⟩:=hb.get i v (by simpa using hP)
  simp only [e, Option.getD_some] at hQ
  exact wpAny_truthy_bool hQ
 ·have e : ((List.range vs.toArray.size).all fun i => (bs[i]?).getD true) = bs.all id:=by
   rw [List.size_toArray, hb.length]
   exact range_all bs
  rw [e]
  exact h h' tk (kept_iter hk)
end
end HT
namespace DL
open PySem PySem.Spec PyProof.Rows L2
noncomputable def blsOf : List D → Option (List Bool)
 | [] => some []
 | .bl b :: ds => (blsOf ds).map (b :: ·)
 | _ => none
noncomputable def allD : List D → Sto → Out D
 | [.lst ds], st => match blsOf ds with
  | some bs => .ok (.bl (bs.all id)) st
  | none => .bad
 | _, _ => .bad
theorem bls_are {K : PySem.W.Frag} {O : List Addr} {H : Hp} : ∀ {ds : List D} {vs : List V} {us : List Value} {bs : List Bool}, blsOf ds = some bs → Reps K O H ds vs → Vals vs us → PyProof.Rows.LSm.BoolsAre us bs:=by
 intro ds
 induction ds with
 | nil =>
  intro vs us bs e r q
  cases e
  rw [Reps.nil_i] at r
  subst r
  cases q
  exact .nil
 | cons d ds ih =>
  intro vs us bs e r q
  obtain ⟨v, ws, rfl, r1, r2⟩:=Reps.cons_i.mp r
  cases d with
  | bl b =>
   dsimp only [blsOf] at e
   cases e2 : blsOf ds with
   | none => rw [e2] at e; cases e
   | some cs =>
    rw [e2] at e
    cases e
    rw [Rep.bl_i] at r1
    subst r1
    cases q with
    | cons q1 q2 =>
     cases q1
     exact .cons b (ih e2 r2 q2)
  | _ => cases e
section
variable {X : Cx} {EX : EXT}
theorem call_allD (hc : X.calm = true) : CallD X EX (.builtin "all") allD := by
 intro pins s σ H xs us Q I rx h
 obtain ⟨O, ds, st, W, r, R⟩:=h
 unfold allD at R
 split at R
 ·rename_i zs
  obtain ⟨v, rfl, rv⟩:=r.one_of
  cases e : blsOf zs with
  | none => rw [e] at R; exact R.elim
  | some bs =>
   rw [e] at R
   rw [Rep.lst_i] at rv
   obtain ⟨a, vs, rfl, _, z, rs⟩:=rv
   obtain ⟨u, rfl, ru⟩:=vals1 rx
   cases ru
   obtain ⟨its, q, pl, _⟩:=I.list (Or.inl (Or.inl z))
   exact HT.all_kept (I.ok.hd hc) pl.isList (bls_are e rs q) fun h' tk k => ⟨.bl _, H, I.kept k, rfl, Run.now (k:=Val X.K Q) R W _ (Rep.bl_i.mpr rfl)⟩
 ·exact R.elim
noncomputable def leX : D → D → Sto → Out D
 | .int a, .int b, st => .ok (.bl (decide (a ≤ b))) st
 | .str a, .str b, st => .ok (.bl (!(decide (b.cps.toList < a.cps.toList)))) st
 | _, _, _ => .bad
theorem op_leX : OpD X EX (compareOp .LtE) leX:=by
 intro pins s σ H x y v u Q I rx ry h'
 obtain ⟨O, a, b, st, W, ra, rb, R⟩:=h'
 cases a <;> cases b <;> first | exact R.elim | skip
 ·rename_i i j
  rw [Rep.int_i] at ra rb
  subst ra rb
  exact op_le pins s σ H _ _ v u Q I rx ry ⟨i, j, rfl, rfl, Run.now (k:=Val X.K Q) R W _ (Rep.bl_i.mpr rfl)⟩
 ·rename_i i j
  rw [Rep.str_i] at ra rb
  subst ra rb
  obtain ⟨t, rfl⟩:=rx
  obtain ⟨t', rfl⟩:=ry
  exact PySem.P.le_str ⟨.bl _, H, I, rfl, Run.now (k:=Val X.K Q) R W _ (Rep.bl_i.mpr rfl)⟩
end
end DL
end
section
namespace DL
open PySem PySem.Spec PyProof.Rows L2
noncomputable def Its (x : Str) : It:=⟨fun i _ => i < x.cps.size, fun i H v H' => H' = H ∧ ∃ c, x.cps[i]? = some c ∧ v = .str ⟨#[c]⟩, fun i _ => x.cps.size ≤ i⟩
theorem turn_str {P : Program} {w : World} {K : PySem.W.Frag} {tg : Expr} (x : Str) (t : Tok) (it : Addr) : Turn P w K tg (Its x) [it] it (fun i h => h.IsStrIter it "str_ascii_iterator" x t i) where
 mem:=by simp
 obj:=fun i h st b hb => by
  have e : b = it:=by simpa using hb
  subst e
  obtain ⟨o, e, c, d⟩:=st
  exact ⟨o, e, fun v z => by rw [d] at z; cases z⟩
 keep:=fun i h h' st k => let ⟨o, e, r⟩:=st; ⟨o, k it (by simp) o e, r⟩
 item:=by
  intro X hP hw hK hc i pins s σ H E I hf st hg
  subst hP hw hK
  obtain ⟨f0, f1, f2, f3, f4, f5⟩:=hf it (by simp)
  have hx : x.cps[i]? = some (x.cps[i]'hg):=Array.getElem?_eq_getElem hg
  refine wpAny_pyNext_ascii_item st hx fun h' st' sb => ?_
  have I1 : Inv X pins σ H { s with heap:=h', toks:=s.toks + 1 }:=I.turned (t':=s.toks + 1) (fun b o hb e => (sb.2 b hb).trans e) f0 f1 f3 f4 f5
  obtain ⟨o, e, c, d⟩:=id st'
  exact ⟨_, rfl, go_of (s:={ s with heap:=h', toks:=s.toks + 1 }) e c d (by decide) ⟨.str _, H, I1, ⟨_, rfl⟩, ⟨rfl, _, hx, rfl⟩, st', fun b hb => (hf b hb).1⟩⟩
 done:=by
  intro X hP hw hK hc i pins s σ H E I hf st hg
  subst hP hw hK
  obtain ⟨f0, f1, f2, f3, f4, f5⟩:=hf it (by simp)
  exact wpAny_pyNext_ascii_end (I.ok.hd hc) st (Array.getElem?_eq_none hg) fun h' eb => ⟨rfl, I.turned (t':=s.toks) (fun b o hb e => eb b o hb e) f0 f1 f3 f4 f5⟩
 self:=fun _ _ _ _ _ st h => wpAny_pyIter_striter_ascii st h
noncomputable def iStr (tl : TE) : TI:=fun σ H R => tl σ H fun v H1 => ∃ x : Str, v = .str x ∧ x.cps.all (· < 128) = true ∧ R (Its x) H1
section
variable {X : Cx} {EX : EXT} {tg e : Expr} {f : DE}
theorem pi_strs {l : Expr} {tl : TE} (hl : PE X l tl) : PI X tg l (iStr tl):=by
 intro pins s σ H R I h
 refine thn (hl pins s σ H _ I h) fun v s1 ⟨y, H1, I1, r1, q1⟩ => ?_
 obtain ⟨x, e, ha, q⟩:=q1
 subst e
 obtain ⟨t, rfl⟩:=r1
 refine wpAny_pyIter_ascii ha ?_
 refine ⟨s1.heap.objs.size, [s1.heap.objs.size], _, _, H1, rfl, I1.kept (t':=s1.toks) fun b o e => Heap.get?_push_of_some _ e, turn_str x t _, ⟨_, Heap.get?_push_size _ rfl, rfl, rfl⟩, fun b hb => ?_, q⟩
 have e : b = s1.heap.objs.size:=by simpa using hb
 subst e
 exact I1.fpOk (Nat.le_refl _) (I1.hok.fresh (Nat.le_refl _))
noncomputable def signs (x : Str) : List Str:=x.cps.toList.map fun c => ⟨#[c]⟩
noncomputable def dSigns (f : DE) : DI:=fun ρ st => (f ρ st).bind fun d st1 => match d with
 | .str x => if x.cps.all (· < 128) = true then .ok ((signs x).map D.str, fun _ => True) st1 else .bad
 | _ => .bad
theorem it_str {K : PySem.W.Frag} {O : List Addr} {H : Hp} {x : Str} {P : Sto → Prop} : ItD K (Its x) O H ((signs x).map D.str, P):=by
 intro i O' H' st' kp W' hp
 refine ⟨fun d hd => ?_, fun hl => (show x.cps.size ≤ i by simpa [signs] using hl)⟩
 have hi : i < x.cps.size:=by
  have:=(List.getElem?_eq_some_iff.mp hd).1
  simpa [signs] using this
 have e : d = D.str ⟨#[x.cps[i]'hi]⟩:=by
  simp [signs, hi] at hd
  exact hd.symm
 subst e
 refine ⟨hi, ?_⟩
 rintro v H2 ⟨rfl, c, hc, rfl⟩
 rw [Array.getElem?_eq_getElem hi] at hc
 cases hc
 exact ⟨Keep.refl, W', Rep.str_i.mpr rfl⟩
theorem pid_signs (h : PD X EX e f) : PID X EX tg e (dSigns f):=by
 refine PI.mono (pi_strs h) ?_
 rintro σ H R ⟨O, ρ, st, W, E, R0⟩
 refine ⟨O, ρ, st, W, E, R0.bind.mono fun d st1 O1 H1 k1 W1 R1 v r => ?_⟩
 cases d with
 | str x =>
  dsimp only at R1
  rw [Rep.str_i] at r
  by_cases ha : x.cps.all (· < 128) = true
  ·rw [if_pos ha] at R1
   exact ⟨x, r, ha, Run.now (k:=fun q _ O' H' => ∀ J, ItD X.K J O' H' q → R J H') R1 W1 _ it_str⟩
  ·rw [if_neg ha] at R1; exact R1.elim
 | _ => exact R1.elim
end
end DL
end
section
namespace DL
open PySem PySem.Spec PyProof.Rows L2
theorem strIx (lo hi : Option Int) (n : Nat) : Builtin.Str.strSliceIndices lo hi 1 n = (List.range (HT.sIx n n hi - HT.sIx n 0 lo)).map (HT.sIx n 0 lo + ·):=by
 obtain ⟨h1, h2, _⟩:=slice_bounds lo hi n
 rw [← sliceRange_one, ← h1, ← h2]
 cases lo <;> cases hi <;> rfl
theorem slice_cut (z : Str) (lo hi : Option Int) : Txt.slice z lo hi = ⟨(cutL z.cps.toList lo hi).toArray⟩:=by
 have hz : z.cps.toList.length = z.length:=by simp [Str.length]
 have e : (Builtin.Str.strSliceIndices lo hi 1 z.length).filterMap (z.cps[·]?) = cutL z.cps.toList lo hi:=by
  rw [strIx, pick_run]
  unfold cutL
  rw [hz]
 unfold Txt.slice
 split
 ·rename_i h
  have hl : HT.sIx z.length z.length hi - HT.sIx z.length 0 lo = z.length:=by
   rw [strIx] at h
   simpa using h
  have h1:=HT.sIx_le z.length z.length (Nat.le_refl _) hi
  have h2:=HT.sIx_le z.length 0 (Nat.zero_le _) lo
  have h3 : HT.sIx z.length 0 lo = 0:=by omega
  have h4 : HT.sIx z.length z.length hi = z.length:=by omega
  unfold cutL
  rw [hz, h3, h4, List.drop_zero, Nat.sub_zero, ← hz, List.take_length]
 ·rw [e]
theorem part_of {v : Value} {o : Option Int} (h : IsPart v o) : ∃ l : Option (Int × Tok), v = partValue l ∧ l.map (·.1) = o:=by
 cases h with
 | none => exact ⟨none, rfl, rfl⟩
 | int i t => exact ⟨some (i, t), rfl, rfl⟩
noncomputable def cutS : D → Option Int → Option Int → Sto → Out D
 | .str z, lo, hi, st => if z.length ≤ small then .ok (.str ⟨(cutL z.cps.toList lo hi).toArray⟩) st else .bad
 | _, _, _, _ => .bad
section
variable {X : Cx} {EX : EXT} {a b c e o i : Expr} {fa fb fc fo fi : DE} {pos p p2 apos : Pos} {ta tb : DT}
theorem sl_S : SlR X (rDS X.K EX cutS):=by
 intro pins s σ H x v vl vu lo hi sl Q I rx hs pl pu h
 obtain ⟨O, d, st, W, r, R⟩:=h
 cases d with
 | str z =>
  rw [Rep.str_i] at r
  subst r
  obtain ⟨t, rfl⟩:=rx
  dsimp only [cutS] at R
  by_cases hz : z.length ≤ small
  ·rw [if_pos hz] at R
   obtain ⟨l, rfl, hl⟩:=part_of pl
   obtain ⟨u, rfl, hu⟩:=part_of pu
   subst hl hu
   refine ⟨"str", _, slot_str_getitem.lookup, typeIs_str s z t, wpAny_getItem_str_slice (l := l) (u := u) (st := none) hs rfl ?_⟩
   refine post_val_or_str ⟨Nat.le_trans (Txt.slice_le z _ _) (Nat.le_trans hz small_le), fun t' k => ?_⟩
   show EP X pins σ Q (.str (Txt.slice z (l.map (·.1)) (u.map (·.1))) t') _
   rw [slice_cut]
   exact ⟨.str _, H, I.tok _, ⟨_, rfl⟩, Run.now (k:=Val X.K Q) R W _ (Rep.str_i.mpr rfl)⟩
  ·rw [if_neg hz] at R; exact R.elim
 | _ => exact R.elim
end
structure MtAt (P : Program) (w : World) (K : PySem.W.Frag) (mg : Str → Option Value) (base : Heap) (C : Addr) (m : Str) (k : Nat) (F : FD) : Prop where
 ex : ∃ (f : Addr) (fd : FuncData) (ps : List Str), FnOk P w K mg base CX0 k f fd ps (spD K F) ∧ Meth K C m f ∧ Binds K fd ps []
structure MkAt (P : Program) (w : World) (K : PySem.W.Frag) (mg : Str → Option Value) (base : Heap) (x : Str) (C : Addr) (k : Nat) (F : FD) : Prop where
 ex : ∃ (f : Addr) (fd : FuncData) (ps : List Str), FnOk P w K mg base CX0 k f fd ps (spD K F) ∧ Mk K C f ∧ Binds K fd ps [] ∧ mg x = some (.ref C)
section
variable {X : Cx} {EX : EXT} {e o : Expr} {es : List Expr} {pos p apos : Pos} {x m : Str} {k j : Nat} {F : FD} {g : DA} {C : Addr} {fo : DE}
theorem pd_mt {pl : Sem Bool} (h : MtAt X.prog X.w X.K X.mg X.base C m j F) (c : Cls X.K C) (hr : Room k X.A) (hj : j ≤ k) (he : PD X EX o fo) (ha : PDA X EX (e :: es) g)
  (hst : starEach (e :: es) X.env = (false, eval e X.env) :: starEach es X.env:=by rfl) (hpl : (backTo pos (starEach es X.env)).any (·.1) = false:=by rfl)
  (ht : eval (.Call (.Attribute o m apos) (e :: es) [] pos) X.env = (do
   let ov ← eval o X.env
   standAt apos.atName
   let (f, first) ← holding [ov] (getMethod ov m pl)
   callWith pos f first (backTo pos (starEach (e :: es) X.env)) (backToKw pos (keywordEach [] X.env))):=by rfl) :
  PD X EX (.Call (.Attribute o m apos) (e :: es) [] pos) (dMeth C m F fo g):=by
 obtain ⟨f, fd, ps, G, hm, hb⟩:=h.ex
 exact pd_meth he c hm G (hr.mono hj) hb xe0 ha hst hpl ht
theorem pd_mt0 {pl : Sem Bool} (h : MtAt X.prog X.w X.K X.mg X.base C m j F) (c : Cls X.K C) (hr : Room k X.A) (hj : j ≤ k) (he : PD X EX o fo)
  (ht : eval (.Call (.Attribute o m apos) [] [] pos) X.env = (do
   let ov ← eval o X.env
   standAt apos.atName
   let (f, first) ← holding [ov] (getMethod ov m pl)
   callWith pos f first (backTo pos (starEach [] X.env)) (backToKw pos (keywordEach [] X.env))):=by rfl) :
  PD X EX (.Call (.Attribute o m apos) [] [] pos) (dMeth C m F fo dNil):=by
 obtain ⟨f, fd, ps, G, hm, hb⟩:=h.ex
 exact pd_meth0 he c hm G (hr.mono hj) hb xe0 ht
theorem pd_mk0 (h : MkAt X.prog X.w X.K X.mg X.base x C j F) (hr : Room k X.A) (hj : j + 1 ≤ k) (hg : Gl X x)
  (hdb : (x == ("__debug__" : Str)) = false := by decide) : PD X EX (.Call (.Name x p) [] [] pos) (dMake C F dNil) := by
 obtain ⟨f, fd, ps, G, hm, hb, hx⟩:=h.ex
 exact pd_make0 hm G (hr.mono hj) hg hx hb xe0 hdb
end
section
variable {P : Program} {w : World} {K : PySem.W.Frag} {mg : Str → Option Value} {base : Heap}
theorem mtAt {x qual : Str} {st : Stmt} {f C : Addr} {fd : FuncData} {N ps : List Str} {k : Nat} {g : DS} (F : Fun K x qual st f fd) (S : FnScope N ps (defScope st)) (hm : Meth K C x f) (hb : Binds K fd ps [])
  (hbody : ∀ (cdv : Value) (A : Around) (outer : List Env) (s : Shared) (H : Hp) (E : XK), Room k (A.deeper (envOfC qual (defScope st) s.heap.objs.size f cdv)) →
   PDS (cxOf CX0 P w K mg base N qual (defScope st) f cdv A outer s H E).nox EX0 (defBody st) g) : MtAt P w K mg base C x (k + 1) (runF N.length ps.length g) :=
 ⟨f, fd, ps, fnD F S hbody, hm, hb⟩
theorem mkAt {x qual cn : Str} {st : Stmt} {f C : Addr} {fd : FuncData} {N ps : List Str} {k : Nat} {g : DS} (F : Fun K x qual st f fd) (S : FnScope N ps (defScope st)) (hm : Mk K C f) (hb : Binds K fd ps []) (hx : mg cn = some (.ref C))
  (hbody : ∀ (cdv : Value) (A : Around) (outer : List Env) (s : Shared) (H : Hp) (E : XK), Room k (A.deeper (envOfC qual (defScope st) s.heap.objs.size f cdv)) →
   PDS (cxOf CX0 P w K mg base N qual (defScope st) f cdv A outer s H E).nox EX0 (defBody st) g) : MkAt P w K mg base cn C (k + 1) (runF N.length ps.length g) :=
 ⟨f, fd, ps, fnD F S hbody, hm, hb, hx⟩
end
section
variable {ρ : Ev} {st : Sto} {f fo fi fv : DE} {da : DA} {C : Addr} {x m : Str} {F : FD}
@[simp] theorem z_cutS (z : Str) (lo hi : Option Int) : cutS (.str z) lo hi st = if z.length ≤ small then .ok (.str ⟨(cutL z.cps.toList lo hi).toArray⟩) st else .bad:=rfl
theorem z_meth : dMeth C m F fo da ρ st = (fo ρ st).bind fun d st1 => match insAt C st1 d with
 | some (_, fs) => if fs.lookup m = none then (da ρ st1).bind fun ds st2 => F (d :: ds) st2 else .bad
 | none => .bad:=rfl
theorem z_fld : dFld C x fo ρ st = (fo ρ st).bind fun d st1 => match insAt C st1 d with
 | some (_, fs) => match fs.lookup x with
  | some v => .ok v st1
  | none => .bad
 | none => .bad:=rfl
theorem z_make : dMake C F da ρ st = (da ρ st).bind fun ds st1 => (F (.res st1.length :: ds) (st1 ++ [.ins C []])).bind fun d st2 => (asNon d st2).bind fun _ st3 => .ok (.res st1.length) st3:=rfl
theorem z_sFldS : sFldS C x fo fv ρ st = (fv ρ st).to fun v st1 => (fo ρ st1).to fun d st2 => match insAt C st2 d with
 | some (i, fs) => if fs.length < 900 then .nx ρ (st2.set i (.ins C (putFD x v fs))) else .bad
 | none => .bad:=rfl
theorem z_sFldF : sFldF C x fo da ρ st = (da ρ st).to fun vs st1 => (fo ρ (st1 ++ [.lst vs])).to fun d st2 => match insAt C st2 d with
 | some (i, fs) => if fs.length < 900 then .nx ρ (st2.set i (.ins C (putFD x (.res st1.length) fs))) else .bad
 | none => .bad:=rfl
theorem z_sFldAdd : sFldAdd C x fo fv ρ st = (fo ρ st).to fun d st1 => match insAt C st1 d with
 | some (i, fs) => match fs.lookup x with
  | some (.int z) => (fv ρ st1).to fun v st2 => match v with
   | .int y => match insAt C st2 d with
    | some (j, fs') => if fs'.length < 900 then .nx ρ (st2.set j (.ins C (putFD x (.int (z + y)) fs'))) else .bad
    | none => .bad
   | _ => .bad
  | _ => .bad
 | none => .bad:=rfl
end
end DL
end
section
namespace DL
open PySem PySem.Spec PyProof.Rows L2
section
variable {X : Cx} {EX : EXT} {es : List Expr} {k : Nat} {pt p pos : Pos} {a : Expr} {f : DE}
end
end DL
end
section
namespace DL
open PySem PySem.Spec PyProof.Rows L2
section
variable {X : Cx} {EX : EXT} {CX : CXT} {k j : Nat} {f C : Addr} {fd : FuncData} {ps : List Str} {sp : Sp} {E : XK} {x m : Str} {p pos apos : Pos} {e : Expr} {es : List Expr} {t : TA} {F : FD} {g : DA}
end
section
variable {X : Cx} {EX : EXT} {k j : Nat} {C : Addr} {x m : Str} {p pos apos : Pos} {e : Expr} {es : List Expr} {F : FD} {g : DA}
end
section
variable {P : Program} {w : World} {K : PySem.W.Frag} {mg : Str → Option Value} {base : Heap}
end
end DL
end
section
namespace DL
open PySem PySem.Spec PyProof.Rows L2
section
variable {X : Cx} {EX : EXT} {a b : Expr} {ta : TA} {p p2 pos pos2 : Pos} {g : DA}
end
end DL
end
section
namespace DL
open PySem PySem.Spec PyProof.Rows L2
section
variable {X : Cx} {EX : EXT}
end
end DL
end
section
namespace HT
open PySem PyProof.Rows
section
variable {prog : Program} {w : World} {A : Around} {E : Value → Shared → Prop} {s : Shared} {R : Result → Shared → Prop} {l I S : Addr}
end
end HT
namespace DL
open PySem PySem.Spec PyProof.Rows L2
section
variable {X : Cx} {EX : EXT} {a : Expr} {ta : TE} {fa : DE} {p p1 p2 kp1 kp2 pos : Pos} {j : Nat}
end
end DL
end
section
namespace DL
open PySem PySem.Spec PyProof.Rows L2
theorem objOk_there {P : Program} {w : World} {H : Hp} {h : Heap} {a : Addr} {o : HO} (x : ObjOk P w H h a o) : ∃ u, h.get? a = some u:=by
 cases o with
 | lst xs => obtain ⟨_, _, _, _, e⟩:=x; exact ⟨_, e⟩
 | tup xs => obtain ⟨_, _, _, _, e, _⟩:=x; exact ⟨_, e⟩
 | dK kvs => obtain ⟨_, _, _, _, _, _, _, e, _⟩:=x; exact ⟨_, e⟩
 | dT kvs => obtain ⟨_, _, _, _, _, _, _, e, _⟩:=x; exact ⟨_, e⟩
 | set S n => obtain ⟨_, _, _, _, e, _⟩:=x; exact ⟨_, e⟩
 | ins C dx fs => obtain ⟨_, _, _, e, _⟩:=x; exact ⟨_, e⟩
 | own y => exact x
 | xd fs => obtain ⟨_, ⟨_, _, _, e, _⟩, _⟩:=x; exact ⟨_, e⟩
 | rng lo hi => obtain ⟨_, _, _, e⟩:=x; exact ⟨_, e⟩
 | frz ob u => exact ⟨_, x.1⟩
 | tbl ps => exact ⟨_, show h.get? a = some _ from x⟩
 | met f y => exact ⟨_, show h.get? a = some _ from x⟩
 | ext φ => exact x.2.1
theorem carry {P : Program} {w : World} {outer stack : List Env} {H H1 H' : Hp} {h h1 h2 h' B : Heap} (u : Un (frs outer) [] H H1 h h1) (un : Un (frs stack) [] H1 H' h1 h2) (hok : HOk P w H' h2) (ff : h2.FunFrames B stack)
  (c1 : ∀ b o u, h1.get? b = some o → b ∉ frs stack → h2.get? b = some u → B.get? b = some u) (c2 : ∀ b o u, H' b = some o → h2.get? b = some u → B.get? b = some u)
  (st : B.StaysIn h') (up : h2.UpToSlots h') (hy : ∀ b o, h.get? b = some o → b ∉ frs outer → b ∉ frs stack) (sub : ∀ b ∈ frs outer, b ∈ frs stack) :
  Un (frs outer) [] H H' h h' ∧ HOk P w H' h' ∧ (∀ b o u, h.get? b = some o → b ∉ frs outer → h'.get? b = some u → B.get? b = some u) ∧ ∀ b o u, H' b = some o → h'.get? b = some u → B.get? b = some u:=by
 have ne : ∀ b : Addr, b ∉ ([] : List Addr):=fun b => by simp
 refine ⟨⟨fun b o q n hb _ => ?_, fun b o q n hb _ => ?_, fun b o q n _ => ?_, fun b o q _ => ?_, fun b xs q => un.tups b xs (u.tups b xs q), fun b o v q => un.frzs b o v (u.frzs b o v q), fun b ps q => ?_⟩, fun a o e => ?_, fun b o v q hb e => ?_, fun b o v q e => ?_⟩
 ·have q1:=u.keep b o q n hb (ne b)
  have hs:=hy b o q hb
  exact st b o (c1 b o o q1 hs (un.keep b o q1 (u.free b o q n (ne b)) hs (ne b)))
 ·obtain ⟨sl, q1⟩:=u.slot b o q n hb (ne b)
  obtain ⟨sl2, q2⟩:=un.slot b _ q1 (u.free b o q n (ne b)) (sub b hb) (ne b)
  obtain ⟨_, o', ho', nf⟩:=ff.mem (sub b hb)
  rw [q2] at ho'
  cases ho'
  obtain ⟨sl3, q3⟩:=up b _ q2 nf
  exact ⟨sl3, q3⟩
 ·obtain ⟨o1, q1⟩:=u.there b o q (ne b)
  exact un.free b o1 q1 (u.free b o q n (ne b)) (ne b)
 ·obtain ⟨o1, q1⟩:=u.there b o q (ne b)
  obtain ⟨o2, q2⟩:=un.there b o1 q1 (ne b)
  by_cases hb : b ∈ frs stack
  ·obtain ⟨_, o', ho', nf⟩:=ff.mem hb
   rw [q2] at ho'
   cases ho'
   obtain ⟨sl3, q3⟩:=up b _ q2 nf
   exact ⟨_, q3⟩
  ·exact ⟨o2, st b o2 (c1 b o1 o2 q1 hb q2)⟩
 ·obtain ⟨m1, q1⟩:=u.tbls b ps q
  obtain ⟨m2, q2⟩:=un.tbls b _ q1
  exact ⟨m1 ++ m2, by rw [q2, Array.append_assoc]⟩
 ·refine (hok a o e).stay (fun b v hb q => ?_) (fun _ q => q) fun _ _ q => q
  rcases hb with rfl | hb
  ·exact st b v (c2 b o v e q)
  ·exact st b v (c2 b _ v hb q)
 ·obtain ⟨o1, q1⟩:=u.there b o q (ne b)
  obtain ⟨o2, q2⟩:=un.there b o1 q1 (ne b)
  have z:=c1 b o1 o2 q1 (hy b o q hb) q2
  have:=st b o2 z
  rw [e] at this
  cases this
  exact z
 ·obtain ⟨v0, e0⟩:=objOk_there (hok b o q)
  have z:=c2 b o v0 q e0
  have:=st b v0 z
  rw [e] at this
  cases this
  exact z
structure Flies (P : Program) (w : World) (outer : List Env) (H : Hp) (s : Shared) (e : Value) (s' : Shared) (ea C : Addr) (a0 : Value) (B : Heap) (H' : Hp) : Prop where
 ev : e = .ref ea
 os : s'.os = s.os
 bare : AllBare s'.gens
 un : Un (frs outer) [] H H' s.heap s'.heap
 hok : HOk P w H' s'.heap
 fly : Heap.FlyingW B outer ea (.ref C) a0 s'.heap
 new : H' ea = none
 fresh : s.heap.get? ea = none
 c1 : ∀ b o u, s.heap.get? b = some o → b ∉ frs outer → s'.heap.get? b = some u → B.get? b = some u
 c2 : ∀ b o u, H' b = some o → s'.heap.get? b = some u → B.get? b = some u
noncomputable def CXr (P : Program) (w : World) : CXT:=fun outer H s E e s' => ∃ ea C a0 B H', Flies P w outer H s e s' ea C a0 B H' ∧ E (.ref C) Option.none H'
structure XT (X : Cx) (EX : EXT) : Prop where
 pass : XeOk (CXr X.prog X.w) X EX
 own : PassesOwn (model X.prog X.w) X.A X.env X.xe
structure XR (X : Cx) (EX : EXT) : Prop where
 raise : ∀ (pins : List (Addr × Obj)) (σ : L2.St) (H : Hp) (s : Shared) (C e : Addr) (h' : Heap) (args : List Value), Inv X pins σ H s → Heap.MadeExcOf s.heap h' e (.ref C) args → (∃ st O, EX C st O H) → X.xe (.ref e) { s with heap:=h' }
theorem xt_nox {X : Cx} : XT X.nox EX0:=by
 refine ⟨?_, PassesOwn.never⟩
 rintro pins σ H s e s' I ⟨ea, C, a0, B, H', F, c, st, O, _, z⟩
 exact z
noncomputable def exOf (E : XK) : EXT:=fun c _ _ H' => E (.ref c) Option.none H'
section
variable {P : Program} {w : World} {K : PySem.W.Frag} {mg : Str → Option Value} {base : Heap} {N : List Str} {qual : Str} {scope : Scope} {f : Addr} {cd : Value} {A : Around} {outer : List Env} {s : Shared} {H : Hp} {E : XK}
theorem frs_sub {X : Cx} (hk : X.stack = X.env :: X.outer) : ∀ b ∈ X.fs, b ∈ frs X.stack:=fun b hb => by
 rw [hk]
 show b ∈ (X.env :: X.outer).filterMap (·.frame)
 rw [List.filterMap_cons]
 split
 ·exact hb
 ·exact List.mem_cons_of_mem _ hb
theorem frs_old {X : Cx} {pins : List (Addr × Obj)} {σ : L2.St} {H : Hp} {s : Shared} (I : Inv X pins σ H s) : ∀ b o, X.s₀.heap.get? b = some o → b ∉ X.fs → b ∉ frs X.stack:=fun b o q hb hm => by
 rcases List.mem_cons.mp (I.stkSub b hm) with rfl | z
 ·exact absurd (Nat.lt_of_lt_of_le (Heap.lt_size q) I.ok.above) (Nat.lt_irrefl _)
 ·exact hb z
theorem xt_def : XT (cxOf (CXr P w) P w K mg base N qual scope f cd A outer s H E) (exOf E):=by
 refine ⟨?_, PassesOwn.leaving⟩
 rintro pins σ H1 s1 e s' I ⟨ea, C, a0, B, H', F, c, st, O, ec, hE⟩
 have ev:=F.ev
 subst ev
 cases ec
 obtain ⟨F1, F2, F3, F4⟩:=F.fly
 refine wpAny_leaves_onW I.ok.frames rfl F.fly fun h' fl up => ?_
 obtain ⟨z1, z2, z3, z4⟩:=carry (P:=P) (w:=w) (outer:=outer) I.base F.un F.hok F3 F.c1 F.c2 fl.1 up (frs_old I) (frs_sub (X:=cxOf (CXr P w) P w K mg base N qual scope f cd A outer s H E) rfl)
 refine ⟨ea, _, a0, B, H', ⟨rfl, F.os.trans I.os, F.bare, z1, z2, fl, F.new, ?_, z3, z4⟩, hE⟩
 cases q : s.heap.get? ea with
 | none => rfl
 | some o =>
  obtain ⟨o1, q1⟩:=I.base.there ea o q (by show ea ∉ ([] : List Addr); simp)
  rw [F.fresh] at q1
  cases q1
theorem xr_def : XR (cxOf (CXr P w) P w K mg base N qual scope f cd A outer s H E) (exOf E):=by
 refine ⟨?_⟩
 rintro pins σ H1 s1 C e h2 args I hx ⟨st, O, hE⟩
 have hin : ∀ env ∈ (cxOf (CXr P w) P w K mg base N qual scope f cd A outer s H E).stack, ∀ b, env.frame = some b → b ∈ frs (cxOf (CXr P w) P w K mg base N qual scope f cd A outer s H E).stack:=fun env he b hb => List.mem_filterMap.mpr ⟨env, he, hb⟩
 have hff:=PySem.W.funFrames_hide I.stack hin
 refine wpAny_leaves_madeW (base:=PySem.W.hideAll s1.heap (frs (cxOf (CXr P w) P w K mg base N qual scope f cd A outer s H E).stack)) (h:=s1.heap) I.ok.frames rfl (fun b o q => PySem.W.of_hideAll _ q) hff hx fun h' t fl tup tn up => ?_
 obtain ⟨z1, z2, z3, z4⟩:=carry (P:=P) (w:=w) (outer:=outer) (stack:=(cxOf (CXr P w) P w K mg base N qual scope f cd A outer s H E).stack) (B:=PySem.W.hideAll s1.heap (frs (cxOf (CXr P w) P w K mg base N qual scope f cd A outer s H E).stack)) I.base Un.refl I.hok hff
  (fun b o v _ hb q => PySem.W.hideAll_get _ q hb) (fun b o v q e => PySem.W.hideAll_get _ e fun hm => by rw [I.stkFree b hm] at q; cases q) fl.1 ((Heap.UpToSlots.of_keeps hx.keeps).trans up) (frs_old I) (frs_sub (X:=cxOf (CXr P w) P w K mg base N qual scope f cd A outer s H E) rfl)
 refine ⟨e, C, _, _, H1, ⟨rfl, I.os, I.bare, z1, z2, fl, ?_, ?_, z3, z4⟩, hE⟩
 ·cases q : H1 e with
  | none => rfl
  | some o =>
   obtain ⟨v, q1⟩:=objOk_there (I.hok e o q)
   rw [hx.new] at q1
   cases q1
 ·cases q : s.heap.get? e with
  | none => rfl
  | some o =>
   obtain ⟨o1, q1⟩:=I.base.there e o q (by show e ∉ ([] : List Addr); simp)
   rw [hx.new] at q1
   cases q1
noncomputable def runX (N n : Nat) (g : DS) : FD:=fun ds st => if ds.length = n then (match g (ds.map some ++ List.replicate (N - n) none) st with
 | .nx _ st' => .ok .non st'
 | .rt d st' => .ok d st'
 | .exc c st' => .exc c st'
 | _ => .bad) else .bad
theorem fnX {x qual : Str} {st : Stmt} {f : Addr} {fd : FuncData} {N ps : List Str} {k : Nat} {g : DS} (F : Fun K x qual st f fd) (S : FnScope N ps (defScope st))
  (hbody : ∀ (cdv : Value) (A : Around) (outer : List Env) (s : Shared) (H : Hp) (E : XK), Room k (A.deeper (envOfC qual (defScope st) s.heap.objs.size f cdv)) → XT (cxOf (CXr P w) P w K mg base N qual (defScope st) f cdv A outer s H E) (exOf E) →
   XR (cxOf (CXr P w) P w K mg base N qual (defScope st) f cdv A outer s H E) (exOf E) → PDS (cxOf (CXr P w) P w K mg base N qual (defScope st) f cdv A outer s H E) (exOf E) (defBody st) g) : FnOk P w K mg base (CXr P w) (k + 1) f fd ps (spD K (runX N.length ps.length g)):=by
 have hlen : ∀ vs H Q E, spD K (runX N.length ps.length g) vs H Q E → vs.length = ps.length:=by
  rintro vs H Q E ⟨O, ds, st, W, r, R⟩
  unfold runX at R
  by_cases hl : ds.length = ps.length
  ·rw [← r.length]; exact hl
  ·rw [if_neg hl] at R; exact R.elim
 obtain ⟨oc, od, kV, doc, pm, an, cdv, ct, osl, rfl, lk, hcd⟩:=F.ex
 refine fn_of lk hcd S hlen fun A outer s H vs Q E hr h => ?_
 refine ⟨_, hbody cdv A outer s H E hr xt_def xr_def, ?_⟩
 have hl:=hlen vs H Q E h
 obtain ⟨O, ds, st, W, r, R⟩:=h
 have hd : ds.length = ps.length:=by rw [r.length]; exact hl
 unfold runX at R
 rw [if_pos hd] at R
 refine ⟨O, ds.map some ++ List.replicate (N.length - ps.length) none, st, W, ?_, ?_⟩
 ·unfold L2.start
  rw [hl]
  exact renv_start (N:=N) _ r
 ·cases hg : g (ds.map some ++ List.replicate (N.length - ps.length) none) st with
  | nx ρ st' => rw [hg] at R; exact fun O' H' σ kp W' _ => R O' H' kp W' _ (Rep.non_i.mpr rfl)
  | rt d st' => rw [hg] at R; exact fun O' H' v kp W' rv => R O' H' kp W' v rv
  | exc c st' => rw [hg] at R; exact R
  | bad => rw [hg] at R; exact R
  | bk ρ st' => rw [hg] at R; exact R.elim
  | ct ρ st' => rw [hg] at R; exact R.elim
end
theorem exc_obj {K : PySem.W.Frag} {h : Heap} {C : Addr} {bmB : List Value} {newId : String} (X : K.In h) (q : PySem.W.excIn K C bmB newId = true) :
  ∃ bm N nm qn bs hdct sn sub ab col dd k0 k1 k2 k3 k5 mN, h.get? C = some (excClassObj nm qn C N bs bm hdct sn sub ab col dd k0 k1 k2 k3 k5 newId) ∧ h.Ns N mN ∧ mN "__init__" = none ∧ OwnTail h bmB bm := by
 unfold PySem.W.excIn at q
 split at q
 ·rename_i dd cd sl ho
  split at q
  ·rename_i C' bm k0 k1 k2 k3 n k5 hm hs
   simp only [Bool.and_eq_true, beq_iff_eq, Bool.not_eq_true'] at q
   obtain ⟨⟨⟨⟨⟨e1, e2⟩, e3⟩, e4⟩, e5⟩, e6⟩:=q
   subst e1 e2
   cases cd with
   | mk nm bs mro ns qn hd sn sub ab col del =>
    dsimp only at hm e3 e5 e6
    subst hm e3
    have hsl : sl = #[k0, k1, k2, k3, some (.builtin n), k5]:=by
     cases sl with
     | mk l => simp only at hs; rw [hs]
    subst hsl
    exact ⟨bm, ns, nm, qn, bs, hd, sn, sub, ab, col, dd, k0, k1, k2, k3, k5, _, X _ _ ho, .of_isNs (PySem.W.isNs_of_in X e5), PySem.W.nsMap_none_of_in X e5 e6, PySem.W.tail_of_in X e4⟩
  ·cases q
 ·cases q
section
variable {X : Cx} {EX : EXT} {e : Expr} {es : List Expr} {pos cpos p : Pos} {x : Str} {C : Addr} {g : DA} {B newId initId : String} {bmB : List Value}
noncomputable def sRaise (C : Addr) (g : DA) : DS:=fun ρ st => (g ρ st).to fun ds st1 => if ds.length ≤ small then .exc C st1 else .bad
theorem pd_raise (hx : XR X EX) (hc : X.calm = true) (hg : Gl X x) (hm : X.mg x = some (.ref C)) (hq : PySem.W.excIn X.K C bmB newId = true) (FB : ExcBaseFacts B newId initId bmB) (ha : PDA X EX (e :: es) g)
  (hdb : (x == ("__debug__" : Str)) = false := by decide) (he : starEach (e :: es) X.env = (false, eval e X.env) :: starEach es X.env := by rfl) (hpl : (backTo cpos (starEach es X.env)).any (·.1) = false := by rfl) :
  PDs X EX (.Raise (some (.Call (.Name x p) (e :: es) [] cpos)) none pos) (sRaise C g):=by
 rintro pins s σ H D I ⟨O, ρ, st, W, Ev, R⟩
 obtain ⟨bm, N, nm, qn, bs, hdct, sn, sub, ab, col, dd, k0, k1, k2, k3, k5, mN, hC, hN, hni, T⟩:=exc_obj I.ok.mod.kin hq
 refine wpAny_Raise_call_subT (C:=C) (nm:=nm) (q:=qn) (N:=N) (bs:=bs) (bm:=bm) (hdct:=hdct) (sn:=sn) (sub:=sub) (ab:=ab) (col:=col) (dd:=dd) (k0:=k0) (k1:=k1) (k2:=k2) (k3:=k3) (k5:=k5)
  FB (mN:=mN) (T.hasType FB.hasBase) (I.ok.hd hc) (by rw [he]; show (false || (backTo cpos (starEach es X.env)).any (·.1)) = false; rw [hpl]; rfl) hni (ld_glob I hg hm ⟨rfl, ?_⟩ hdb)
 have h0:=ha cpos pins s σ H (fun vs H' => vs.length ≤ sizeLine ∧ ∃ st O, EX C st O H') I ⟨O, ρ, st, W, Ev, R.to.mono fun ds st1 O1 H1 k1 W1 R1 vs rs => by
  by_cases hz : ds.length ≤ small
  ·rw [if_pos hz] at R1
   exact ⟨by rw [← rs.length]; exact Nat.le_trans hz small_le, st1, O1, R1 O1 H1 Keep.refl W1⟩
  ·rw [if_neg hz] at R1; exact R1.elim⟩
 rw [he] at h0 ⊢
 refine Calls.evalArgs_plain (wpAny_mono h0 (fun us s2 h2 => ?_) fun _ _ y => y)
 obtain ⟨vs, H2, I2, rv, hl, st2, O2, hE⟩:=h2
 exact ⟨rfl, by rw [← rv.length]; exact hl, I2.bk _ _ hC, hN.keeps I2.bk, T.keeps I2.bk, fun h' e hm => hx.raise pins σ H2 s2 C e h' us I2 hm ⟨st2, O2, hE⟩⟩
end
structure FnX (P : Program) (w : World) (K : PySem.W.Frag) (mg : Str → Option Value) (base : Heap) (x : Str) (k : Nat) (F : FD) : Prop where
 ex : ∃ (f : Addr) (fd : FuncData) (ps : List Str), FnOk P w K mg base (CXr P w) k f fd ps (spD K F) ∧ mg x = some (.ref f) ∧ PySem.W.keepIn K (.ref f) = true ∧ Binds K fd ps []
structure MtX (P : Program) (w : World) (K : PySem.W.Frag) (mg : Str → Option Value) (base : Heap) (C : Addr) (m : Str) (k : Nat) (F : FD) : Prop where
 ex : ∃ (f : Addr) (fd : FuncData) (ps : List Str), FnOk P w K mg base (CXr P w) k f fd ps (spD K F) ∧ Meth K C m f ∧ Binds K fd ps []
section
variable {X : Cx} {EX : EXT} {e o : Expr} {es : List Expr} {pos p apos : Pos} {x m : Str} {k j : Nat} {F : FD} {g : DA} {C : Addr} {fo : DE}
theorem pd_fnX (h : FnX X.prog X.w X.K X.mg X.base x j F) (hx : XT X EX) (hr : Room k X.A) (hj : j ≤ k) (hg : Gl X x) (ha : PDA X EX (e :: es) g)
  (hdb : (x == ("__debug__" : Str)) = false := by decide) (he : starEach (e :: es) X.env = (false, eval e X.env) :: starEach es X.env := by rfl) (hpl : (backTo pos (starEach es X.env)).any (·.1) = false := by rfl) :
  PD X EX (.Call (.Name x p) (e :: es) [] pos) (dCall F g):=by
 obtain ⟨f, fd, ps, G, hm, hk, hb⟩:=h.ex
 exact pd_call G (hr.mono hj) hg hm hk hb hx.pass ha hdb he hpl
theorem pd_mtX {pl : Sem Bool} (h : MtX X.prog X.w X.K X.mg X.base C m j F) (hx : XT X EX) (c : Cls X.K C) (hr : Room k X.A) (hj : j ≤ k) (he : PD X EX o fo) (ha : PDA X EX (e :: es) g)
  (hst : starEach (e :: es) X.env = (false, eval e X.env) :: starEach es X.env:=by rfl) (hpl : (backTo pos (starEach es X.env)).any (·.1) = false:=by rfl)
  (ht : eval (.Call (.Attribute o m apos) (e :: es) [] pos) X.env = (do
   let ov ← eval o X.env
   standAt apos.atName
   let (f, first) ← holding [ov] (getMethod ov m pl)
   callWith pos f first (backTo pos (starEach (e :: es) X.env)) (backToKw pos (keywordEach [] X.env))):=by rfl) :
  PD X EX (.Call (.Attribute o m apos) (e :: es) [] pos) (dMeth C m F fo g):=by
 obtain ⟨f, fd, ps, G, hm, hb⟩:=h.ex
 exact pd_meth he c hm G (hr.mono hj) hb hx.pass ha hst hpl ht
theorem pd_mtX0 {pl : Sem Bool} (h : MtX X.prog X.w X.K X.mg X.base C m j F) (hx : XT X EX) (c : Cls X.K C) (hr : Room k X.A) (hj : j ≤ k) (he : PD X EX o fo)
  (ht : eval (.Call (.Attribute o m apos) [] [] pos) X.env = (do
   let ov ← eval o X.env
   standAt apos.atName
   let (f, first) ← holding [ov] (getMethod ov m pl)
   callWith pos f first (backTo pos (starEach [] X.env)) (backToKw pos (keywordEach [] X.env))):=by rfl) :
  PD X EX (.Call (.Attribute o m apos) [] [] pos) (dMeth C m F fo dNil):=by
 obtain ⟨f, fd, ps, G, hm, hb⟩:=h.ex
 exact pd_meth0 he c hm G (hr.mono hj) hb hx.pass ht
end
section
variable {P : Program} {w : World} {K : PySem.W.Frag} {mg : Str → Option Value} {base : Heap}
theorem fnXAt {x qual : Str} {st : Stmt} {f : Addr} {fd : FuncData} {N ps : List Str} {k : Nat} {g : DS} (F : Fun K x qual st f fd) (S : FnScope N ps (defScope st)) (hm : mg x = some (.ref f)) (hb : Binds K fd ps [])
  (hbody : ∀ (cdv : Value) (A : Around) (outer : List Env) (s : Shared) (H : Hp) (E : XK), Room k (A.deeper (envOfC qual (defScope st) s.heap.objs.size f cdv)) → XT (cxOf (CXr P w) P w K mg base N qual (defScope st) f cdv A outer s H E) (exOf E) →
   XR (cxOf (CXr P w) P w K mg base N qual (defScope st) f cdv A outer s H E) (exOf E) → PDS (cxOf (CXr P w) P w K mg base N qual (defScope st) f cdv A outer s H E) (exOf E) (defBody st) g) : FnX P w K mg base x (k + 1) (runX N.length ps.length g) :=
 ⟨f, fd, ps, fnX F S hbody, hm, F.kp, hb⟩
theorem mtXAt {x qual : Str} {st : Stmt} {f C : Addr} {fd : FuncData} {N ps : List Str} {k : Nat} {g : DS} (F : Fun K x qual st f fd) (S : FnScope N ps (defScope st)) (hm : Meth K C x f) (hb : Binds K fd ps [])
  (hbody : ∀ (cdv : Value) (A : Around) (outer : List Env) (s : Shared) (H : Hp) (E : XK), Room k (A.deeper (envOfC qual (defScope st) s.heap.objs.size f cdv)) → XT (cxOf (CXr P w) P w K mg base N qual (defScope st) f cdv A outer s H E) (exOf E) →
   XR (cxOf (CXr P w) P w K mg base N qual (defScope st) f cdv A outer s H E) (exOf E) → PDS (cxOf (CXr P w) P w K mg base N qual (defScope st) f cdv A outer s H E) (exOf E) (defBody st) g) : MtX P w K mg base C x (k + 1) (runX N.length ps.length g) :=
 ⟨f, fd, ps, fnX F S hbody, hm, hb⟩
end
end DL
end
section
namespace DL
open PySem PySem.Spec PyProof.Rows L2
noncomputable abbrev Cx.at (X : Cx) (A : Around) (pn : List (Addr × Obj)) (E : Value → Shared → Prop) : Cx:={ X with A:=A, calm:=false, pn:=pn, xe:=E }
theorem inv_at {X : Cx} {pins : List (Addr × Obj)} {σ σ' : L2.St} {H : Hp} {s : Shared} (I : Inv X pins σ H s) {A : Around} (hA : A.frames = X.A.frames) (E : Value → Shared → Prop) (hl : σ'.length = σ.length) (w : ∀ (i : Nat) v, σ'[i]? = some (some v) → σ[i]? = some (some v)) :
  Inv (Cx.at X A (X.pn ++ pins) E) [] σ' H s:=by
 have J:=I.weak hl w
 have k:=I.ok
 exact ⟨⟨k.mod, k.kind, k.glob, k.blt, k.above, k.inj, k.has, k.cab, fun z => (by cases z), hA.trans k.frames, k.stk, k.exf, k.bs, k.bsz, k.noex, k.exfs, k.funs, k.frf⟩,
  J.os, J.bare, J.base, J.loc, J.cell, J.free, J.freeC, fun p hp => J.pin p (by rw [List.append_nil] at hp; exact hp), J.hok, J.len⟩
noncomputable abbrev Cx.pinned (X : Cx) (pn : List (Addr × Obj)) (E : Value → Shared → Prop) : Cx:={ X with pn:=pn, xe:=E }
theorem inv_pinned {X : Cx} {pins : List (Addr × Obj)} {σ : L2.St} {H : Hp} {s : Shared} (I : Inv X pins σ H s) (E : Value → Shared → Prop) : Inv (Cx.pinned X (X.pn ++ pins) E) [] σ H s:=by
 have k:=I.ok
 exact ⟨⟨k.mod, k.kind, k.glob, k.blt, k.above, k.inj, k.has, k.cab, k.hd, k.frames, k.stk, k.exf, k.bs, k.bsz, k.noex, k.exfs, k.funs, k.frf⟩,
  I.os, I.bare, I.base, I.loc, I.cell, I.free, I.freeC, fun p hp => I.pin p (by rw [List.append_nil] at hp; exact hp), I.hok, I.len⟩
theorem inv_unpinned {X : Cx} {pins p2 : List (Addr × Obj)} {σ : L2.St} {H : Hp} {s : Shared} {E : Value → Shared → Prop} (I : Inv (Cx.pinned X (X.pn ++ pins) E) p2 σ H s) : Inv X pins σ H s:=by
 have k:=I.ok
 exact ⟨⟨k.mod, k.kind, k.glob, k.blt, k.above, k.inj, k.has, k.cab, k.hd, k.frames, k.stk, k.exf, k.bs, k.bsz, k.noex, k.exfs, k.funs, k.frf⟩,
  I.os, I.bare, I.base, I.loc, I.cell, I.free, I.freeC, fun p hp => I.pin p (List.mem_append_left _ hp), I.hok, I.len⟩
theorem inv_back {X : Cx} {pins p2 : List (Addr × Obj)} {σ : L2.St} {H : Hp} {s : Shared} {A : Around} {E : Value → Shared → Prop} (k : X.Ok) (I : Inv (Cx.at X A (X.pn ++ pins) E) p2 σ H s) : Inv X pins σ H s :=
 ⟨k, I.os, I.bare, I.base, I.loc, I.cell, I.free, I.freeC, fun p hp => I.pin p (List.mem_append_left _ hp), I.hok, I.len⟩
theorem inv_gone {X : Cx} {pins : List (Addr × Obj)} {σ : L2.St} {H : Hp} {s : Shared} {m : Str → Option Value} {h' : Heap} {v : Option Value} {n : Str} {i t' : Nat} (I : Inv X pins σ H s) (hn : s.heap.Ns X.env.locals m) (hi : X.N[i]? = some n) (hN : X.N.Nodup)
  (hl : ∀ (i : Nat) (x : Str) (v : V), X.N[i]? = some x → σ[i]? = some (some v) → Vis X.env.scope x → ∃ u, RelV v u ∧ Look X.env s.heap m x u)
  (hn' : h'.Ns X.env.locals (fun x => if x = n then v else m x)) (hs : Heap.SameBut X.env.locals s.heap h') : Inv X pins (σ.set i none) H { s with heap:=h', toks:=t' }:=by
 have cne:=I.cne
 have old : ∀ b o, X.s₀.heap.get? b = some o → b ≠ X.env.locals:=fun b o e => Nat.ne_of_lt (Nat.lt_of_lt_of_le (Heap.lt_size e) I.ok.above)
 refine ⟨I.ok, I.os, I.bare, ⟨fun b o e n hb hx => ?_, fun b o e n hb hx => ?_, I.base.free, fun b o e hx => ?_, I.base.tups, I.base.frzs, I.base.tbls⟩, ⟨_, hn', fun j y w e1 e2 e3 => ?_⟩, fun y c e => ?_, I.free, I.freeC, fun p hp => ?_, fun b ob e => ?_, by simpa using I.len⟩
 ·exact (hs.2 b (old b o e)).trans (I.base.keep b o e n hb hx)
 ·obtain ⟨sl, e1⟩:=I.base.slot b o e n hb hx
  exact ⟨sl, (hs.2 b (old b o e)).trans e1⟩
 ·obtain ⟨o', e1⟩:=I.base.there b o e hx
  exact ⟨o', (hs.2 b (old b o e)).trans e1⟩
 ·by_cases hj : i = j
  ·subst hj
   rw [List.getElem?_set] at e2
   simp at e2
  ·rw [List.getElem?_set_ne hj] at e2
   obtain ⟨u, r, q⟩:=hl j y w e1 e2 e3
   refine ⟨u, r, ?_⟩
   rcases q with ⟨k, e⟩ | ⟨k, c, e, z⟩
   ·refine .inl ⟨k, ?_⟩
    have : y ≠ n:=fun e => hj (nodup_ix hN hi (e ▸ e1))
    simp [this, e]
   ·exact .inr ⟨k, c, e, z.sameBut hs (cne y c e)⟩
 ·obtain ⟨w', z⟩:=I.cell y c e
  exact ⟨w', z.sameBut hs (cne y c e)⟩
 ·obtain ⟨e, n, ne, nf, d⟩:=I.pin p hp
  exact ⟨(hs.2 p.1 ne).trans e, n, ne, nf, d⟩
 ·refine (I.hok b ob e).stay (fun c w' hc q => (hs.2 c ?_).trans q) (fun _ q => q) fun _ _ q => q
  rintro rfl
  rcases hc with rfl | hc
  ·rw [I.free] at e; cases e
  ·rw [I.free] at hc; cases hc
theorem name_gone {X : Cx} {pins : List (Addr × Obj)} {σ : L2.St} {H : Hp} {s : Shared} {M : Model} {A : Around} {E : Value → Shared → Prop} {n : Str} {i : Nat} {pos : Pos} {Q : Unit → Shared → Prop} (I : Inv X pins σ H s) (hN : X.N.Nodup) (hi : X.N[i]? = some n) (hl : X.env.scope.names.lookup n = some .local)
  (h : ∀ s', Inv X pins (σ.set i none) H s' → Q () s') : wpAny M A (do bindName X.env n .none; unbindBehindTheSuite X.env n pos) Q E s:=by
 obtain ⟨m, hn, hlk⟩:=id I.loc
 exact wpAny_nameGoes_keeps hl hn (by rw [I.ok.kind]; rfl) fun h' v hn' hs => h _ (inv_gone I hn hi hN hlk hn' hs)
structure RoomH (k : Nat) (A : Around) : Prop where
 dp : A.depth + 3 * k + 5 < recursionLimit
 un : A.units + 16 * k + 200 < cLine
theorem RoomH.mono {j k : Nat} {A : Around} (r : RoomH k A) (h : j ≤ k) : RoomH j A:=⟨by have:=r.dp; omega, by have:=r.un; omega⟩
theorem RoomH.deeper {k : Nat} {A : Around} (r : RoomH (k + 1) A) (env : Env) : RoomH k (A.deeper env):=⟨by have:=r.dp; show A.depth + 1 + 3 * k + 5 < _; omega, by have:=r.un; show A.units + 3 + 16 * k + 200 < _; omega⟩
theorem RoomH.of {k : Nat} {A : Around} (r : Room k A) (e : Option Value) : RoomH k (A.mark e):=⟨r.dp, r.un⟩
theorem RoomH.units {k : Nat} {A : Around} (r : RoomH k A) : A.units + 64 < cLine:=by have:=r.un; omega
structure FnH (P : Program) (w : World) (K : PySem.W.Frag) (mg : Str → Option Value) (base : Heap) (k : Nat) (f : Addr) (fd : FuncData) (ps : List Str) (sp : Sp) : Prop where
 len : ∀ vs H Q E, sp vs H Q E → vs.length = ps.length
 run : ∀ (A : Around) (outer : List Env) (s : Shared) (H : Hp) (args : Args) (us : List Value) (vs : List V) (Q : VK), RoomH k A → Env0 P w K mg base A outer s H → BindsTo s fd args (ps.zip us) → Vals vs us → sp vs H Q E0 →
  codeAny (model P w) A (.call (.ref f) args) (CR CX0 outer P w H s Q E0) s
noncomputable abbrev cxH (P : Program) (w : World) (K : PySem.W.Frag) (mg : Str → Option Value) (base : Heap) (N : List Str) (qual : Str) (scope : Scope) (f : Addr) (cd : Value) (A : Around) (outer : List Env) (s : Shared) (H : Hp) : Cx :=
 Cx.at (cxOf CX0 P w K mg base N qual scope f cd A outer s H E0) (A.deeper (envOfC qual scope s.heap.objs.size f cd)) [] fun _ _ => False
section
variable {P : Program} {w : World} {K : PySem.W.Frag} {mg : Str → Option Value} {base : Heap}
theorem fnH_of {x qual : Str} {st : Stmt} {f : Addr} {fd : FuncData} {N ps : List Str} {k : Nat} {sp : Sp} (F : Fun K x qual st f fd) (S : FnScope N ps (defScope st)) (len : ∀ vs H Q E, sp vs H Q E → vs.length = ps.length)
  (hbody : ∀ (cdv : Value) (A : Around) (outer : List Env) (s : Shared) (H : Hp) (vs : List V) (Q : VK), RoomH k (A.deeper (envOfC qual (defScope st) s.heap.objs.size f cdv)) → sp vs H Q E0 →
   ∃ t, PSs (cxH P w K mg base N qual (defScope st) f cdv A outer s H) (defBody st) t ∧ t { nx:=fun _ H' => Q .non H', rt:=Q } (start N vs) H) : FnH P w K mg base (k + 1) f fd ps sp:=by
 obtain ⟨oc, od, kV, doc, pm, an, cdv, ct, osl, rfl, lk, hcd⟩:=F.ex
 refine ⟨len, fun A outer s H args us vs Q hr e0 hb r hsp => ?_⟩
 have hl:=len _ _ _ _ hsp
 have KX : K.In s.heap:=e0.mod.kin.keeps fun b o e => (e0.bs b o e).1
 have lim : s.heap.NoLimit:=e0.mod.nolimit.keeps fun b o e => (e0.bs b o e).1
 have hkind : ∀ y ∈ ps.zip us, (defScope st).names.lookup y.1 = some .local ∨ ((defScope st).names.lookup y.1 = some .cell ∧ ((cellsFrom (s.heap.objs.size + 1) (defScope st).names []).lookup y.1).isSome = true):=by
  rintro ⟨n, v⟩ hy
  rcases S.par n (List.of_mem_zip hy).1 with q | q
  ·exact .inl q
  ·exact .inr ⟨q, PySem.W.cellsFrom_some _ _ _ (.inl q)⟩
 refine codeAny_call_function (by have:=hr.dp; omega) (KX _ _ lk) rfl S.co S.gen rfl (PySem.W.codeRec_of KX hcd) (hb _ _ _ _ ?_)
 refine wpAny_newFunctionEnv_cells S.kind hkind fun env he s1 x => ?_
 subst he
 refine ⟨lim.keeps x.toInCall.keep, codeAny_func ?_⟩
 obtain ⟨t, ht, hq⟩:=hbody cdv A outer s H vs Q (hr.deeper _) hsp
 have e1 : Env0 P w K mg base { A with handled:=none } outer s H:=⟨e0.frames, e0.mod, e0.bs, e0.bsz, e0.funs, e0.frf, e0.hok, e0.bare⟩
 have I1 : Inv (cxOf CX0 P w K mg base N qual (defScope st) f cdv { A with handled:=none } outer s H E0) [] (start N vs) H s1:=inv_start S rfl e1 hl r x
 have I : Inv (cxH P w K mg base N qual (defScope st) f cdv A outer s H) [] (start N vs) H s1:=inv_at (A:=A.deeper (envOfC qual (defScope st) s.heap.objs.size f cdv)) I1 rfl (fun _ _ => False) rfl fun _ _ z => z
 refine wpAny_mono (ht [] s1 (start N vs) H _ I hq) (fun fl s' hs => ?_) fun e s' hs => hs.elim
 have fin : ∀ {σ' : L2.St} {H' : Hp} {v : V} {u : Value}, Inv (cxH P w K mg base N qual (defScope st) f cdv A outer s H) [] σ' H' s' → RelV v u → Q v H' → CE outer P w H s Q u s' :=
  fun {σ' H' v u} J rv q => ⟨v, H', J.os, J.bare, J.base, J.hok, rv, q⟩
 cases fl with
 | ret u =>
  obtain ⟨v, σ', H', J, rv, q⟩:=hs
  exact fin J rv q
 | next =>
  obtain ⟨σ', H', J, q⟩:=hs
  exact fin (v:=V.non) (u:=Value.none) J rfl q
 | brk =>
  obtain ⟨_, _, _, q⟩:=hs
  exact False.elim q
 | cont =>
  obtain ⟨_, _, _, q⟩:=hs
  exact False.elim q
structure FnHAt (P : Program) (w : World) (K : PySem.W.Frag) (mg : Str → Option Value) (base : Heap) (x : Str) (k : Nat) (F : FD) : Prop where
 ex : ∃ (f : Addr) (fd : FuncData) (ps : List Str), FnH P w K mg base k f fd ps (spD K F) ∧ mg x = some (.ref f) ∧ PySem.W.keepIn K (.ref f) = true ∧ Binds K fd ps []
theorem fnHAt {x qual : Str} {st : Stmt} {f : Addr} {fd : FuncData} {N ps : List Str} {k : Nat} {g : DS} (F : Fun K x qual st f fd) (S : FnScope N ps (defScope st)) (hm : mg x = some (.ref f)) (hb : Binds K fd ps [])
  (hbody : ∀ (cdv : Value) (A : Around) (outer : List Env) (s : Shared) (H : Hp), RoomH k (A.deeper (envOfC qual (defScope st) s.heap.objs.size f cdv)) →
   PDS (cxH P w K mg base N qual (defScope st) f cdv A outer s H) EX0 (defBody st) g) : FnHAt P w K mg base x (k + 1) (runF N.length ps.length g):=by
 have hlen : ∀ vs H Q E, spD K (runF N.length ps.length g) vs H Q E → vs.length = ps.length:=by
  rintro vs H Q E ⟨O, ds, st, W, r, R⟩
  unfold runF at R
  by_cases hl : ds.length = ps.length
  ·rw [← r.length]; exact hl
  ·rw [if_neg hl] at R; exact R.elim
 refine ⟨f, fd, ps, fnH_of F S hlen fun cdv A outer s H vs Q hr h => ?_, hm, F.kp, hb⟩
 refine ⟨_, hbody cdv A outer s H hr, ?_⟩
 have hl:=hlen vs H Q E0 h
 obtain ⟨O, ds, st, W, r, R⟩:=h
 have hd : ds.length = ps.length:=by rw [r.length]; exact hl
 unfold runF at R
 rw [if_pos hd] at R
 refine ⟨O, ds.map some ++ List.replicate (N.length - ps.length) none, st, W, ?_, ?_⟩
 ·unfold L2.start
  rw [hl]
  exact renv_start (N:=N) _ r
 ·cases hg : g (ds.map some ++ List.replicate (N.length - ps.length) none) st with
  | nx ρ st' => rw [hg] at R; exact fun O' H' σ kp W' _ => R O' H' kp W' _ (Rep.non_i.mpr rfl)
  | rt d st' => rw [hg] at R; exact fun O' H' v kp W' rv => R O' H' kp W' v rv
  | exc c st' => rw [hg] at R; exact R.elim
  | bad => rw [hg] at R; exact R
  | bk ρ st' => rw [hg] at R; exact R.elim
  | ct ρ st' => rw [hg] at R; exact R.elim
end
section
variable {X : Cx} {EX : EXT} {e : Expr} {es : List Expr} {pos p : Pos} {x : Str} {k j : Nat} {F : FD} {g : DA}
theorem pd_fnH (h : FnHAt X.prog X.w X.K X.mg X.base x j F) (hr : RoomH k X.A) (hj : j ≤ k) (hg : Gl X x) (ha : PDA X EX0 (e :: es) g)
  (hdb : (x == ("__debug__" : Str)) = false := by decide) (he : starEach (e :: es) X.env = (false, eval e X.env) :: starEach es X.env := by rfl) (hpl : (backTo pos (starEach es X.env)).any (·.1) = false := by rfl) :
  PD X EX0 (.Call (.Name x p) (e :: es) [] pos) (dCall F g):=by
 obtain ⟨f, fd, ps, G, hm, hk, hb⟩:=h.ex
 rintro pins s σ H Q I ⟨O, ρ, st, W, Ev, R⟩
 refine wpAny_Call_Name_kw (ld_glob I hg hm ?_ hdb)
 refine PySem.W.callWith_K (h₀:=X.base) I.ok.mod.kin hk (thn (ha pos pins s σ H (fun vs H1 => spD X.K F vs H1 Q E0) I ⟨O, ρ, st, W, Ev, R.bind.mono fun ds st1 O1 H1 k1 W1 R2 vs r => ⟨O1, ds, st1, W1, r, R2.ex fun _ _ _ _ z => z.elim⟩⟩) fun us s1 ⟨vs, H1, I1, r, q⟩ => ⟨I1.kIn, ?_⟩) he hpl
 have hl : us.length = ps.length:=by rw [← r.length]; exact G.len _ _ _ _ q
 refine wpAny_call (codeAny_mono (G.run X.A X.stack s1 H1 ⟨us, []⟩ us vs Q (hr.mono hj) I1.env0 (by have:=hb s1 us I1.kIn (by rw [List.append_nil]; exact hl); rwa [List.append_nil] at this) r q) fun r s' hq => ?_)
 cases r with
 | error e => exact hq.elim
 | ok fl =>
  cases fl with
  | ret u => exact I1.after hq
  | next => exact False.elim hq
  | brk => exact False.elim hq
  | cont => exact False.elim hq
end
end DL
end
section
namespace DL
open PySem PySem.Spec PyProof.Rows L2
structure ExcK (K : PySem.W.Frag) (C : Addr) : Prop where
 nt : PySem.W.instIn K (.ref C) (.type "tuple") = some false
 ty : (PySem.W.clsIn K C).isSome = true
 sb : PySem.W.subIn K (.ref C) (.type "BaseException") = some true
theorem isType_in {K : PySem.W.Frag} {M : Model} {h : Heap} {C : Addr} (X : K.In h) (e : (PySem.W.clsIn K C).isSome = true) : PySem.W.Looks M h (isType (.ref C)) true:=by
 unfold PySem.W.clsIn at e
 split at e
 ·rename_i c' d' cd' sl' ho
  intro A' Q' E' s' k q
  unfold isType loadHead
  exact wpAny_bind (wpAny_loadPart (k _ _ (X _ _ ho)) (wpAny_pure q))
 ·cases e
theorem exc_ty {M : Model} {h : Heap} {e C : Addr} (x : ExcO e C h) : PySem.W.Looks M h (typeOf (.ref e)) (.ref C):=by
 obtain ⟨o, vs, h1, h2, _⟩:=x
 exact h2 ▸ (PySem.W.Looks.ld h1).andThen .now
theorem exc_matches {M : Model} {A : Around} {E : Value → Shared → Prop} {s : Shared} {K : PySem.W.Frag} {e C Cb : Addr} {Q : Bool → Shared → Prop} (X : K.In s.heap) (hx : ExcO e C s.heap) (k : ExcK K Cb) (hs : PySem.W.subIn K (.ref C) (.ref Cb) = some true) (h : Q true s) :
  wpAny M A (excMatches (.ref e) (.ref Cb)) Q E s:=by
 obtain ⟨hh, g, d, tt, os⟩:=s
 have L1:=PySem.W.looks_instIn (M:=M) X k.nt
 have L2:=isType_in (M:=M) X k.ty
 have L3:=PySem.W.looks_subIn (M:=M) X k.sb
 have L4:=exc_ty (M:=M) hx
 have L5:=PySem.W.looks_subIn (M:=M) X hs
 have L6 : PySem.W.Looks M hh (isExcClass (.ref Cb)) true:=by
  unfold isExcClass
  exact L2.andThen (by rw [if_pos rfl]; exact L3)
 unfold excMatches
 repeat (first | with_reducible refine wpAny_bind (L1.at ?_) | with_reducible refine L1.at ?_ | with_reducible refine L6.at ?_ | with_reducible refine L4.at ?_ | with_reducible refine L5.at ?_ | wp_step)
 exact h
theorem un_track {fs ex : List Addr} {H H' : Hp} {h h' : Heap} {a : Addr} {o : HO} (u : Un fs ex H H' h h') (hn : h.get? a = none) (hq : H' a = none) : Un fs ex H (upd H' a o) h h':=by
 refine ⟨u.keep, u.slot, fun b ob q n hx => ?_, u.there, fun b xs q => ?_, fun b ob v q => ?_, fun b ps q => ?_⟩
 ·rw [upd_ne (by rintro rfl; rw [hn] at q; cases q)]
  exact u.free b ob q n hx
 ·have z:=u.tups b xs q
  rw [upd_ne (ne_of_none z hq)]
  exact z
 ·have z:=u.frzs b ob v q
  rw [upd_ne (ne_of_none z hq)]
  exact z
 ·obtain ⟨m, z⟩:=u.tbls b ps q
  exact ⟨m, by rw [upd_ne (ne_of_none z hq)]; exact z⟩
theorem hok_track {P : Program} {w : World} {H : Hp} {h : Heap} {a : Addr} {o : HO} (x : HOk P w H h) (hq : H a = none) (new : ObjOk P w (upd H a o) h a o) : HOk P w (upd H a o) h:=fun b u e => by
 by_cases hb : b = a
 ·subst hb; rw [upd_same] at e; cases e; exact new
 ·rw [upd_ne hb] at e
  exact (x b u e).stay (fun _ _ _ q => q) (fun c q => by rw [upd_ne (ne_of_none q hq)]; exact q) fun c xs q => by rw [upd_ne (ne_of_none q hq)]; exact q
theorem excO_stays {a C : Addr} : ∀ h1 h2 : Heap, ExcO a C h1 → (∀ o, h1.get? a = some o → h2.get? a = some o) → ExcO a C h2:=fun h1 h2 ⟨o, vs, e, c, d⟩ k => ⟨o, vs, k o e, c, d⟩
theorem excO_fly {B h : Heap} {l : List Env} {e C : Addr} {a0 : Value} (x : Heap.FlyingW B l e (.ref C) a0 h) : ExcO e C h:=by
 obtain ⟨oe, vs, h1, h2, h3, _⟩:=x.first
 exact ⟨oe, vs, h1, h2, h3⟩
theorem land {X : Cx} {pins : List (Addr × Obj)} {σ : L2.St} {H1 H' : Hp} {s1 s' : Shared} {e : Value} {ea C : Addr} {a0 : Value} {B h' : Heap} (I : Inv X pins σ H1 s1) (F : Flies X.prog X.w X.stack H1 s1 e s' ea C a0 B H') (fl : Heap.FlyingW B X.stack ea (.ref C) a0 h') (up : s'.heap.UpToSlots h') :
  Inv X pins σ (upd H' ea (.ext (ExcO ea C))) { s' with heap:=h' }:=by
 obtain ⟨z1, z2, z3, z4⟩:=carry (P:=X.prog) (w:=X.w) (outer:=X.stack) (stack:=X.stack) (H:=H1) (h:=s1.heap) Un.refl F.un F.hok F.fly.2.2.1 F.c1 F.c2 fl.1 up (fun _ _ _ z => z) (fun _ z => z)
 have x:=excO_fly fl
 have z5 : HOk X.prog X.w (upd H' ea (.ext (ExcO ea C))) h':=hok_track z2 F.new ⟨x, (let ⟨o, _, e, _⟩:=x; ⟨o, e⟩), excO_stays⟩
 exact I.call' (s':={ s' with heap:=h' }) (ch:=[]) F.os (un_track z1 F.fresh F.new) z5 F.bare fun b z => absurd z (by simp)
theorem REnv.unset {K : PySem.W.Frag} {O : List Addr} {H : Hp} {ρ : Ev} {σ : L2.St} (E : REnv K O H ρ σ) (i : Nat) : REnv K O H (ρ.set i none) (σ.set i none):=by
 refine ⟨by rw [List.length_set, List.length_set, E.len], fun j d h => ?_⟩
 by_cases hij : i = j
 ·subst hij
  rw [List.getElem?_set] at h
  simp at h
 ·rw [List.getElem?_set_ne hij] at h
  obtain ⟨u, h1, h2⟩:=E.at_ j d h
  exact ⟨u, by rw [List.getElem?_set_ne hij]; exact h1, h2⟩
theorem REnv.blank {K : PySem.W.Frag} {O : List Addr} {H : Hp} (n : Nat) : REnv K O H (List.replicate n none) (List.replicate n none):=by
 refine ⟨by simp, fun i d h => ?_⟩
 rw [List.getElem?_replicate] at h
 split at h <;> cases h
noncomputable def handAs (n i : Nat) (gh : DS) (c : Addr) (st : Sto) : OutS:=match gh ((List.replicate n none).set i (some (.exv c))) st with
 | .rt d st' => .rt d st'
 | .nx ρ st' => .nx (ρ.set i none) st'
 | _ => .bad
noncomputable def sTry (cs : List Addr) (hand : Addr → Sto → OutS) (g : DS) : DS:=fun ρ st => match g ρ st with
 | .exc c st' => if c ∈ cs then hand c st' else .bad
 | r => r
section
variable {X : Cx} {EX : EXT} {body suite : List Stmt} {b₀ : Stmt} {pos hpos np : Pos} {x n : Str} {Cb : Addr} {cs : List Addr} {g gh : DS} {i : Nat}
theorem pd_try {h₀ : ExceptHandler} {hand : Addr → Sto → OutS} (hb : ∀ pn E' EX', XT (Cx.pinned X pn E') EX' → PDS (Cx.pinned X pn E') EX' body g)
  (hh : ∀ (pins pins' : List (Addr × Obj)) (σ : L2.St) (H1 H' : Hp) (s1 s' : Shared) (ea C : Addr) (a0 : Value) (B : Heap) (E' : Value → Shared → Prop) (D : Ends) (O : List Addr) (st : Sto), Inv (Cx.pinned X (X.pn ++ pins) E') pins' σ H1 s1 → Flies X.prog X.w X.stack H1 s1 (.ref ea) s' ea C a0 B H' → C ∈ cs → WR X.K O H' st → RunS X.K EX D O H' (hand C st) →
   wpAny (model X.prog X.w) X.A (noteFrame (.ref ea) X.env) (fun _ s₂ => wpAny (model X.prog X.w) X.A (setFlight (.ref ea) none) (fun _ s₃ => wpAny (model X.prog X.w) X.A (handleBy (.ref ea) X.env [h₀]) (SP X pins D) X.xe s₃) X.xe s₂) X.xe s') :
  PDs X EX (.Try body [h₀] [] [] pos) (sTry cs hand g):=by
 rintro pins s σ H D I ⟨O, ρ, st, W, Ev, R⟩
 have key:=hb (X.pn ++ pins) (fun e s₁ => wpAny (model X.prog X.w) X.A (noteFrame e X.env) (fun _ s₂ => wpAny (model X.prog X.w) X.A (setFlight e none) (fun _ s₃ => wpAny (model X.prog X.w) X.A (handleBy e X.env [h₀]) (SP X pins D) X.xe s₃) X.xe s₂) X.xe s₁)
  (fun c st O H => c ∈ cs ∧ WR X.K O H st ∧ RunS X.K EX D O H (hand c st)) ⟨?_, PassesOwn.looking⟩ [] s σ H D (inv_pinned I _) ⟨O, ρ, st, W, Ev, ?_⟩
 ·refine wpAny_Try_except (wpAny_mono key (fun f s1 q => ?_) fun e s1 z => z)
  cases f with
  | next => obtain ⟨σ', H', J, q⟩:=q; exact wpAny_execs_nil ⟨σ', H', inv_unpinned J, q⟩
  | brk => obtain ⟨σ', H', J, q⟩:=q; exact ⟨σ', H', inv_unpinned J, q⟩
  | cont => obtain ⟨σ', H', J, q⟩:=q; exact ⟨σ', H', inv_unpinned J, q⟩
  | ret u => obtain ⟨v, σ', H', J, r, q⟩:=q; exact ⟨v, σ', H', inv_unpinned J, r, q⟩
 ·rintro pins' σ' H1 s1 e s' I1 ⟨ea, C, a0, B, H', F, c, st2, O2, ec, hc, W2, R2⟩
  have ev:=F.ev
  subst ev
  cases ec
  exact hh pins pins' σ' H1 H' s1 s' ea C a0 B _ D O2 st2 I1 F hc W2 R2
 ·unfold sTry at R
  cases hg : g ρ st with
  | exc c st' =>
   rw [hg] at R
   dsimp only at R
   by_cases hc : c ∈ cs
   ·rw [if_pos hc] at R
    exact fun O' H' kp W' => ⟨hc, W', RunS.later R kp⟩
   ·rw [if_neg hc] at R; exact R.elim
  | _ => rw [hg] at R; exact R
theorem pd_tryAs (i : Nat) (hk : X.stack = X.env :: X.outer) (hfr : X.env.frame = some X.env.locals) (hN : X.N.Nodup) (hi : X.N[i]? = some n) (hl : X.env.scope.names.lookup n = some .local) (hg : Gl X x) (hm : X.mg x = some (.ref Cb)) (hK : ExcK X.K Cb) (hc : ∀ c ∈ cs, PySem.W.subIn X.K (.ref c) (.ref Cb) = some true)
  (hb : ∀ pn E' EX', XT (Cx.pinned X pn E') EX' → PDS (Cx.pinned X pn E') EX' body g)
  (hh : ∀ pn ea, PDS (Cx.at X (X.A.mark (some (.ref ea))) pn fun _ _ => False) EX0 (b₀ :: suite) gh) (hdb : (x == ("__debug__" : Str)) = false := by decide) :
  PDs X EX (.Try body [.ExceptHandler (some (.Name x np)) (some n) (b₀ :: suite) hpos] [] [] pos) (sTry cs (handAs X.N.length i gh) g):=by
 refine pd_try hb fun pins pins' σ H1 H' s1 s' ea C a0 B E' D O st I1 F hC W R => ?_
 have ff : X.A.frames = some (X.env :: X.outer):=by rw [← hk]; exact I1.ok.frames
 have fl0 : Heap.FlyingW B (X.env :: X.outer) ea (.ref C) a0 s'.heap:=by rw [← hk]; exact F.fly
 refine wpAny_looks_onW ff hfr fl0 fun h4 held up4 => ?_
 refine wpAny_landsW held fun h5 fl5 up5 => ?_
 have J5:=inv_unpinned (land I1 F (by rw [show (Cx.pinned X (X.pn ++ pins) E').stack = X.env :: X.outer from hk]; exact fl5) (up4.trans up5))
 have K5:=inv_at (σ':=List.replicate X.N.length none) J5 (A:=X.A.mark (some (.ref ea))) rfl (fun _ _ => False) (by rw [List.length_replicate]; exact J5.len.symm) fun j v h => by
  rw [List.getElem?_replicate] at h
  split at h <;> cases h
 refine wpAny_handleBy_cons (codeAny_handlers_test (ld_glob K5 hg hm ?_ hdb)) (by intro q; cases q)
 refine exc_matches K5.kIn (excO_fly fl5) hK (hc C hC) ?_
 refine codeAny_handlers_suite_as (lands_againW fl5 fun h6 fl6 up6 => ?_)
 have J6:=inv_unpinned (land I1 F (by rw [show (Cx.pinned X (X.pn ++ pins) E').stack = X.env :: X.outer from hk]; exact fl6) ((up4.trans up5).trans up6))
 have K6:=inv_at (σ':=List.replicate X.N.length none) J6 (A:=X.A.mark (some (.ref ea))) rfl (fun _ _ => False) (by rw [List.length_replicate]; exact J6.len.symm) fun j v h => by
  rw [List.getElem?_replicate] at h
  split at h <;> cases h
 refine store_ok (X:=Cx.at X (X.A.mark (some (.ref ea))) (X.pn ++ pins) fun _ _ => False) (i:=i) (v:=.ref ea) K6 hN hi (.inl hl) rfl (fun s7 I7 => ?_) (.inr hl)
 have E6 : REnv X.K O (upd H' ea (.ext (ExcO ea C))) ((List.replicate X.N.length none).set i (some (.exv C))) ((List.replicate X.N.length none).set i (some (.ref ea))):=(REnv.blank _).set (Rep.exv_i.mpr ⟨ea, rfl, upd_same⟩)
 have kp : Keep X.K O H' O (upd H' ea (.ext (ExcO ea C))):=Keep.laid F.new
 refine wpAny_mono (hh _ ea [] s7 _ _ { nx:=fun σ' H' => D.nx (σ'.set i none) H', rt:=D.rt } I7 ⟨O, _, st, W.laid F.new, E6, ?_⟩) (fun f s8 q => ?_) fun _ _ z => z.elim
 ·unfold handAs at R
  cases hgh : gh ((List.replicate X.N.length none).set i (some (.exv C))) st with
  | rt d st' => rw [hgh] at R; exact RunS.later (r:=.rt d st') R kp
  | nx ρ st' =>
   rw [hgh] at R
   exact fun O' H2 σ2 k2 W2 E2 => R O' H2 _ (kp.trans k2) W2 (E2.unset i)
  | _ => rw [hgh] at R; exact R.elim
 ·cases f with
  | next =>
   obtain ⟨σ8, H8, I8, q⟩:=q
   exact name_gone (X:=Cx.at X (X.A.mark (some (.ref ea))) (X.pn ++ pins) fun _ _ => False) I8 hN hi hl fun s9 I9 => ⟨_, H8, inv_back J6.ok I9, q⟩
  | ret u =>
   obtain ⟨v, σ8, H8, I8, r, q⟩:=q
   exact name_gone (X:=Cx.at X (X.A.mark (some (.ref ea))) (X.pn ++ pins) fun _ _ => False) I8 hN hi hl fun s9 I9 => ⟨v, _, H8, inv_back J6.ok I9, r, q⟩
  | brk => obtain ⟨_, _, _, q⟩:=q; exact q.elim
  | cont => obtain ⟨_, _, _, q⟩:=q; exact q.elim
end
end DL
end
section
namespace DL
open PySem PySem.Spec PyProof.Rows L2
structure ExcC (K : PySem.W.Frag) (C : Addr) : Prop where
 ty : PySem.W.isClsIn K C = true
 ga : PySem.W.findIn K (.ref C) "__getattribute__" = some (some (.builtin "BaseException.__getattribute__"))
 gt : PySem.W.findIn K (.ref C) "__getattr__" = some none
 cl : PySem.W.findIn K (.ref C) "__class__" = some (some (.builtin "object.__class__"))
 sb : PySem.W.subIn K (.ref C) (.type "BaseException") = some true
 so : PySem.W.subIn K (.ref C) (.type "object") = some true
section
variable {prog : Program} {w : World} {A : Around} {E : Value → Shared → Prop} {s : Shared} {K : PySem.W.Frag} {a C : Addr}
theorem exc_class_get {R : Result → Shared → Prop} (X : K.In s.heap) (k : ExcC K C) (x : ExcO a C s.heap) (h : R (.ok (.ret (.ref C))) s) :
  codeAny (model prog w) A (.call (.builtin "getset_descriptor.__get__") ⟨[.builtin "object.__class__", .ref a, .ref C], []⟩) R s := by
 obtain ⟨hh, g, d, tt, os⟩:=s
 have L0:=exc_ty (M:=model prog w) x
 have L1:=PySem.W.looks_subIn (M:=model prog w) X k.so
 have hT5 : (⟨hh, g, d, tt, os⟩ : Shared).TypeIs (.builtin "object.__class__") "getset_descriptor" := F.typeOf_object_class
 refine codeAny_call_builtin F.slot_gs_get.plain F.entry_gs_get (F.slot_gs_get.check _ _ _ _ _ _ _ _ hT5 (F.args_gs_get _ _ _) ?_)
 have ow:=F.owner_object_class
 repeat (any_goals (first | assumption | with_reducible refine L0.at ?_ | (rw [ow]; with_reducible refine L1.at ?_) | with_reducible refine L1.at ?_ | wp_step))
 refine ⟨Code.quiet_builtin _ (by decide +kernel), codeAny_builtin F.entry_object_class ?_⟩
 repeat (any_goals (first | assumption | with_reducible refine L0.at ?_ | wp_step))
theorem exc_check_ga {M : Model} {nameV : Value} {Q : Unit → Shared → Prop} (X : K.In s.heap) (k : ExcC K C) (x : ExcO a C s.heap) (h : Q () s) : wpAny M A (checkBuiltinCall "BaseException.__getattribute__" ⟨[.ref a, nameV], []⟩) Q E s := by
 obtain ⟨hh, g, d, tt, os⟩:=s
 have L0:=exc_ty (M:=M) x
 have L1:=PySem.W.looks_subIn (M:=M) X k.sb
 have hk : builtinKind "BaseException.__getattribute__" = some .slot := by decide +kernel
 have hsplit : splitId "BaseException.__getattribute__" = some ("BaseException", "__getattribute__") := by decide +kernel
 have ha:=F.args_bexc_ga (.ref a) nameV
 simp only [checkBuiltinCall, hk, hsplit]
 refine wpAny_bind ?_
 unfold isInstance
 repeat (first | with_reducible refine L0.at ?_ | with_reducible refine L1.at ?_ | wp_step)
 exact h
theorem exc_class_entry {tk : Tok} {Q : Fin → Shared → Prop} (X : K.In s.heap) (k : ExcC K C) (x : ExcO a C s.heap) (h : Q (.done (.ret (.ref C))) s) :
  wpAny (model prog w) A (Builtin.«object.__getattribute__» ⟨[.ref a, .str "__class__" tk], []⟩) Q E s := by
 have X0:=X
 have x0:=x
 obtain ⟨hh, g, d, tt, os⟩:=s
 have L0:=exc_ty (M:=model prog w) x
 have L1:=PySem.W.looks_findIn (M:=model prog w) X k.cl
 have f5:=F.typeOf_object_class
 have f6:=F.slot_gs_get.lookup
 have f7:=F.slot_gs_set.lookup
 repeat (any_goals (first | assumption | with_reducible refine L0.at ?_ | with_reducible refine L1.at ?_ | wp_step))
 refine exc_class_get X0 k x0 ?_
 repeat (any_goals (first | assumption | wp_step))
theorem exc_class_by {tk : Tok} {Q : Value → Shared → Prop} (X : K.In s.heap) (k : ExcC K C) (x : ExcO a C s.heap) (h : Q (.ref C) s) : wpAny (model prog w) A (getAttrBy (.ref a) (.str "__class__" tk) false) Q E s := by
 have X0:=X
 have x0:=x
 obtain ⟨hh, g, d, tt, os⟩:=s
 have L0:=exc_ty (M:=model prog w) x
 have L1:=PySem.W.looks_findIn (M:=model prog w) X k.ga
 have L2:=PySem.W.looks_findIn (M:=model prog w) X k.gt
 have hx2 : (Value.builtin "BaseException.__getattribute__" == Value.builtin "object.__getattribute__") = false := by decide +kernel
 have hx1 : (onTheHeap (Value.ref C) && Value.builtin "BaseException.__getattribute__" == Value.builtin "object.__getattribute__") = false := by rw [hx2]; rfl
 have f3 : bindSpecial (.builtin "BaseException.__getattribute__") (.ref a) = pure (.builtin "BaseException.__getattribute__", [.ref a]) := by
  have hop : withoutEnding? "BaseException.__getattribute__" "#opaque" = none := by decide +kernel
  have hdat : withoutEnding? "BaseException.__getattribute__" "#data" = none := by decide +kernel
  have hk : builtinKind "BaseException.__getattribute__" = some .slot := by decide +kernel
  simp only [bindSpecial, typeOf, builtinType, hop, hdat, hk]; rfl
 repeat (any_goals (first | assumption | with_reducible refine L0.at ?_ | with_reducible refine L1.at ?_ | with_reducible refine L2.at ?_ | wp_step))
 refine codeAny_call_builtin (by decide +kernel) F.entry_bexc_ga (exc_check_ga X0 k x0 (exc_class_entry X0 k x0 ?_))
 repeat (any_goals (first | assumption | wp_step))
theorem exc_class_attr {Q : Option Value → Shared → Prop} (X : K.In s.heap) (k : ExcC K C) (x : ExcO a C s.heap) (h : Q (some (.ref C)) { s with toks := s.toks + 1 }) : wpAny (model prog w) A (getAttr? (.ref a) "__class__") Q E s := by
 obtain ⟨hh, g, d, tt, os⟩:=s
 unfold getAttr? getAttrBy?
 repeat (any_goals (first | assumption | with_reducible apply exc_class_by (s:=⟨hh, g, d, tt + 1, os⟩) X k x | wp_step))
theorem kitx_exc (k : ExcC K C) : PySem.W.KitX K (.ref a) (.ref C) (ExcO a C) where
 ty:=fun _ _ _ x => exc_ty x
 it:=fun _ _ X _ => isType_in X k.ty
 ne:=fun h tp dd its n sl X htp => by
  refine Bool.eq_false_iff.mpr fun q => ?_
  have e : C = tp:=Value.ref.inj (beq_iff_eq.mp q)
  subst e
  have z:=k.ty
  unfold PySem.W.isClsIn PySem.W.clsIn at z
  split at z
  ·rename_i c' d' cd' sl' ho
   have z:=(X _ _ ho).symm.trans htp
   cases z
  ·cases z
 ca:=fun X x q => exc_class_attr X k x q
end
theorem kit_C {K : PySem.W.Frag} {C D : Addr} {b : Bool} (h1 : PySem.W.isClsIn K D = true) (h2 : PySem.W.typeIn K (.ref D) = some (.type "type")) (h3 : PySem.W.subIn K (.ref C) (.ref D) = some b) (hb : C = D → b = true) : PySem.W.kitOne K (.ref C) (.ref D) = some b := by
 unfold PySem.W.kitOne
 by_cases q : (Value.ref C == Value.ref D) = true
 ·rw [if_pos q, hb (Value.ref.inj (beq_iff_eq.mp q))]
 ·rw [if_neg q]
  unfold PySem.W.kitCls
  dsimp only
  rw [show (PySem.W.clsIn K D).isSome = true from h1, h2]
  exact h3
theorem kit_T {K : PySem.W.Frag} {C : Addr} {T : String} {b : Bool} (h1 : PySem.W.kitMeta T = true) (h3 : PySem.W.subIn K (.ref C) (.type T) = some b) : PySem.W.kitOne K (.ref C) (.type T) = some b:=by
 unfold PySem.W.kitOne
 rw [if_neg (by simp)]
 unfold PySem.W.kitCls
 dsimp only
 rw [if_pos h1]
 exact h3
section
variable {X : Cx} {EX : EXT} {e : Expr} {fa : DE} {pos p pT : Pos}
noncomputable def dInstX (tab : List (Addr × Bool)) (f : DE) : DE:=fun ρ st => (f ρ st).bind fun d st1 => match d with
 | .exv C => match tab.lookup C with
  | some b => .ok (.bl b) st1
  | none => .bad
 | _ => .bad
noncomputable def TabOk (K : PySem.W.Frag) (tab : List (Addr × Bool)) (v : Value) : Prop:=∀ C b, tab.lookup C = some b → ExcC K C ∧ PySem.W.kitOne K (.ref C) v = some b
theorem tab_nil {K : PySem.W.Frag} {v : Value} : TabOk K [] v:=fun C b h => by cases h
theorem tab_cons {K : PySem.W.Frag} {v : Value} {C : Addr} {b : Bool} {r : List (Addr × Bool)} (k : ExcC K C) (h : PySem.W.kitOne K (.ref C) v = some b) (t : TabOk K r v) : TabOk K ((C, b) :: r) v:=fun C' b' z => by
 simp only [List.lookup_cons] at z
 split at z
 ·rename_i q
  have e : C' = C:=by simpa using q
  subst e
  cases z
  exact ⟨k, h⟩
 ·exact t C' b' z
theorem pd_instX {te : Expr} {v : V} {u : Value} {tab : List (Addr × Bool)} (hv : ∀ w, L2.RelV v w → w = u) (he : PD X EX e fa) (hT : PE X te (tC v)) (ht : TabOk X.K tab u) (hg : Gl X "isinstance") (hm : X.mg "isinstance" = none)
  (hs : starEach [e, te] X.env = (false, eval e X.env) :: starEach [te] X.env:=by rfl) (hs1 : starEach [te] X.env = (false, eval te X.env) :: starEach [] X.env:=by rfl) (hpl : (backTo pos (starEach [te] X.env)).any (·.1) = false:=by rfl) :
  PD X EX (.Call (.Name "isinstance" p) [e, te] [] pos) (dInstX tab fa) := by
 have hc : CallR X (.builtin "isinstance") (fun xs H Q => ∃ a C b, xs = [.ref a, v] ∧ H a = some (.ext (ExcO a C)) ∧ tab.lookup C = some b ∧ Q (.bl b) H) := by
  intro pins s σ H xs us Q I r h
  obtain ⟨a, C, b, rfl, ha, hl, q⟩:=h
  obtain ⟨u1, w, rfl, ru, rw'⟩:=vals2 r
  cases ru
  obtain ⟨k, e1⟩:=ht C b hl
  have : w = u:=hv w rw'
  subst this
  exact PySem.W.kia_one (kitx_exc k) I.kIn (I.hok _ _ ha).1 e1 (fun z => nomatch z) fun tk => ⟨.bl _, H, I.tok tk, rfl, q⟩
 refine PE.mono (pe_callB hc hg hm PyProof.Rows.boot_isinstance (pa_cons he (pa_cons hT pa_nil hs1) hs) (by decide) (by decide) hs hpl) ?_
 rintro σ H Q ⟨O, ρ, st, W, E, R⟩
 refine ⟨O, ρ, st, W, E, R.bind.mono fun d st1 O1 H1 k1 W1 R1 v r => ?_⟩
 cases d with
 | exv C =>
  dsimp only at R1
  cases hl : tab.lookup C with
  | none => rw [hl] at R1; exact R1.elim
  | some b =>
   rw [hl] at R1
   obtain ⟨a, rfl, ha⟩:=Rep.exv_i.mp r
   exact ⟨a, C, b, rfl, ha, hl, Run.now (k:=Val X.K Q) R1 W1 _ (Rep.bl_i.mpr rfl)⟩
 | _ => exact R1.elim
end
end DL
end
section
namespace DL
open PySem PySem.Spec PyProof.Rows L2
noncomputable def eqsOf (st : Sto) (x : D) : List D → Option (List Bool)
 | [] => some []
 | y :: ys => match eqN st depth y x, eqsOf st x ys with
  | some a, some b => some (a :: b)
  | _, _ => none
section
variable {X : Cx} {EX : EXT} {a b c e o : Expr} {fa fb fc fo : DE} {pos p apos cpos : Pos} {es : List Expr} {g : DA}
open Classical in
theorem eq_items {pins : List (Addr × Obj)} {σ : L2.St} {s : Shared} {O : List Addr} {H : Hp} {st : Sto} (I : Inv X pins σ H s) (W : WR X.K O H st) {x : D} {vx : V} {ux : Value} (rx : Rep X.K O H x vx) (qx : L2.RelV vx ux) {A : Around} (hA : A.units + depth < cLine) :
  ∀ {ys : List D} {vs : List V} {its : List Value} {bs : List Bool}, eqsOf st x ys = some bs → Reps X.K O H ys vs → Vals vs its →
   ∃ e : Value → Bool, (∀ z, e z = decide (∃ d v, Rep X.K O H d v ∧ L2.RelV v z ∧ eqN st depth d x = some true)) ∧ (∀ z ∈ its, SeqAt.EqAt A s z ux (e z)) ∧ its.map e = bs
 | [], vs, its, k, h, r, q => by
  rw [Reps.nil_i] at r
  subst r
  cases q
  simp only [eqsOf, Option.some.injEq] at h
  subst h
  exact ⟨fun z => decide (∃ d v, Rep X.K O H d v ∧ L2.RelV v z ∧ eqN st depth d x = some true), fun _ => rfl, (fun z hz => (by cases hz)), rfl⟩
 | y :: ys, vs, its, k, h, r, q => by
  obtain ⟨v, vs', rfl, ry, rs⟩:=Reps.cons_i.mp r
  cases q with
  | cons q1 q2 =>
   rename_i u us
   unfold eqsOf at h
   cases e1 : eqN st depth y x with
   | none => rw [e1] at h; cases h
   | some a =>
    cases e2 : eqsOf st x ys with
    | none => rw [e1, e2] at h; cases h
    | some b =>
     rw [e1, e2] at h
     simp only [Option.some.injEq] at h
     obtain ⟨e, he, h1, h2⟩:=eq_items I W rx qx hA e2 rs q2
     have hu : e u = a:=by
      rw [he u]
      cases a with
      | true => exact decide_eq_true ⟨y, v, ry, q1, e1⟩
      | false =>
       refine decide_eq_false ?_
       rintro ⟨d, v', r', q', e'⟩
       have ev : v' = v:=q'.inj q1
       subst ev
       have ed:=Rep.inj I W d y v' r' ry
       subst ed
       rw [e1] at e'
       cases e'
     refine ⟨e, he, fun z hz => ?_, ?_⟩
     ·rcases List.mem_cons.mp hz with rfl | hz
      ·rw [hu]
       exact (eq_sound I W depth y x a e1 A v vx z ux ry rx q1 qx hA).1
      ·exact h1 z hz
     ·rw [List.map_cons, hu, h2]
      exact h
noncomputable def countD (d : D) : List D → Sto → Out D
 | [x], st => match seqL st d with
  | some ys => match eqsOf st x ys with
   | some bs => .ok (.int (bs.count true : Nat)) st
   | none => .bad
  | none => .bad
 | _, _ => .bad
noncomputable def indexD (d : D) : List D → Sto → Out D
 | [x], st => match seqL st d with
  | some ys => match eqsOf st x ys with
   | some bs => if bs.idxOf true < bs.length then .ok (.int (bs.idxOf true : Nat)) st else .bad
   | none => .bad
  | none => .bad
 | _, _ => .bad
noncomputable abbrev rLM (X : Cx) (EX : EXT) (γ : D → List D → Sto → Out D) : V → List V → Hp → VK → Prop:=fun x xs H Q => ∃ O d ds st, WR X.K O H st ∧ Rep X.K O H d x ∧ Reps X.K O H ds xs ∧ Run X.K EX O H (γ d ds st) (Val X.K Q)
theorem mt_countD (hu : X.A.units + 64 < cLine) : MtR X "list.count" (rLM X EX countD) := by
 intro pins s σ H x xs v us Q I rx rxs h
 obtain ⟨O, d, ds, st, W, r, rs, R⟩:=h
 match ds, rs, R with
 | [], _, R => exact R.elim
 | _ :: _ :: _, _, R => exact R.elim
 | [y], rs, R =>
  dsimp only [countD] at R
  cases e1 : seqL st d with
  | none => rw [e1] at R; exact R.elim
  | some ys =>
   rw [e1] at R
   dsimp only at R
   cases e2 : eqsOf st y ys with
   | none => rw [e2] at R; exact R.elim
   | some bs =>
    rw [e2] at R
    obtain ⟨p, vs, rfl, q, rz⟩:=rdL W r e1
    obtain ⟨v', rfl, rv⟩:=rs.one_of
    obtain ⟨u, rfl, ru⟩:=vals1 rxs
    cases rx
    obtain ⟨its, hv, ⟨⟨cls, dd, data, sl⟩, n, ho, hc, hd, hdd⟩, _⟩:=I.list q
    simp only at hc hd hdd
    subst hc hd hdd
    obtain ⟨e, _, h1, h2⟩:=eq_items I W rv ru (in_units hu) e2 rz hv
    refine call_meets PySem.F.slot_list_count ⟨_, ho, rfl⟩ PySem.F.entry_list_count (PySem.F.args_list_count_2 _ _) (SeqAt.list_countAt p its.toArray n _ sl u e) ⟨ho, fun z hz => h1 z (by simpa using hz), ?_⟩
    have ec : its.toArray.toList.countP e = bs.count true:=by
     rw [← h2]
     simp [List.count, List.countP_map, Function.comp_def]
    rw [ec]
    exact ⟨.int _, H, I.tok _, ⟨_, rfl⟩, Run.now (k:=Val X.K Q) R W _ (Rep.int_i.mpr rfl)⟩
theorem mt_indexD (hu : X.A.units + 64 < cLine) : MtR X "list.index" (rLM X EX indexD) := by
 intro pins s σ H x xs v us Q I rx rxs h
 obtain ⟨O, d, ds, st, W, r, rs, R⟩:=h
 match ds, rs, R with
 | [], _, R => exact R.elim
 | _ :: _ :: _, _, R => exact R.elim
 | [y], rs, R =>
  dsimp only [indexD] at R
  cases e1 : seqL st d with
  | none => rw [e1] at R; exact R.elim
  | some ys =>
   rw [e1] at R
   dsimp only at R
   cases e2 : eqsOf st y ys with
   | none => rw [e2] at R; exact R.elim
   | some bs =>
    rw [e2] at R
    dsimp only at R
    by_cases hj : bs.idxOf true < bs.length
    ·rw [if_pos hj] at R
     obtain ⟨p, vs, rfl, q, rz⟩:=rdL W r e1
     obtain ⟨v', rfl, rv⟩:=rs.one_of
     obtain ⟨u, rfl, ru⟩:=vals1 rxs
     cases rx
     obtain ⟨its, hv, ⟨⟨cls, dd, data, sl⟩, n, ho, hc, hd, hdd⟩, hz⟩:=I.list q
     simp only at hc hd hdd
     subst hc hd hdd
     obtain ⟨e, _, h1, h2⟩:=eq_items I W rv ru (in_units hu) e2 rz hv
     have hl : its.length = bs.length:=by rw [← h2, List.length_map]
     have at_ : ∀ m (hm : m < its.toArray.size), e its.toArray[m] = bs[m]'(by simpa [← hl] using hm):=by
      intro m hm
      have : bs[m]? = some (e its.toArray[m]):=by
       rw [← h2, List.getElem?_map, List.getElem?_eq_getElem (by simpa using hm)]
       simp
      rw [List.getElem?_eq_getElem (by simpa [← hl] using hm)] at this
      exact (Option.some.inj this).symm
     have hlt : bs.idxOf true < its.toArray.size:=by simpa [hl] using hj
     have hb63 : ((bs.idxOf true : Nat) : Int) < 2 ^ 63 - 1:=by
      have h3 : its.length ≤ sizeLine:=by rw [← hv.length]; exact hz
      have h4:=line63
      have h5 : bs.idxOf true < its.length:=by simpa using hlt
      omega
     refine call_meets PySem.F.slot_list_index ⟨_, ho, rfl⟩ PySem.F.entry_list_index (PySem.F.args_list_index_2 _ _) (SeqAt.list_indexAt p its.toArray n _ sl u e (bs.idxOf true) hlt hb63 ?_ fun m hm hlt' => ?_) ⟨ho, fun z hz => h1 z (by simpa using hz), ?_⟩
     ·rw [at_ _ hlt]
      exact List.getElem_idxOf hj
     ·rw [at_ m hm]
      have:=List.not_of_lt_findIdx (p:=(· == true)) (xs:=bs) (i:=m) hlt'
      simpa using this
     ·exact ⟨.int _, H, I.tok _, ⟨_, rfl⟩, Run.now (k:=Val X.K Q) R W _ (Rep.int_i.mpr rfl)⟩
    ·rw [if_neg hj] at R; exact R.elim
noncomputable def dLM (γ : D → List D → Sto → Out D) (fo : DE) (f : DA) : DE:=fun ρ st => (fo ρ st).bind fun d st1 => match seqL st1 d with
 | some _ => (f ρ st1).bind fun ds st2 => γ d ds st2
 | none => .bad
theorem pd_lm {name : Str} {id : String} {γ : D → List D → Sto → Out D} (slot : Slot "list" name id) (hty : typeOf (.builtin id) = pure (.type "method_descriptor")) (hm : MtR X id (rLM X EX γ)) (ho : PD X EX o fo) (ha : PDA X EX (e :: es) g)
  (hbase : attributeBase o name X.env (eval o X.env) = eval o X.env:=by rfl)
  (hfew : ((backTo cpos (starEach (e :: es) X.env)).all (fun x => !x.1) && (backToKw cpos (keywordEach [] X.env)).all (fun x => x.1.isSome)
   && decide ((e :: es).length + ([] : List Keyword).length + (if ([] : List Keyword).isEmpty then 0 else 1) < 30)) = true:=by rfl)
  (hline : (apos.endLine == cpos.line) = true:=by rfl) (hs : starEach (e :: es) X.env = (false, eval e X.env) :: starEach es X.env:=by rfl) (hplain : (backTo cpos (starEach es X.env)).any (·.1) = false:=by rfl) :
  PD X EX (.Call (.Attribute o name apos) (e :: es) [] cpos) (dLM γ fo g):=by
 refine PE.mono (pe_bm PySem.F.plainAttrs_list slot hty hm ho ha hbase hfew hline hs hplain) ?_
 rintro σ H Q ⟨O, ρ, st, W, E, R⟩
 refine ⟨O, ρ, st, W, E, R.bind.mono fun d st1 O1 H1 k1 W1 R1 v r => ?_⟩
 cases e1 : seqL st1 d with
 | none => rw [e1] at R1; exact R1.elim
 | some ys =>
  rw [e1] at R1
  obtain ⟨pp, vs, rfl, q, rz⟩:=rdL W1 r e1
  exact ⟨.inl ⟨rfl, _, q⟩, O1, ρ, st1, W1, E.mono k1, R1.bind.mono fun ds st2 O2 H2 k2 W2 R2 vs rs => ⟨O2, d, ds, st2, W2, Rep.mono k2 _ _ r, rs, R2⟩⟩
end
section
variable {ρ : Ev} {st : Sto} {f fo : DE} {da : DA} {g : DS} {C : Addr}
@[simp] theorem z_bind_exc {α β : Type} (c : Addr) (st : Sto) (k : α → Sto → Out β) : (Out.exc c st : Out α).bind k = .exc c st:=rfl
@[simp] theorem z_to_exc {α : Type} (c : Addr) (st : Sto) (k : α → Sto → OutS) : (Out.exc c st : Out α).to k = .exc c st:=rfl
@[simp] theorem z_runX {N n : Nat} {ds : List D} : runX N n g ds st = if ds.length = n then (match g (ds.map some ++ List.replicate (N - n) none) st with
 | .nx _ st' => .ok .non st'
 | .rt d st' => .ok d st'
 | .exc c st' => .exc c st'
 | _ => .bad) else .bad:=rfl
@[simp] theorem z_sRaise : sRaise C da ρ st = (da ρ st).to fun ds st1 => if ds.length ≤ small then .exc C st1 else .bad:=rfl
theorem z_sTry {cs : List Addr} {hand : Addr → Sto → OutS} : sTry cs hand g ρ st = match g ρ st with
 | .exc c st' => if c ∈ cs then hand c st' else .bad
 | r => r:=rfl
theorem z_handAs {n i : Nat} {c : Addr} : handAs n i g c st = match g ((List.replicate n none).set i (some (.exv c))) st with
 | .rt d st' => .rt d st'
 | .nx ρ st' => .nx (ρ.set i none) st'
 | _ => .bad:=rfl
@[simp] theorem z_instX {tab : List (Addr × Bool)} : dInstX tab f ρ st = (f ρ st).bind fun d st1 => match d with
 | .exv C => match tab.lookup C with
  | some b => .ok (.bl b) st1
  | none => .bad
 | _ => .bad:=rfl
@[simp] theorem z_LM {γ : D → List D → Sto → Out D} : dLM γ fo da ρ st = (fo ρ st).bind fun d st1 => match seqL st1 d with
 | some _ => (da ρ st1).bind fun ds st2 => γ d ds st2
 | none => .bad:=rfl
end
noncomputable def forBody : Stmt → List Stmt
 | .For _ _ b _ _ => b
 | _ => []
noncomputable def spB (K : PySem.W.Frag) (G : (Nat → Addr) → Prop) (F : (Nat → Addr) → FD) : Sp:=fun vs H Q E => ∀ cv, G cv → spD K (F cv) vs H Q E
theorem fnOk_spB {P : Program} {w : World} {K : PySem.W.Frag} {mg : Str → Option Value} {base : Heap} {k : Nat} {f : Addr} {fd : FuncData} {ps : List Str} {G : (Nat → Addr) → Prop} {F : (Nat → Addr) → FD} {cv : Nat → Addr} (hc : G cv) (O : FnOk P w K mg base CX0 k f fd ps (spD K (F cv))) : FnOk P w K mg base CX0 k f fd ps (spB K G F):=by
 refine ⟨fun vs H Q E h => O.len vs H Q E (h cv hc), fun A outer s H args us vs Q E hr he hb hv hs => O.run A outer s H args us vs Q E hr he hb hv (hs cv hc)⟩
end DL
end
section
namespace DL
open PySem PySem.Spec PyProof.Rows L2
section
variable {X : Cx} {EX : EXT} {pos p : Pos} {x : Str} {k j : Nat} {F : FD}
end
theorem us1 {P : List Value → Prop} (h : ∀ a, P [a]) : ∀ us : List Value, us.length = 1 → P us
 | [a], _ => h a
theorem us2 {P : List Value → Prop} (h : ∀ a b, P [a, b]) : ∀ us : List Value, us.length = 2 → P us
 | [a, b], _ => h a b
theorem us3 {P : List Value → Prop} (h : ∀ a b c, P [a, b, c]) : ∀ us : List Value, us.length = 3 → P us
 | [a, b, c], _ => h a b c
end DL
end
section
namespace SO
open PySem PySem.W PyProof.Rows
noncomputable def ok {α : Type} (n : Nat) (lt : Nat → Nat → Bool) : KasT α → (α → Prop) → Prop
 | .ret a, Q => Q a
 | .ask i j k, Q => i < n ∧ j < n ∧ ok n lt (k (lt i j)) Q
section
variable {α β : Type} {n : Nat} {lt : Nat → Nat → Bool}
theorem ok_bind {f : α → KasT β} {Q : β → Prop} : ∀ {t : KasT α}, ok n lt t (fun a => ok n lt (f a) Q) → ok n lt (t.bind f) Q
 | .ret _, h => h
 | .ask _ _ k, ⟨h1, h2, h3⟩ => ⟨h1, h2, ok_bind (t:=k _) h3⟩
theorem ok_mono {Q Q' : α → Prop} (f : ∀ a, Q a → Q' a) : ∀ {t : KasT α}, ok n lt t Q → ok n lt t Q'
 | .ret _, h => f _ h
 | .ask _ _ k, ⟨h1, h2, h3⟩ => ⟨h1, h2, ok_mono f (t:=k _) h3⟩
theorem ok_wp {cmp : Nat → Nat → (Bool → Shared → Prop) → Shared → Prop} {s : Shared} {G : α → Shared → Prop} {Q : α → Prop} (hc : ∀ i j C, i < n → j < n → C (lt i j) s → cmp i j C s) (hG : ∀ a, Q a → G a s) : ∀ {t : KasT α}, ok n lt t Q → t.kasWp cmp G s
 | .ret _, h => hG _ h
 | .ask i j k, ⟨h1, h2, h3⟩ => hc i j _ h1 h2 (ok_wp hc hG (t:=k _) h3)
end
structure Ord (n : Nat) (lt : Nat → Nat → Bool) : Prop where
 tot : ∀ i j, i < n → j < n → i ≠ j → lt i j = false → lt j i = true
 asy : ∀ i j, i < n → j < n → lt i j = true → lt j i = false
 trn : ∀ i j k, i < n → j < n → k < n → lt i j = true → lt j k = true → lt i k = true
noncomputable def Al (n : Nat) (p : Array Nat) : Prop:=p.toList.Perm (List.range n)
noncomputable abbrev G (p : Array Nat) (i : Nat) : Nat:=p.getD i 0
section
variable {n : Nat} {lt : Nat → Nat → Bool} {p : Array Nat}
theorem Al.size (h : Al n p) : p.size = n:=by have:=h.length_eq; simpa using this
theorem G_eq (i : Nat) (h : i < p.size) : G p i = p[i]:=by simp [G, Array.getD, h]
theorem Al.bel (h : Al n p) (i : Nat) (hn : 0 < n) : G p i < n:=by
 by_cases hi : i < p.size
 ·rw [G_eq i hi]
  have : p[i] ∈ p.toList:=by simp
  have:=h.mem_iff.mp this
  simpa using this
 ·simp [G, Array.getD, hi, hn]
theorem Al.inj (h : Al n p) {i j : Nat} (hi : i < n) (hj : j < n) (ne : i ≠ j) : G p i ≠ G p j:=by
 have nd : p.toList.Nodup:=h.nodup_iff.mpr List.nodup_range
 have hs:=h.size
 rw [G_eq i (by omega), G_eq j (by omega)]
 intro e
 have:=(List.getElem_inj (i:=i) (j:=j) (h₀:=by simpa using (by omega : i < p.size)) (h₁:=by simpa using (by omega : j < p.size)) nd).mp (by simpa using e)
 exact ne this
theorem G_cong {q : Array Nat} {i j : Nat} (h : p[i]? = q[j]?) : G p i = G q j:=by
 simp only [G, Array.getD_eq_getD_getElem?, h]
noncomputable def SP (lt : Nat → Nat → Bool) (p : Array Nat) (k : Nat) : Prop:=∀ i j, i < j → j < k → lt (G p i) (G p j) = true
noncomputable def DP (lt : Nat → Nat → Bool) (p : Array Nat) (k : Nat) : Prop:=∀ i j, i < j → j < k → lt (G p j) (G p i) = true
theorem SP.one : SP lt p 1:=fun i j h1 h2 => by omega
theorem SP.next (O : Ord n lt) (h : Al n p) {m : Nat} (h1 : 1 ≤ m) (hm : m < n) (s : SP lt p m) (e : lt (G p (m - 1)) (G p m) = true) : SP lt p (m + 1):=by
 intro i j hij hj
 by_cases hjm : j < m
 ·exact s i j hij hjm
 ·have : j = m:=by omega
  subst this
  by_cases hi : i = j - 1
  ·subst hi; exact e
  ·exact O.trn _ _ _ (h.bel _ (by omega)) (h.bel _ (by omega)) (h.bel _ (by omega)) (s i (j - 1) (by omega) (by omega)) e
theorem DP.next (O : Ord n lt) (h : Al n p) {m : Nat} (h1 : 1 ≤ m) (hm : m < n) (s : DP lt p m) (e : lt (G p m) (G p (m - 1)) = true) : DP lt p (m + 1):=by
 intro i j hij hj
 by_cases hjm : j < m
 ·exact s i j hij hjm
 ·have : j = m:=by omega
  subst this
  by_cases hi : i = j - 1
  ·subst hi; exact e
  ·exact O.trn _ _ _ (h.bel _ (by omega)) (h.bel _ (by omega)) (h.bel _ (by omega)) e (s i (j - 1) (by omega) (by omega))
theorem asc_ok (O : Ord n lt) (h : Al n p) : ∀ (f m : Nat), 1 ≤ m → m + f = n → SP lt p m → ok n lt (kas_asc p f m) (fun r => m ≤ r ∧ r ≤ n ∧ SP lt p r ∧ (r < n → lt (G p r) (G p (r - 1)) = true))
 | 0, m, h1, hf, s => ⟨Nat.le_refl _, by omega, s, fun z => by omega⟩
 | f + 1, m, h1, hf, s => by
  unfold kas_asc
  refine ⟨h.bel _ (by omega), h.bel _ (by omega), ?_⟩
  cases e : lt (p.getD m 0) (p.getD (m - 1) 0) with
  | true =>
   dsimp only
   rw [if_pos rfl]
   exact ⟨Nat.le_refl _, by omega, s, fun _ => e⟩
  | false =>
   dsimp only
   rw [if_neg (by simp)]
   have e':=O.tot _ _ (h.bel _ (by omega)) (h.bel _ (by omega)) (h.inj (i:=m) (j:=m - 1) (by omega) (by omega) (by omega)) e
   exact ok_mono (fun r z => ⟨Nat.le_of_succ_le z.1, z.2⟩) (asc_ok O h f (m + 1) (by omega) (by omega) (s.next O h h1 (by omega) e'))
theorem desc_ok (O : Ord n lt) (h : Al n p) : ∀ (f m : Nat), 1 ≤ m → m + f = n → DP lt p m → ok n lt (kas_desc f p m 0) (fun r => r.1 = p ∧ r.2.2 = 0 ∧ m ≤ r.2.1 ∧ r.2.1 ≤ n ∧ DP lt p r.2.1)
 | 0, m, h1, hf, s => ⟨rfl, rfl, Nat.le_refl _, (by omega : m ≤ n), s⟩
 | f + 1, m, h1, hf, s => by
  unfold kas_desc
  refine ⟨h.bel _ (by omega), h.bel _ (by omega), ?_⟩
  cases e : lt (p.getD m 0) (p.getD (m - 1) 0) with
  | true =>
   dsimp only
   rw [if_pos rfl, if_neg (Nat.lt_irrefl 0)]
   exact ok_mono (fun r z => ⟨z.1, z.2.1, Nat.le_of_succ_le z.2.2.1, z.2.2.2⟩) (desc_ok O h f (m + 1) (by omega) (by omega) (s.next O h h1 (by omega) e))
  | false =>
   dsimp only
   rw [if_neg (by simp)]
   have e':=O.tot _ _ (h.bel _ (by omega)) (h.bel _ (by omega)) (h.inj (i:=m) (j:=m - 1) (by omega) (by omega) (by omega)) e
   refine ⟨h.bel _ (by omega), h.bel _ (by omega), ?_⟩
   rw [e']
   dsimp only
   rw [if_pos rfl]
   exact ⟨rfl, rfl, Nat.le_refl _, (by omega : m ≤ n), s⟩
theorem Al.rev (h : Al n p) (m : Nat) : Al n (kas_rev p 0 m):=((mirror_perm p 0 m _).toList).trans h
theorem G_rev {m : Nat} (hm : m ≤ p.size) (k : Nat) : G (kas_rev p 0 m) k = if k < m then G p (m - 1 - k) else G p k:=by
 have e:=getElem?_mirror_all (xs:=p) (i:=0) hm k
 by_cases hk : k < m
 ·rw [if_pos hk]
  rw [if_pos ⟨Nat.zero_le _, hk⟩] at e
  rw [show 0 + m - 1 - k = m - 1 - k by omega] at e
  exact G_cong e
 ·rw [if_neg hk]
  rw [if_neg (fun z => hk z.2)] at e
  exact G_cong e
theorem rev_SP (h : Al n p) {m : Nat} (hm : m ≤ n) (d : DP lt p m) : SP lt (kas_rev p 0 m) m:=by
 intro i j hij hj
 have hs:=h.size
 rw [G_rev (by omega), G_rev (by omega), if_pos (by omega), if_pos hj]
 exact d _ _ (by omega) (by omega)
theorem tail3_ok (O : Ord n lt) (h : Al n p) {m : Nat} (h1 : 1 ≤ m) (hm : m ≤ n) (d : DP lt p m) : ok n lt (kas_tail3 m n p) (fun r => Al n r.2 ∧ 1 ≤ r.1 ∧ r.1 ≤ n ∧ SP lt r.2 r.1):=by
 unfold kas_tail3
 refine ok_bind (ok_mono (fun r z => ?_) (asc_ok O (h.rev m) (n - m) m h1 (by omega) (rev_SP h hm d)))
 exact ⟨h.rev m, by omega, z.2.1, z.2.2.1⟩
theorem count_ok (O : Ord n lt) (h : Al n p) (hn : 1 ≤ n) : ok n lt (kas_count n p) (fun r => Al n r.2 ∧ 1 ≤ r.1 ∧ r.1 ≤ n ∧ SP lt r.2 r.1):=by
 unfold kas_count
 refine ok_bind (ok_mono (fun r z => ?_) (asc_ok O h (n - 1) 1 (Nat.le_refl _) (by omega) SP.one))
 obtain ⟨z1, z2, z3, z4⟩:=z
 by_cases hr : r = n
 ·subst hr
  simp only [beq_self_eq_true, if_true]
  exact ⟨h, z1, z2, z3⟩
 ·have hb : (r == n) = false:=by simp [hr]
  rw [hb, if_neg (by simp)]
  by_cases h1 : r > 1
  ·rw [if_pos h1]
   refine ⟨h.bel _ (by omega), h.bel _ (by omega), ?_⟩
   have e : lt (p.getD 0 0) (p.getD (r - 1) 0) = true:=z3 0 (r - 1) (by omega) (by omega)
   rw [e]
   dsimp only
   rw [if_pos rfl]
   exact ⟨h, z1, z2, z3⟩
  ·rw [if_neg h1]
   have : r = 1:=by omega
   subst this
   unfold kas_descPart
   have d2 : DP lt p 2:=by
    intro i j hij hj
    have hi : i = 0:=by omega
    have hj' : j = 1:=by omega
    subst hi hj'
    exact z4 (by omega)
   refine ok_bind (ok_mono (fun r w => ?_) (desc_ok O h (n - (1 + 1)) (1 + 1) (by omega) (by omega) d2))
   obtain ⟨w1, w2, w3, w4, w5⟩:=w
   obtain ⟨r1, r2, r3⟩:=r
   dsimp only at w1 w2 w3 w4 w5 ⊢
   subst w1 w2
   rw [if_neg (Nat.lt_irrefl 0)]
   exact tail3_ok O h (by omega) w4 w5
theorem place_ok (O : Ord n lt) (h : Al n p) {k : Nat} (hk : k < n) : ∀ (f l r : Nat), r - l ≤ f → l ≤ r → r ≤ k → (∀ i, i < l → lt (G p i) (G p k) = true) → (∀ i, r ≤ i → i < k → lt (G p k) (G p i) = true) → SP lt p k →
  ok n lt (kas_place p k f l r) (fun m => m ≤ k ∧ (∀ i, i < m → lt (G p i) (G p k) = true) ∧ ∀ i, m ≤ i → i < k → lt (G p k) (G p i) = true)
 | 0, l, r, hf, hl, hr, a, b, s => by
  have : l = r:=by omega
  subst this
  exact ⟨hr, a, b⟩
 | f + 1, l, r, hf, hl, hr, a, b, s => by
  unfold kas_place
  by_cases hlr : l ≥ r
  ·rw [if_pos hlr]
   have : l = r:=by omega
   subst this
   exact ⟨hr, a, b⟩
  ·rw [if_neg hlr]
   refine ⟨h.bel _ (by omega), h.bel _ (by omega), ?_⟩
   have hm1 : l ≤ (l + r) / 2:=by omega
   have hm2 : (l + r) / 2 < r:=by omega
   cases e : lt (p.getD k 0) (p.getD ((l + r) / 2) 0) with
   | true =>
    dsimp only
    rw [if_pos rfl]
    refine place_ok O h hk f l ((l + r) / 2) (by omega) hm1 (by omega) a (fun i hi1 hi2 => ?_) s
    by_cases hi : i = (l + r) / 2
    ·subst hi; exact e
    ·exact O.trn _ _ _ (h.bel _ (by omega)) (h.bel _ (by omega)) (h.bel _ (by omega)) e (s _ _ (by omega) hi2)
   | false =>
    dsimp only
    rw [if_neg (by simp)]
    have e':=O.tot _ _ (h.bel _ (by omega)) (h.bel _ (by omega)) (h.inj (i:=k) (j:=(l + r) / 2) hk (by omega) (by omega)) e
    refine place_ok O h hk f ((l + r) / 2 + 1) r (by omega) (by omega) hr (fun i hi => ?_) b s
    by_cases hi2 : i = (l + r) / 2
    ·subst hi2; exact e'
    ·exact O.trn _ _ _ (h.bel _ (by omega)) (h.bel _ (by omega)) (h.bel _ (by omega)) (s i ((l + r) / 2) (by omega) (by omega)) e'
theorem Al.bub (h : Al n p) (k d : Nat) : Al n (bubble p k d):=((bubble_perm p k d).toList).trans h
theorem G_bub {k d : Nat} (hk : k < p.size) (hd : d ≤ k) (i : Nat) : G (bubble p k d) i = if i = k - d then G p k else if k - d < i ∧ i ≤ k then G p (i - 1) else G p i:=by
 have e:=getElem?_bubble hk d hd i
 by_cases h1 : i = k - d
 ·rw [if_pos h1] at e ⊢; exact G_cong e
 ·rw [if_neg h1] at e ⊢
  by_cases h2 : k - d < i ∧ i ≤ k
  ·rw [if_pos h2] at e ⊢; exact G_cong e
  ·rw [if_neg h2] at e ⊢; exact G_cong e
theorem bin_ok (O : Ord n lt) : ∀ (f k : Nat) (p : Array Nat), Al n p → k + f = n → SP lt p k → ok n lt (kas_bin f p k) (fun q => Al n q ∧ SP lt q n)
 | 0, k, p, h, hf, s => by
  have : k = n:=by omega
  subst this
  exact ⟨h, s⟩
 | f + 1, k, p, h, hf, s => by
  unfold kas_bin
  refine ok_bind (ok_mono (fun m z => ?_) (place_ok O h (by omega) k 0 k (by omega) (Nat.zero_le _) (Nat.le_refl _) (fun i hi => by omega) (fun i h1 h2 => by omega) s))
  obtain ⟨z1, z2, z3⟩:=z
  refine bin_ok O f (k + 1) _ (h.bub k (k - m)) (by omega) ?_
  have hs:=h.size
  intro i j hij hj
  rw [G_bub (by omega) (by omega), G_bub (by omega) (by omega)]
  have hkm : k - (k - m) = m:=by omega
  rw [hkm]
  by_cases hi : i = m
  ·rw [if_pos hi, if_neg (by omega), if_pos (by omega)]
   exact z3 _ (by omega) (by omega)
  ·rw [if_neg hi]
   by_cases hj' : j = m
   ·rw [if_pos hj', if_neg (by omega)]
    exact z2 _ (by omega)
   ·rw [if_neg hj']
    by_cases hi3 : m < i ∧ i ≤ k
    ·rw [if_pos hi3, if_pos (by omega)]
     exact s _ _ (by omega) (by omega)
    ·rw [if_neg hi3]
     by_cases hj3 : m < j ∧ j ≤ k
     ·rw [if_pos hj3]
      by_cases hij2 : i = j - 1
      ·omega
      ·exact s _ _ (by omega) (by omega)
     ·rw [if_neg hj3]
      exact s _ _ hij (by omega)
theorem sort_ok (O : Ord n lt) (hn : 1 ≤ n) : ok n lt (kas_sort n) (fun q => Al n q ∧ SP lt q n):=by
 unfold kas_sort
 refine ok_bind (ok_mono (fun r z => ?_) (count_ok O (show Al n (List.toArray (List.range n)) from List.Perm.refl _) hn))
 obtain ⟨z1, z2, z3, z4⟩:=z
 by_cases hr : r.1 < n
 ·rw [if_pos hr, show max r.1 1 = r.1 by omega]
  exact bin_ok O _ _ _ z1 (by omega) z4
 ·rw [if_neg hr]
  have : r.1 = n:=by omega
  rw [this] at z4
  exact ⟨z1, z4⟩
end
end SO
end
section
set_option maxHeartbeats 2000000
namespace SO
open PySem PySem.W PyProof.Rows
theorem SP.pw {n : Nat} {lt : Nat → Nat → Bool} {p : Array Nat} (h : Al n p) (s : SP lt p n) : p.toList.Pairwise (fun i j => lt i j = true):=by
 rw [List.pairwise_iff_getElem]
 intro i j hi hj hij
 have hs:=h.size
 simp only [Array.length_toList] at hi hj
 have:=s i j hij (by omega)
 rw [G_eq i hi, G_eq j hj] at this
 simpa using this
section
variable {prog : Program} {w : World} {A : Around} {E : Value → Shared → Prop} {s : Shared}
noncomputable abbrev KB (s : Shared) (a : Addr) (h' : Heap) : Prop:=∀ b o, b ≠ a → s.heap.get? b = some o → h'.get? b = some o
structure Cmp (prog : Program) (w : World) (s : Shared) (a : Addr) (vs : List Value) (κ : SortKind) (lt : Nat → Nat → Bool) : Prop where
 kind : 2 ≤ vs.length → ∀ (h' : Heap) (A : Around) (E : Value → Shared → Prop) (Q : SortKind → Shared → Prop), KB s a h' → Q κ { s with heap:=h' } → wpAny (model prog w) A (keyKind' vs.toArray) Q E { s with heap:=h' }
 less : 2 ≤ vs.length → ∀ (h' : Heap) (A : Around) (E : Value → Shared → Prop) (Q : Bool → Shared → Prop) (i j : Nat), KB s a h' → i < vs.length → j < vs.length → Q (lt i j) { s with heap:=h' } → wpAny (model prog w) A (keyLt' κ (vs.getD i .none) (vs.getD j .none)) Q E { s with heap:=h' }
theorem fin_keep {g : Heap} {a : Addr} {e1 : Nat} {vs : List Value} {p : List Nat} {f : Bool → Sem PySem.Fin} {P : PySem.Fin → Shared → Prop} (hoa : g.get? a = some (seqObj "list" #[] e1)) (h64 : vs.length < 64) (hp : p.Perm (List.range vs.length))
  (k : ∀ h' c, (∀ b o, b ≠ a → g.get? b = some o → h'.get? b = some o) → h'.get? a = some (seqObj "list" (p.map fun i => vs.getD i .none).toArray c) → wpAny (model prog w) A (f false) P E { s with heap := h' }) :
  wpAny (model prog w) A (seqEpoch a >>= fun e => Builtin.List.listUpdate (.ref a) (fun _ => (p.map fun i => vs.getD i Value.none).toArray) >>= fun _ => f (e != e1)) P E { s with heap:=g }:=by
 have z : ((p.map fun i => vs.getD i Value.none).toArray).size ≤ sizeLine + 1:=by
  rw [List.size_toArray, List.length_map, hp.length_eq, List.length_range, sizeLine_eq]
  omega
 have s2:=Heap.SameBut.update g a (Obj.mapSeq fun _ => (p.map fun i => vs.getD i Value.none).toArray)
 refine wpAny_bind (seqEpoch_at hoa rfl (wpAny_bind (listUpdate_at hoa rfl ?_ (Nat.zero_le _) z)))
 rw [bne_self_eq_false]
 exact k _ _ (fun b o ne e => s2.extBut b o ne e) (get?_update_seq hoa fun _ => (p.map fun i => vs.getD i Value.none).toArray)
theorem list_sort_keep {a : Addr} {vs : List Value} {n0 : Nat} {κ : SortKind} {lt : Nat → Nat → Bool} {P : PySem.Fin → Shared → Prop} (ho : s.heap.get? a = some (seqObj "list" vs.toArray n0)) (h64 : vs.length < 64)
  (C : Cmp prog w s a vs κ lt) (O : Ord vs.length lt)
  (k : ∀ p : List Nat, p.Perm (List.range vs.length) → p.Pairwise (fun i j => lt i j = true) → ∀ h' c, KB s a h' → h'.get? a = some (seqObj "list" (p.map fun i => vs.getD i .none).toArray c) → P (.done (.ret .none)) { s with heap := h' }) :
  wpAny (model prog w) A (Builtin.«list.sort» ⟨[.ref a], []⟩) P E s:=by
 have ha : a < s.heap.objs.size:=Heap.lt_size ho
 have s1:=Heap.SameBut.update s.heap a (Obj.mapSeq fun _ => (#[] : Array Value))
 obtain ⟨e1, ho1⟩ : ∃ e1, (s.heap.update a (Obj.mapSeq fun _ => (#[] : Array Value))).get? a = some (seqObj "list" #[] e1) := ⟨_, get?_update_seq ho fun _ => #[]⟩
 have hk : KB s a (((s.heap.update a (Obj.mapSeq fun _ => (#[] : Array Value))).push (seqObj "tuple" vs.toArray 0)).push (seqObj "list" #[] 0)) := fun b o hb e =>
  Heap.get?_push_of_some _ (Heap.get?_push_of_some _ (s1.extBut b o hb e))
 have hoa : (((s.heap.update a (Obj.mapSeq fun _ => (#[] : Array Value))).push (seqObj "tuple" vs.toArray 0)).push (seqObj "list" #[] 0)).get? a = some (seqObj "list" #[] e1) := Heap.get?_push_of_some _ (Heap.get?_push_of_some _ ho1)
 rw [list_sort_plain]
 refine wpAny_bind (listItems_at ho rfl ?_)
 refine wpAny_bind (listUpdate_at ho rfl ?_ (by rw [List.size_toArray, sizeLine_eq]; omega) (Nat.zero_le _))
 refine wpAny_bind (seqEpoch_at ho1 rfl ?_)
 refine wpAny_bind (wpAny_newTuple ?_ (by show vs.length ≤ _; rw [sizeLine_eq]; omega))
 refine wpAny_bind (wpAny_newList ?_ (Nat.zero_le _))
 refine wpAny_holding ?_
 show wpAny (model prog w) A _ P E { s with heap := ((s.heap.update a (Obj.mapSeq fun _ => (#[] : Array Value))).push (seqObj "tuple" vs.toArray 0)).push (seqObj "list" #[] 0) }
 generalize hg : ((s.heap.update a (Obj.mapSeq fun _ => (#[] : Array Value))).push (seqObj "tuple" vs.toArray 0)).push (seqObj "list" #[] 0) = g at hk hoa
 dsimp only
 by_cases h2 : vs.length < 2
 ·have hn2 : vs.toArray.size < 2:=by rw [List.size_toArray]; omega
  rw [if_pos hn2, if_pos hn2]
  refine wpAny_bind (wpAny_pure (wpAny_bind (wpAny_pure ?_)))
  have hm : (arrOf (SortSt.mk' general' (vs.toArray.zip vs.toArray) #[] 7 none)).map (·.2) = ((List.range vs.length).map fun i => vs.getD i Value.none).toArray:=by
   show (vs.toArray.zip vs.toArray).map (·.2) = _
   match vs, h2 with
   | [], _ => simp
   | [v], _ => simp [List.range_succ]
  have hpw : (List.range vs.length).Pairwise (fun i j => lt i j = true):=by
   match vs, h2 with
   | [], _ => exact .nil
   | [v], _ => exact List.pairwise_singleton _ _
  have hf : failedOf (SortSt.mk' general' (vs.toArray.zip vs.toArray) #[] 7 none) = none:=rfl
  dsimp only
  rw [hm]
  refine fin_keep (f:=fun b => if b = true then _ else _) hoa h64 (List.Perm.refl _) fun h' c hb hc => ?_
  simp only [Bool.false_eq_true, if_false]
  exact wpAny_pure (k _ (List.Perm.refl _) hpw h' c (fun b o ne e => hb b o ne (hk b o ne e)) hc)
 ·have hn2 : ¬ vs.toArray.size < 2:=by rw [List.size_toArray]; omega
  rw [if_neg hn2, if_neg hn2]
  refine wpAny_bind (C.kind (by omega) g A E _ hk ?_)
  refine wpAny_bind (wpAny_mono (kat_run (κ:=κ) (ks:=vs) (vs:=vs) (G:=fun p s' => Al vs.length p ∧ SP lt p vs.length ∧ s' = { s with heap:=g }) (Q:=fun st' s' => ∃ p : Array Nat, arrOf st' = p.map (kas_item (vs.toArray.zip vs.toArray)) ∧ failedOf st' = none ∧ Al vs.length p ∧ SP lt p vs.length ∧ s' = { s with heap:=g })
   rfl (by omega) h64 (fun p st' s' _ h1 h2 h3 => ⟨p, h1, h2, h3⟩) ?_) ?_ fun _ _ e => e)
  ·refine ok_wp (Q:=fun p => Al vs.length p ∧ SP lt p vs.length) (fun i j D hi hj hD => ?_) (fun p z => ⟨z.1, z.2, rfl⟩) (sort_ok O (by omega))
   exact C.less (by omega) g A _ _ i j hk hi hj hD
  ·rintro ⟨⟨⟩, st'⟩ s' ⟨p, har, hf, hA, hS, rfl⟩
   dsimp only
   rw [kat_snds rfl har, hf]
   refine fin_keep (f:=fun b => if b = true then _ else _) hoa h64 hA fun h' c hb hc => ?_
   simp only [Bool.false_eq_true, if_false]
   exact wpAny_pure (k _ hA (hS.pw hA) h' c (fun b o ne e => hb b o ne (hk b o ne e)) hc)
end
end SO
end
section
set_option maxHeartbeats 2000000
namespace DL
open PySem PySem.Spec PyProof.Rows L2 PySem.W
section
variable {X : Cx} {EX : EXT}
theorem vals_map {α : Type} {f : α → V} {g : α → Value} : ∀ (l : List α), (∀ i ∈ l, RelV (f i) (g i)) → Vals (l.map f) (l.map g)
 | [], _ => .nil
 | i :: l, h => .cons (h i (.head _)) (vals_map l fun j hj => h j (.tail _ hj))
theorem reps_map {α : Type} {K : PySem.W.Frag} {O : List Addr} {H : Hp} {f : α → D} {g : α → V} : ∀ (l : List α), (∀ i ∈ l, Rep K O H (f i) (g i)) → Reps K O H (l.map f) (l.map g)
 | [], _ => Reps.nil_i.mpr rfl
 | i :: l, h => Reps.cons_i.mpr ⟨_, _, rfl, h i (.head _), reps_map l fun j hj => h j (.tail _ hj)⟩
end
end DL
namespace DL
open PySem PySem.Spec PyProof.Rows L2
section
variable {X : Cx} {EX : EXT} {e : Expr} {pos : Pos}
theorem pdf_callB {x : Str} {p : Pos} {es : List Expr} {id : String} {g : List D → Sto → Out (List D)} {f : DA} (hc : CallF X EX (.builtin id) g) (hg : Gl X x) (hm : X.mg x = none) (hv : bootBuiltins x = some (.builtin id)) (ha : PDA X EX (e :: es) f) (hn : x ≠ "__name__" := by decide) (hdb : (x == ("__debug__" : Str)) = false := by decide)
  (he : starEach (e :: es) X.env = (false, eval e X.env) :: starEach es X.env:=by rfl) (hpl : (backTo pos (starEach es X.env)).any (·.1) = false:=by rfl) : PDF X EX (.Call (.Name x p) (e :: es) [] pos) (dCall g f):=PE.mono (pe_callB hc hg hm hv ha hn hdb he hpl) callF_imp
end
end DL
end
section
set_option maxHeartbeats 2000000
namespace HT
open PySem PySem.Builtin PySem.Builtin.Str
section
variable {prog : Program} {w : World} {A : Around} {E : Value → Shared → Prop} {s : Shared} {x y : Str} {t u : Tok} {Q : Value → Shared → Prop}
theorem parts_len (x y : Str) : (partsBetween x (occurrences x y 0 x.length (x.length + 1)) y.length).length ≤ x.length + 2:=by
 rw [PyProof.Rows.len_partsBetween]
 have:=StrLaws.occ_length_le x y 0 x.length (x.length + 1)
 omega
theorem call_split (hy : (y.length == 0) = false) (hx : x.length + 2 ≤ sizeLine)
  (hq : ∀ (l : List (Str × Tok)) k, l.map (·.1) = Txt.split x y → Q (.ref s.heap.objs.size) { s with heap := s.heap.push { cls := .type "list", data := .seq (strValues l).toArray 0 }, toks := k }) :
  wpAny (model prog w) A (call (.builtin "str.split") [.str x t, .str y u]) Q E s := by
 have z1 : x.length ≤ sizeLine:=by omega
 have z2:=Nat.le_trans (parts_len x y) hx
 cases h1 : (decide (x.length < y.length) || decide (strKind x < strKind y))
 ·cases hf : (occurrences x y 0 x.length (x.length + 1)).isEmpty
  ·have e : Txt.split x y = partsBetween x (occurrences x y 0 x.length (x.length + 1)) y.length:=by
    unfold Txt.split
    rw [if_neg (ne_true_of_eq_false h1), if_neg (ne_true_of_eq_false hf)]
   refine call_meets F.slot_str_split (typeIs_str _ _ _) F.entry_str_split (F.args_str_split_2 _ _) (meets_str_split_sep x y t u h1 hy hf z1 z2) ?_
   have hh:=hq (numbered s.toks (partsBetween x (occurrences x y 0 x.length (x.length + 1)) y.length))
   simp only [numbered_texts, e] at hh
   have:=fun k => hh k trivial
   rw [← strsFrom_eq] at this
   exact this _
  ·have e : Txt.split x y = [x]:=by
    unfold Txt.split
    rw [if_neg (ne_true_of_eq_false h1), if_pos hf]
   exact call_meets F.slot_str_split (typeIs_str _ _ _) F.entry_str_split (F.args_str_split_2 _ _) (meets_str_split_not_found x y t u h1 hy hf) (hq [(x, t)] s.toks e.symm)
 ·have e : Txt.split x y = [x]:=by
   unfold Txt.split
   rw [if_pos h1]
  exact call_meets F.slot_str_split (typeIs_str _ _ _) F.entry_str_split (F.args_str_split_2 _ _) (meets_str_split_cannot_occur x y t u h1) (hq [(x, t)] s.toks e.symm)
end
end HT
namespace DL
open PySem PySem.Spec PyProof.Rows L2
section
variable {X : Cx} {EX : EXT} {o a e : Expr} {es : List Expr} {fo fa : DE} {g : DA} {cpos apos : Pos}
noncomputable def endsD : D → List D → Sto → Out D
 | .str x, [.str y], st => .ok (.bl (PySem.Txt.endswith x y)) st
 | _, _, _ => .bad
noncomputable def splitF : D → List D → Sto → Out (List D)
 | .str x, [.str y], st => if y.length ≠ 0 ∧ x.length ≤ small then .ok ((PySem.Txt.split x y).map .str) st else .bad
 | _, _, _ => .bad
noncomputable def dBMF (γ : D → List D → Sto → Out (List D)) (fo : DE) (f : DA) : DA:=fun ρ st => (fo ρ st).bind fun d st1 => match d with
 | .str _ => (f ρ st1).bind fun ds st2 => γ d ds st2
 | _ => .bad
theorem mt_endsD : MtR X "str.endswith" (fun x xs H Q => ∃ O d ds st, WR X.K O H st ∧ Rep X.K O H d x ∧ Reps X.K O H ds xs ∧ Run X.K EX O H (endsD d ds st) (Val X.K Q)) := by
 rintro pins s σ H x xs v us Q I rx rxs ⟨O, d, ds, st, W, r, rs, R⟩
 unfold endsD at R
 split at R
 ·rename_i z y
  rw [Rep.str_i] at r
  subst r
  obtain ⟨tk, rfl⟩:=rx
  obtain ⟨v', rfl, rv⟩:=rs.one_of
  rw [Rep.str_i] at rv
  subst rv
  obtain ⟨u, rfl, tu, rfl⟩:=vals1 rxs
  exact PySem.SC.endswith ⟨.bl _, H, I, rfl, Run.now (k:=Val X.K Q) R W _ (Rep.bl_i.mpr rfl)⟩
 ·exact R.elim
theorem str_vals : ∀ (l : List (Str × Tok)), Vals ((l.map (·.1)).map V.str) (strValues l)
 | [] => .nil
 | (x, t) :: l => .cons ⟨t, rfl⟩ (str_vals l)
theorem str_reps {K : PySem.W.Frag} {O : List Addr} {H : Hp} : ∀ (l : List Str), Reps K O H (l.map D.str) (l.map V.str)
 | [] => Reps.nil_i.mpr rfl
 | x :: l => Reps.cons_i.mpr ⟨_, _, rfl, Rep.str_i.mpr rfl, str_reps l⟩
theorem mt_splitF : MtR X "str.split" (fun x xs H Q => ∃ O d ds st, WR X.K O H st ∧ Rep X.K O H d x ∧ Reps X.K O H ds xs ∧ Run X.K EX O H (splitF d ds st) (New X.K Q)) := by
 rintro pins s σ H x xs v us Q I rx rxs ⟨O, d, ds, st, W, r, rs, R⟩
 unfold splitF at R
 split at R
 ·rename_i z y
  rw [Rep.str_i] at r
  subst r
  obtain ⟨tk, rfl⟩:=rx
  obtain ⟨v', rfl, rv⟩:=rs.one_of
  rw [Rep.str_i] at rv
  subst rv
  obtain ⟨u, rfl, tu, rfl⟩:=vals1 rxs
  by_cases hc : y.length ≠ 0 ∧ z.length ≤ small
  ·rw [if_pos hc] at R
   have hz : z.length + 2 ≤ sizeLine:=by
    have h1 : small + 2 ≤ sizeLine:=by rw [sizeLine_eq]; decide
    have h2:=hc.2
    omega
   refine HT.call_split (by simpa using hc.1) hz fun l k hl => ?_
   have hk : ∀ b o, s.heap.get? b = some o → (s.heap.push { cls := .type "list", data := .seq (strValues l).toArray 0 }).get? b = some o := fun b o h => Heap.get?_push_of_some _ h
   refine ⟨.ref s.heap.objs.size, upd H s.heap.objs.size (.lst ((l.map (·.1)).map V.str)), I.laid hk (Nat.le_refl _) ⟨?_, strValues l, 0, str_vals l, Heap.get?_push_size _ rfl⟩, rfl, ?_⟩
   ·have:=PyProof.Rows.len_le_of_split hl
    simp only [List.length_map]
    omega
   ·rw [hl]
    exact Run.now (k:=New X.K Q) R W s.heap.objs.size _ (str_reps _) (I.hok.fresh (Nat.le_refl _))
  ·rw [if_neg hc] at R; exact R.elim
 ·exact R.elim
theorem pd_sm {name : Str} {id : String} {γ : D → List D → Sto → Out D} (slot : Slot "str" name id) (hty : typeOf (.builtin id) = pure (.type "method_descriptor")) (hm : MtR X id (fun x xs H Q => ∃ O d ds st, WR X.K O H st ∧ Rep X.K O H d x ∧ Reps X.K O H ds xs ∧ Run X.K EX O H (γ d ds st) (Val X.K Q))) (ho : PD X EX o fo) (ha : PDA X EX (e :: es) g)
  (hbase : attributeBase o name X.env (eval o X.env) = eval o X.env:=by rfl)
  (hfew : ((backTo cpos (starEach (e :: es) X.env)).all (fun x => !x.1) && (backToKw cpos (keywordEach [] X.env)).all (fun x => x.1.isSome)
   && decide ((e :: es).length + ([] : List Keyword).length + (if ([] : List Keyword).isEmpty then 0 else 1) < 30)) = true:=by rfl)
  (hline : (apos.endLine == cpos.line) = true:=by rfl) (hs : starEach (e :: es) X.env = (false, eval e X.env) :: starEach es X.env:=by rfl) (hplain : (backTo cpos (starEach es X.env)).any (·.1) = false:=by rfl) :
  PD X EX (.Call (.Attribute o name apos) (e :: es) [] cpos) (dBM γ fo g):=by
 refine PE.mono (pe_bm PySem.F.plainAttrs_str slot hty hm ho ha hbase hfew hline hs hplain) ?_
 rintro σ H Q ⟨O, ρ, st, W, E, R⟩
 refine ⟨O, ρ, st, W, E, R.bind.mono fun d st1 O1 H1 k1 W1 R1 v r => ?_⟩
 cases d with
 | str z =>
  dsimp only at R1
  have r':=r
  rw [Rep.str_i] at r
  subst r
  exact ⟨rfl, O1, ρ, st1, W1, E.mono k1, R1.bind.mono fun ds st2 O2 H2 k2 W2 R2 vs rs => ⟨O2, _, ds, st2, W2, Rep.mono k2 _ _ r', rs, R2⟩⟩
 | _ => exact R1.elim
theorem pdf_split (ho : PD X EX o fo) (ha : PDA X EX (e :: es) g)
  (hbase : attributeBase o "split" X.env (eval o X.env) = eval o X.env := by rfl)
  (hfew : ((backTo cpos (starEach (e :: es) X.env)).all (fun x => !x.1) && (backToKw cpos (keywordEach [] X.env)).all (fun x => x.1.isSome)
   && decide ((e :: es).length + ([] : List Keyword).length + (if ([] : List Keyword).isEmpty then 0 else 1) < 30)) = true:=by rfl)
  (hline : (apos.endLine == cpos.line) = true:=by rfl) (hs : starEach (e :: es) X.env = (false, eval e X.env) :: starEach es X.env:=by rfl) (hplain : (backTo cpos (starEach es X.env)).any (·.1) = false:=by rfl) :
  PDF X EX (.Call (.Attribute o "split" apos) (e :: es) [] cpos) (dBMF splitF fo g) := by
 refine PE.mono (pe_bm PySem.F.plainAttrs_str PySem.F.slot_str_split PySem.F.type_str_split (mt_splitF (EX:=EX)) ho ha hbase hfew hline hs hplain) ?_
 rintro σ H Q ⟨O, ρ, st, W, E, R⟩
 refine ⟨O, ρ, st, W, E, R.bind.mono fun d st1 O1 H1 k1 W1 R1 v r => ?_⟩
 cases d with
 | str z =>
  dsimp only at R1
  have r':=r
  rw [Rep.str_i] at r
  subst r
  exact ⟨rfl, O1, ρ, st1, W1, E.mono k1, R1.bind.mono fun ds st2 O2 H2 k2 W2 R2 vs rs => ⟨O2, _, ds, st2, W2, Rep.mono k2 _ _ r', rs, R2⟩⟩
 | _ => exact R1.elim
end
end DL
namespace DL
open PySem PySem.Spec PyProof.Rows L2
theorem xt_comp {X : Cx} {N : List Str} {scope : Scope} {acc : Addr} {fp : List Addr} {s3 : Shared} {H : Hp} : XT (cxC X N scope acc fp s3 H) EX0:=by
 refine ⟨?_, PassesOwn.never⟩
 rintro pins σ H s e s' I ⟨ea, C, a0, B, H', F, c, st, O, _, z⟩
 exact z
end DL
end
section
namespace L2
open PySem PySem.Spec PyProof.Rows
end L2
namespace L2
open PySem PySem.Spec PyProof.Rows
section
variable (P : Program) (w : World)
end
section
variable {P : Program} {w : World} {H H' : Hp} {h h' : Heap} {a : Addr} {o : HO}
end
section
variable {P : Program} {w : World} {H : Hp} {h h' : Heap} {x e : Addr} {o' : HO}
end
section
variable {fs fs' ex ex' : List Addr} {H H1 H2 : Hp} {h h1 h2 h' : Heap} {a x e : Addr} {o : HO}
end
end L2
namespace L2
open PySem PySem.Spec PyProof.Rows
section
variable {X : Cx} {pins : List (Addr × Obj)} {σ : List (Option V)} {H H' : Hp} {s : Shared} {h' : Heap}
end
end L2
namespace L2
open PySem PySem.Spec PyProof.Rows
section
variable {X : Cx}
variable {a b : Expr} {ta tb : TE} {pos : Pos}
variable {tA tB' : TT} {rest : List Expr}
end
end L2
namespace L2
open PySem PySem.Spec PyProof.Rows
section
variable {X : Cx} {pins : List (Addr × Obj)} {σ : St} {H : Hp} {s : Shared} {a : Addr} {xs ys : List V}
end
section
variable {X : Cx} {pins : List (Addr × Obj)} {σ : St} {H : Hp} {s : Shared} {E : Value → Shared → Prop}
end
section
variable {X : Cx} {st : Stmt} {rest : List Stmt} {t u : TS} {e : Expr} {te : TE} {pos : Pos}
end
section
variable {X : Cx} {pos : Pos}
end
section
variable {X : Cx} {pos : Pos}
end
end L2
namespace L2
open PySem PySem.Spec PyProof.Rows
section
variable {X : Cx} {tg : Expr}
end
end L2
namespace L2
open PySem PySem.Spec PyProof.Rows
section
variable {X : Cx} {a b c : Expr} {ta tb tc : TE} {pos : Pos}
end
section
variable {X : Cx} {a b c : Expr} {ta tb tc : TE} {pos : Pos}
end
end L2
namespace L2
open PySem PySem.Spec PyProof.Rows
section
variable {prog : Program} {w : World} {A : Around} {E : Value → Shared → Prop} {s : Shared} {K : PySem.W.Frag} {x dx C f : Addr} {mA : Str → Option Value} {name : Str} {v : Value}
end
section
variable {P : Program} {w : World} {H H' : Hp} {h h' : Heap} {a C dx : Addr} {fs fs' : List (Str × V)}
end
section
variable {X : Cx} {pins : List (Addr × Obj)} {σ : St} {H : Hp} {s : Shared} {a C dx : Addr} {fs : List (Str × V)} {f : Str} {v : V} {A : Around} {E : Value → Shared → Prop}
end
section
variable {X : Cx} {o e value : Expr} {f : Str} {pos pos' tpos : Pos} {ta tv : TE}
end
section
variable {X : Cx} {pins : List (Addr × Obj)} {σ : St} {H : Hp} {s : Shared} {A : Around} {E : Value → Shared → Prop} {Q : Value → Shared → Prop} {c : Value} {b : Bool}
end
end L2
namespace L2
open PySem PySem.Spec PyProof.Rows
section
variable {X : Cx} {e : Expr} {es : List Expr} {te : TE} {t : TA} {pos : Pos}
end
section
variable {X : Cx} {pins : List (Addr × Obj)} {σ : St} {H : Hp} {s s' : Shared}
end
section
variable {X : Cx} {CX : CXT} {k : Nat} {f C : Addr} {fd : FuncData} {ps : List Str} {sp : Sp} {dvs : List V} {ds : List Value} {E : XK} {x m : Str} {p pos apos : Pos} {e o : Expr} {es : List Expr} {ta : TE} {t : TA}
end
section
variable {X : Cx} {CX : CXT} {k : Nat} {f C : Addr} {fd : FuncData} {ps ks : List Str} {sp : Sp} {E : XK} {x m : Str} {p pos apos kpos : Pos} {e o : Expr} {es : List Expr} {kws : List Keyword} {te ta : TE} {t tk : TA} {nm : Option Str}
variable {g : List Value → List Value → List Value} {gV : List V → List V → List V}
end
end L2
namespace L2
open PySem PySem.Spec PyProof.Rows
section
variable {X : Cx} {x : Str} {p pos : Pos} {e : Expr} {es : List Expr} {t : TA} {id T : String} {r : List V → Hp → VK → Prop}
end
end L2
namespace L2
open PySem PySem.Spec PyProof.Rows
section
variable {κ : Type} [DecidableEq κ]
noncomputable def valV (kvs : List (κ × V)) (k : κ) : Option V:=(kvs.find? fun kv => decide (kv.1 = k)).map (·.2)
noncomputable def putK (kvs : List (κ × V)) (k : κ) (v : V) : List (κ × V) :=
 if (kvs.any fun kv => decide (kv.1 = k)) = true then kvs.map (fun kv => if kv.1 = k then (kv.1, v) else kv) else kvs ++ [(k, v)]
noncomputable def dropK (kvs : List (κ × V)) (k : κ) : List (κ × V):=kvs.filter fun kv => decide (kv.1 ≠ k)
theorem valV_pos {p : κ × V} {r : List (κ × V)} {k : κ} (e : p.1 = k) : valV (p :: r) k = some p.2:=by simp [valV, List.find?_cons, e]
theorem valV_neg {p : κ × V} {r : List (κ × V)} {k : κ} (e : ¬ p.1 = k) : valV (p :: r) k = valV r k:=by simp [valV, List.find?_cons, e]
theorem valV_any (k : κ) : ∀ kvs : List (κ × V), (kvs.any fun kv => decide (kv.1 = k)) = (valV kvs k).isSome
 | [] => rfl
 | p :: r => by
  rw [List.any_cons]
  by_cases e : p.1 = k
  ·simp only [valV_pos e, decide_eq_true e, Bool.true_or, Option.isSome_some]
  ·rw [valV_neg e, decide_eq_false e, Bool.false_or]; exact valV_any k r
theorem length_putK (kvs : List (κ × V)) (k : κ) (v : V) : (putK kvs k v).length ≤ kvs.length + 1:=by
 unfold putK
 split
 ·rw [List.length_map]; omega
 ·rw [List.length_append, List.length_cons, List.length_nil]; omega
theorem RelO.isSome_eq {o : Option V} {u : Option Value} (r : RelO o u) : o.isSome = u.isSome:=by
 cases o with
 | none => cases u with
  | none => rfl
  | some _ => exact (show False from r).elim
 | some _ => cases u with
  | none => exact (show False from r).elim
  | some _ => rfl
theorem RelO.getD {o : Option V} {u : Option Value} {d : V} {d' : Value} (r : RelO o u) (rd : RelV d d') : RelV (o.getD d) (u.getD d'):=by
 cases o with
 | none => cases u with
  | none => exact rd
  | some _ => exact (show False from r).elim
 | some _ => cases u with
  | none => exact (show False from r).elim
  | some _ => exact r
theorem KV.val {kvs : List (κ × V)} {vs : List (κ × Value)} (r : KV kvs vs) (k : κ) : RelO (valV kvs k) (valueAt vs k):=by
 unfold KV at r
 induction r with
 | nil => exact True.intro
 | @cons p q ps qs h t ih =>
  obtain ⟨h1, h2⟩:=h
  by_cases e : p.1 = k
  ·have e' : q.1 = k:=h1.symm.trans e
   have b : valueAt (q :: qs) k = some q.2:=by simp [valueAt, List.find?_cons, e']
   rw [valV_pos e, b]; exact h2
  ·have e' : ¬ q.1 = k:=fun z => e (h1.trans z)
   have b : valueAt (q :: qs) k = valueAt qs k:=by simp [valueAt, List.find?_cons, e']
   rw [valV_neg e, b]; exact ih
theorem KV.any {kvs : List (κ × V)} {vs : List (κ × Value)} (r : KV kvs vs) (k : κ) : (kvs.any fun kv => decide (kv.1 = k)) = vs.any fun kv => decide (kv.1 = k):=by
 unfold KV at r
 induction r with
 | nil => rfl
 | cons h t ih => rw [List.any_cons, List.any_cons, ih, h.1]
theorem KV.repl {kvs : List (κ × V)} {vs : List (κ × Value)} (r : KV kvs vs) (k : κ) {y : V} {u : Value} (ry : RelV y u) :
  KV (kvs.map fun kv => if kv.1 = k then (kv.1, y) else kv) (vs.map fun kv => if kv.1 = k then (kv.1, u) else kv):=by
 unfold KV at r ⊢
 induction r with
 | nil => exact .nil
 | @cons p q ps qs h t ih =>
  rw [List.map_cons, List.map_cons]
  refine .cons ?_ ih
  obtain ⟨h1, h2⟩:=h
  by_cases e : p.1 = k
  ·rw [if_pos e, if_pos (h1.symm.trans e)]; exact ⟨h1, ry⟩
  ·rw [if_neg e, if_neg (fun z => e (h1.trans z))]; exact ⟨h1, h2⟩
theorem KV.put {kvs : List (κ × V)} {vs : List (κ × Value)} (r : KV kvs vs) (k : κ) {y : V} {u : Value} (ry : RelV y u) : KV (putK kvs k y) (stored vs k u):=by
 unfold putK stored
 rw [r.any k]
 by_cases e : (vs.any fun kv => decide (kv.1 = k)) = true
 ·rw [if_pos e, if_pos e]; exact r.repl k ry
 ·rw [if_neg e, if_neg e]; exact Paired.snoc r ⟨rfl, ry⟩
theorem KV.drop {kvs : List (κ × V)} {vs : List (κ × Value)} (r : KV kvs vs) (k : κ) : KV (dropK kvs k) (without vs k):=by
 unfold KV at r ⊢
 unfold dropK without
 induction r with
 | nil => exact .nil
 | @cons p q ps qs h t ih =>
  obtain ⟨h1, h2⟩:=h
  rw [List.filter_cons, List.filter_cons]
  by_cases e : p.1 = k
  ·have a : ¬ decide (p.1 ≠ k) = true:=by simp [e]
   have b : ¬ decide (q.1 ≠ k) = true:=by simp [h1.symm.trans e]
   rw [if_neg a, if_neg b]; exact ih
  ·have e' : ¬ q.1 = k:=fun z => e (h1.trans z)
   have a : decide (p.1 ≠ k) = true:=by simp [e]
   have b : decide (q.1 ≠ k) = true:=by simp [e']
   rw [if_pos a, if_pos b]; exact .cons ⟨h1, h2⟩ ih
theorem KV.keys {kvs : List (κ × V)} {vs : List (κ × Value)} (r : KV kvs vs) : kvs.map (·.1) = vs.map (·.1):=by
 unfold KV at r
 induction r with
 | nil => rfl
 | cons h t ih => rw [List.map_cons, List.map_cons, ih, h.1]
theorem KV.length {kvs : List (κ × V)} {vs : List (κ × Value)} (r : KV kvs vs) : kvs.length = vs.length:=Paired.length r
theorem dropK_le (kvs : List (κ × V)) (k : κ) : (dropK kvs k).length ≤ kvs.length:=List.length_filter_le _ _
end
theorem kV_is {P : Program} {w : World} {k : Key} {u : Value} (r : RelV (kV k) u) : (mixKind P w).is k u = true:=by
 cases k with
 | inl i => obtain ⟨t, e⟩:=(show ∃ t, u = Value.int i t from r); subst e; exact mixKind_int P w i t
 | inr x => obtain ⟨t, e⟩:=(show ∃ t, u = Value.str x t from r); subst e; exact mixKind_str P w x t
theorem items_are {P : Program} {w : World} : ∀ {ks : List Key} {us : List Value}, Vals (ks.map kV) us → ItemsAre (mixKind P w) ks us
 | [], _, r => by rw [List.map_nil] at r; cases r; exact .nil
 | k :: ks, _, r => by
  rw [List.map_cons] at r
  cases r with
  | cons h t => exact .cons (kV_is h) (items_are t)
noncomputable abbrev KT (H : Hp) : List (List Key × V) → List (List Key × Addr × Value) → Prop:=Paired fun p q => p.1 = q.1 ∧ H q.2.1 = some (.tup (p.1.map kV)) ∧ RelV p.2 q.2.2
theorem KT.val {H : Hp} {kvs : List (List Key × V)} {xs : List (List Key × Addr × Value)} (r : KT H kvs xs) (k : List Key) : RelO (valV kvs k) ((atKey xs k).map (·.2)):=by
 induction r with
 | nil => exact True.intro
 | @cons p q ps qs h t ih =>
  obtain ⟨h1, _, h2⟩:=h
  by_cases e : p.1 = k
  ·have e' : q.1 = k:=h1.symm.trans e
   have b : atKey (q :: qs) k = some q.2:=by simp [atKey, List.find?_cons, e']
   rw [valV_pos e, b]; exact h2
  ·have e' : ¬ q.1 = k:=fun z => e (h1.trans z)
   have b : atKey (q :: qs) k = atKey qs k:=by simp [atKey, List.find?_cons, e']
   rw [valV_neg e, b]; exact ih
theorem KT.repl {H : Hp} {kvs : List (List Key × V)} {xs : List (List Key × Addr × Value)} (r : KT H kvs xs) (k : List Key) {y : V} {u : Value} (ry : RelV y u) :
  KT H (kvs.map fun kv => if kv.1 = k then (kv.1, y) else kv) (xs.map (putAt k u)):=by
 induction r with
 | nil => exact .nil
 | @cons p q ps qs h t ih =>
  rw [List.map_cons, List.map_cons]
  refine .cons ?_ ih
  obtain ⟨h1, h2, h3⟩:=h
  unfold putAt
  by_cases e : p.1 = k
  ·rw [if_pos e, if_pos (h1.symm.trans e)]; exact ⟨h1, h2, ry⟩
  ·rw [if_neg e, if_neg (fun z => e (h1.trans z))]; exact ⟨h1, h2, h3⟩
theorem KT.put {H : Hp} {kvs : List (List Key × V)} {xs : List (List Key × Addr × Value)} (r : KT H kvs xs) (k : List Key) {b : Addr} {y : V} {u : Value} (hb : H b = some (.tup (k.map kV))) (ry : RelV y u) :
  KT H (putK kvs k y) (storedH xs k b u):=by
 have e : (kvs.any fun kv => decide (kv.1 = k)) = (atKey xs k).isSome:=by
  rw [valV_any, (r.val k).isSome_eq, Option.isSome_map]
 unfold putK storedH
 rw [e]
 by_cases q : (atKey xs k).isSome = true
 ·rw [if_pos q, if_pos q]; exact r.repl k ry
 ·rw [if_neg q, if_neg q]; exact Paired.snoc r ⟨rfl, hb, ry⟩
theorem KT.keeps {H H' : Hp} {kvs : List (List Key × V)} {xs : List (List Key × Addr × Value)} (r : KT H kvs xs) (ht : ∀ b ys, H b = some (.tup ys) → H' b = some (.tup ys)) : KT H' kvs xs :=
 Paired.mapP r fun _ _ z => ⟨z.1, ht _ _ z.2.1, z.2.2⟩
section
variable {P : Program} {w : World} {H : Hp} {h : Heap} {a : Addr}
theorem rd_of {u : HO} (ok : HOk P w H h) (e : Rd H a u) : ObjOk P w H h a u:=e.ok ok
theorem dk_rd {kvs : List (Key × V)} (ok : HOk P w H h) (e : Rd H a (.dK kvs)) : kvs.length ≤ sizeLine ∧ (a == sysModules) = false ∧ ∃ vs, KV kvs vs ∧ h.DictOf (mixKind P w) a vs :=
 show ObjOk P w H h a (.dK kvs) from rd_of ok e
theorem dk_of {kvs : List (Key × V)} (ok : HOk P w H h) (e : H a = some (.dK kvs)) : kvs.length ≤ sizeLine ∧ (a == sysModules) = false ∧ ∃ vs, KV kvs vs ∧ h.DictOf (mixKind P w) a vs:=dk_rd ok (.inl e)
theorem key_of {ks : List Key} (ok : HOk P w H h) (e : H a = some (.tup (ks.map kV))) : (tupleKind (mixKind P w)).is h ks a:=by
 obtain ⟨_, its, r, o, h1, h2, n, h3⟩:=(show ObjOk P w H h a (.tup (ks.map kV)) from ok a _ e)
 exact ⟨o, its.toArray, n, h1, h2, h3, by simpa using items_are r⟩
theorem dt_rd {kvs : List (List Key × V)} (ok : HOk P w H h) (e : Rd H a (.dT kvs)) : kvs.length ≤ sizeLine ∧ (a == sysModules) = false ∧
  ∃ xs, KT H kvs xs ∧ h.DictOfH (tupleKind (mixKind P w)) a xs:=by
 obtain ⟨z, y, xs, r, o, es, ep, h1, h2, h3, h4, h5⟩:=(show ObjOk P w H h a (.dT kvs) from rd_of ok e)
 refine ⟨z, y, xs, r, o, es, ep, h1, h2, h3, h4, fun x hx => ?_, h5⟩
 have all : ∀ {l : List (List Key × V)} {m : List (List Key × Addr × Value)}, KT H l m → ∀ x ∈ m, (tupleKind (mixKind P w)).is h x.1 x.2.1:=by
  intro l m q
  induction q with
  | nil => intro x hx; exact nomatch hx
  | @cons p q ps qs hq t ih =>
   intro x hx
   rcases List.mem_cons.mp hx with e | hx
   ·subst e
    exact key_of ok (by rw [← hq.1]; exact hq.2.1)
   ·exact ih x hx
 exact all r x hx
theorem dt_of {kvs : List (List Key × V)} (ok : HOk P w H h) (e : H a = some (.dT kvs)) : kvs.length ≤ sizeLine ∧ (a == sysModules) = false ∧
  ∃ xs, KT H kvs xs ∧ h.DictOfH (tupleKind (mixKind P w)) a xs:=dt_rd ok (.inl e)
end
noncomputable def DGet (H : Hp) (a : Addr) (y : V) (r : Option V) : Prop :=
 (∃ kvs k, Rd H a (.dK kvs) ∧ y = kV k ∧ r = valV kvs k) ∨ ∃ kvs k b, Rd H a (.dT kvs) ∧ y = .ref b ∧ H b = some (.tup (k.map kV)) ∧ r = valV kvs k
noncomputable def DPut (H : Hp) (a : Addr) (y v : V) (H' : Hp) : Prop :=
 (∃ kvs k, H a = some (.dK kvs) ∧ y = kV k ∧ kvs.length < sizeLine ∧ H' = upd H a (.dK (putK kvs k v))) ∨
 ∃ kvs k b, H a = some (.dT kvs) ∧ y = .ref b ∧ H b = some (.tup (k.map kV)) ∧ kvs.length < sizeLine ∧ H' = upd H a (.dT (putK kvs k v))
theorem DGet.k {H : Hp} {a : Addr} {kvs : List (Key × V)} {k : Key} (e : H a = some (.dK kvs)) : DGet H a (kV k) (valV kvs k):=.inl ⟨kvs, k, .inl e, rfl, rfl⟩
theorem DGet.t {H : Hp} {a b : Addr} {kvs : List (List Key × V)} {k : List Key} (e : H a = some (.dT kvs)) (eb : H b = some (.tup (k.map kV))) : DGet H a (.ref b) (valV kvs k):=.inr ⟨kvs, k, b, .inl e, rfl, eb, rfl⟩
theorem DPut.k {H : Hp} {a : Addr} {kvs : List (Key × V)} {k : Key} {v : V} (e : H a = some (.dK kvs)) (hl : kvs.length < sizeLine) : DPut H a (kV k) v (upd H a (.dK (putK kvs k v))):=.inl ⟨kvs, k, e, rfl, hl, rfl⟩
theorem DPut.t {H : Hp} {a b : Addr} {kvs : List (List Key × V)} {k : List Key} {v : V} (e : H a = some (.dT kvs)) (eb : H b = some (.tup (k.map kV))) (hl : kvs.length < sizeLine) :
  DPut H a (.ref b) v (upd H a (.dT (putK kvs k v))):=.inr ⟨kvs, k, b, e, rfl, eb, hl, rfl⟩
section
variable {X : Cx} {pins : List (Addr × Obj)} {σ : St} {H : Hp} {s : Shared} {a : Addr} {y v : V} {u r : Value} {o : Option V} {A : Around} {E : Value → Shared → Prop}
theorem Inv.big (I : Inv X pins σ H s) : sysModules < s.heap.objs.size:=by
 have h : mainGlobals < s.heap.objs.size:=(I.mod.glob.keeps I.bk).lt
 exact Nat.lt_trans (by decide) h
theorem d_getItem {Q : Value → Shared → Prop} (hu : A.units + 1 < cLine) (I : Inv X pins σ H s) (g : DGet H a y (some v)) (ry : RelV y u) (h : ∀ w' s', Inv X pins σ H s' → RelV v w' → Q w' s') :
  wpAny (model X.prog X.w) A (getItem (.ref a) u) Q E s:=by
 rcases g with ⟨kvs, k, e, ey, l⟩ | ⟨kvs, k, b, e, ey, eb, l⟩
 ·subst ey
  obtain ⟨z, hd, vs, rel, dd⟩:=dk_rd I.hok e
  obtain ⟨w', hw, rw'⟩:=RelO.some_of (v:=v) (o:=valueAt vs k) (by rw [l]; exact rel.val k)
  exact wpAny_getItem_of (kV_is ry) dd.mapOf hw (h w' _ (I.tok _) rw')
 ·subst ey
  cases (show u = Value.ref b from ry)
  obtain ⟨z, hd, xs, rel, dd⟩:=dt_rd I.hok e
  obtain ⟨w', hw, rw'⟩:=RelO.some_of (v:=v) (o:=(atKey xs k).map (·.2)) (by rw [l]; exact rel.val k)
  obtain ⟨p, hp, hp2⟩:=Option.map_eq_some_iff.mp hw
  refine wpAny_getItem_heap (tupleKind_room_in1 hu) (key_of I.hok eb) dd hp ?_
  rw [hp2]
  exact h w' _ (I.tok _) rw'
theorem d_notIn {Q : Value → Shared → Prop} (hu : A.units + 1 < cLine) (I : Inv X pins σ H s) (g : DGet H a y o) (ry : RelV y u) (h : ∀ s', Inv X pins σ H s' → Q (.bool (!o.isSome)) s') :
  wpAny (model X.prog X.w) A (compareOp .NotIn u (.ref a)) Q E s:=by
 rcases g with ⟨kvs, k, e, ey, l⟩ | ⟨kvs, k, b, e, ey, eb, l⟩
 ·subst ey
  obtain ⟨z, hd, vs, rel, dd⟩:=dk_rd I.hok e
  refine wpAny_notIn_of (kV_is ry) hd dd.mapOf ?_
  rw [← (rel.val k).isSome_eq, ← l]
  exact h _ (I.tok _)
 ·subst ey
  cases (show u = Value.ref b from ry)
  obtain ⟨z, hd, xs, rel, dd⟩:=dt_rd I.hok e
  refine wpAny_notIn_heap (tupleKind_room_in1 hu) (key_of I.hok eb) hd dd ?_
  have q:=(rel.val k).isSome_eq
  rw [Option.isSome_map] at q
  rw [← q, ← l]
  exact h _ (I.tok _)
theorem d_write {h' : Heap} {t' : Nat} {ob : HO} (I : Inv X pins σ H s) (mu : Mut (H a)) (hs : Heap.SameBut a s.heap h') (he : ∃ q, h'.get? a = some q) (new : ObjOk X.prog X.w (upd H a ob) h' a ob) :
  Inv X pins σ (upd H a ob) { s with heap:=h', toks:=t' } :=
 I.write (x:=a) (e:=a) mu (.inl rfl) (fun b q hb z => (hs.2 b hb).trans z) he new
theorem dk_new {P : Program} {w : World} {H' : Hp} {h' : Heap} {kvs : List (Key × V)} {vs : List (Key × Value)} (z : kvs.length ≤ sizeLine) (hd : (a == sysModules) = false) (rel : KV kvs vs) (dd : h'.DictOf (mixKind P w) a vs) :
  ObjOk P w H' h' a (.dK kvs):=⟨z, hd, vs, rel, dd⟩
theorem d_setItem {H' : Hp} {Q : Unit → Shared → Prop} (hu : A.units + 1 < cLine) (I : Inv X pins σ H s) (g : DPut H a y v H') (ry : RelV y u) (rv : RelV v r) (h : ∀ s', Inv X pins σ H' s' → Q () s') :
  wpAny (model X.prog X.w) A (setItem (.ref a) u r) Q E s:=by
 rcases g with ⟨kvs, k, e, ey, l, eH⟩ | ⟨kvs, k, b, e, ey, eb, l, eH⟩
 ·subst ey eH
  obtain ⟨z, hd, vs, rel, dd⟩:=dk_of I.hok e
  have hz : vs.length ≤ sizeLine:=by rw [← rel.length]; exact z
  have hl : (putK kvs k v).length ≤ sizeLine:=by have:=length_putK kvs k v; omega
  refine wpAny_setItem_pairs (hsz:=hz) (kV_is ry) dd fun h' dd' hs => h _ ?_
  have he : ∃ q, h'.get? a = some q:=let ⟨q, _, _, hq, _⟩:=dd'; ⟨q, hq⟩
  exact d_write I (by rw [e]; exact True.intro) hs he (dk_new hl hd (rel.put k rv) dd')
 ·subst ey eH
  cases (show u = Value.ref b from ry)
  obtain ⟨z, hd, xs, rel, dd⟩:=dt_of I.hok e
  have hz : xs.length ≤ sizeLine:=by rw [← Paired.length rel]; exact z
  have hl : (putK kvs k v).length ≤ sizeLine:=by have:=length_putK kvs k v; omega
  refine wpAny_setItem_heap (hsz:=hz) (tupleKind_room_in1 hu) (key_of I.hok eb) dd fun h' dd' hs => h _ ?_
  obtain ⟨q, es, ep, hq, h2, h3, h4, _, h5⟩:=dd'
  refine d_write I (by rw [e]; exact True.intro) hs ⟨q, hq⟩ ⟨hl, hd, _, (rel.put k eb rv).keeps fun c ys ec => ?_, q, es, ep, hq, h2, h3, h4, h5⟩
  rw [upd_ne (ne_of ec e (fun z => nomatch z))]
  exact ec
end
section
variable {X : Cx} {pins : List (Addr × Obj)} {σ : St} {H : Hp} {s : Shared} {a : Addr} {kvs : List (Key × V)} {k : Key} {u : Value} {A : Around} {E : Value → Shared → Prop}
theorem d_pop {v : V} {more : List Value} {Q : Value → Shared → Prop} (I : Inv X pins σ H s) (e : H a = some (.dK kvs)) (ry : RelV (kV k) u) (l : valV kvs k = some v) (hm : more = [] ∨ ∃ x, more = [x])
  (h : ∀ w' s', Inv X pins σ (upd H a (.dK (dropK kvs k))) s' → RelV v w' → Q w' s') : wpAny (model X.prog X.w) A (call (.builtin "dict.pop") (.ref a :: u :: more)) Q E s := by
 obtain ⟨z, hd, vs, rel, dd⟩:=dk_of I.hok e
 obtain ⟨w', hw, rw'⟩:=RelO.some_of (v:=v) (o:=valueAt vs k) (by rw [← l]; exact rel.val k)
 have hp : (keyPart u).isSome = true:=by
  cases k with
  | inl i => obtain ⟨t, q⟩:=(show ∃ t, u = Value.int i t from ry); subst q; rfl
  | inr x => obtain ⟨t, q⟩:=(show ∃ t, u = Value.str x t from ry); subst q; rfl
 have ha : argsOk "dict.pop" ⟨.ref a :: u :: more, []⟩ := by
  rcases hm with q | ⟨x, q⟩
  ·subst q; exact PySem.F.args_dict_pop_2 _ _
  ·subst q; exact PySem.F.args_dict_pop_3 _ _ _
 refine call_meetsIn PySem.F.slot_dict_pop dd.typeIs PySem.F.entry_dict_pop ha (meets_dict_pop_there (mixKind X.prog X.w) a (kV_is ry) more hm hp)
  ⟨vs, w', dd, by rw [← rel.length]; exact z, hw, fun h' dd' hs => h w' _ ?_ rw'⟩
 have he : ∃ q, h'.get? a = some q:=let ⟨q, _, _, hq, _⟩:=dd'; ⟨q, hq⟩
 exact d_write I (by rw [e]; exact True.intro) hs he (dk_new (Nat.le_trans (dropK_le kvs k) z) hd (rel.drop k) dd')
theorem d_len {Q : Value → Shared → Prop} (I : Inv X pins σ H s) (e : Rd H a (.dK kvs)) (h : ∀ t s', Inv X pins σ H s' → Q (.int kvs.length t) s') : wpAny (model X.prog X.w) A (call (.builtin "len") [.ref a]) Q E s := by
 obtain ⟨z, hd, vs, rel, dd⟩:=dk_rd I.hok e
 refine call_len_dict hd dd (by rw [← rel.length]; rw [sizeLine_eq] at z; omega) ?_
 rw [← rel.length]
 exact h _ _ (I.tok _)
end
noncomputable def NoSl (i : Expr) : Prop:=∀ ov iv, subscripted i false ov iv = operate [ov, iv] (getItem ov iv)
theorem subD_of {prog : Program} {w : World} {A : Around} {E : Value → Shared → Prop} {s : Shared} {env : Env} {value slice : Expr} {pos : Pos} {T id : String} {Q : Value → Shared → Prop}
  (hl : typeLookup (.type T) "__getitem__" = pure (some (.builtin id))) (hs : NoSl slice)
  (h : wpAny (model prog w) A (eval value env) (fun o s₁ => wpAny (model prog w) A (eval slice env) (fun i s₂ => s₂.TypeIs o T ∧ wpAny (model prog w) A (getItem o i) Q E s₂) E s₁) E s) :
  wpAny (model prog w) A (eval (.Subscript value slice pos) env) Q E s:=by
 refine Subscript_ (wpAny_mono h (fun o s₁ h₁ => wpAny_mono h₁ (fun i s₂ h₂ => ?_) fun _ _ x => x) fun _ _ x => x)
 obtain ⟨hT, h₂⟩:=h₂
 unfold subscriptTail
 refine wpAny_bind ?_
 rw [getitemInPython_of_ne hT.not_modules]
 refine wpAny_bind (wpAny_specialOf hT hl ?_)
 have fin : wpAny (model prog w) A (subscripted slice false o i) (fun r s₃ => wpAny (model prog w) A (letTemporaryGo value o r >>= fun _ => pure r) Q E s₃) E s₂:=by
  rw [hs o i]
  exact wpAny_operating (wpAny_mono h₂ (fun r s₃ h₃ => wpAny_bind (wpAny_letTemporaryGo (wpAny_pure h₃))) fun _ _ x => x)
 first
  | exact wpAny_pure (wpAny_bind fin)
  | exact wpAny_bind (wpAny_pure (wpAny_bind fin))
  | exact wpAny_bind fin
theorem dict_typeIs {X : Cx} {pins : List (Addr × Obj)} {σ : St} {H : Hp} {s : Shared} {a : Addr} {y : V} {o : Option V} (I : Inv X pins σ H s) (g : DGet H a y o) : s.TypeIs (.ref a) "dict" := by
 rcases g with ⟨kvs, k, e, _, _⟩ | ⟨kvs, k, b, e, _, _, _⟩
 ·obtain ⟨_, _, vs, _, dd⟩:=dk_rd I.hok e
  exact dd.typeIs
 ·obtain ⟨_, _, xs, _, dd⟩:=dt_rd I.hok e
  exact dd.typeIs
noncomputable def tDGet (td ty : TE) : TE:=fun σ H Q => td σ H fun x H1 => ty σ H1 fun y H2 => ∃ a v, x = .ref a ∧ DGet H2 a y (some v) ∧ Q v H2
noncomputable def sDPut (td ty tv : TE) : TS:=fun D σ H => tv σ H fun v H1 => td σ H1 fun x H2 => ty σ H2 fun y H3 => ∃ a H4, x = .ref a ∧ DPut H3 a y v H4 ∧ D.nx σ H4
section
variable {X : Cx} {o i e value : Expr} {pos pos' tpos : Pos} {td ty tv : TE}
theorem pe_dget (hu : X.A.units + 1 < cLine) (ho : PE X o td) (hi : PE X i ty) (hs : NoSl i) : PE X (.Subscript o i pos) (tDGet td ty):=by
 intro pins s σ H Q I h
 refine subD_of PySem.F.slot_dict_getitem.lookup hs (thn (ho pins s σ H _ I h) fun u s1 ⟨x, H1, I1, rx, q1⟩ => thn (hi pins s1 σ H1 _ I1 q1) fun iv s2 ⟨y, H2, I2, ry, a, v, ex, g, q2⟩ => ?_)
 subst ex
 obtain rfl : u = Value.ref a:=rx
 exact ⟨dict_typeIs I2 g, d_getItem hu I2 g ry fun w' s3 I3 rw' => ⟨v, H2, I3, rw', q2⟩⟩
theorem ps_dput (hu : X.A.units + 1 < cLine) (ho : PE X o td) (hi : PE X i ty) (hv : PE X value tv) (hs : swapsWith value (some (.Subscript o i pos')) pos.line X.env = pure false) :
  PS X (.Assign [.Subscript o i pos'] value pos) (sDPut td ty tv):=by
 intro pins s σ H D I h
 refine wpAny_Assign_Subscript (thn (hv pins s σ H _ I h) fun r s1 ⟨v, H1, I1, rv, q1⟩ => thn (ho pins s1 σ H1 _ I1 q1) fun u s2 ⟨x, H2, I2, rx, q2⟩ => thn (hi pins s2 σ H2 _ I2 q2) fun iv s3 ⟨y, H3, I3, ry, a, H4, ex, g, q3⟩ => ?_) hs
 subst ex
 obtain rfl : u = Value.ref a:=rx
 exact d_setItem hu I3 g ry rv fun s4 I4 => ⟨σ, H4, I4, q3⟩
end
theorem dk_empty {P : Program} {w : World} {H : Hp} (h : Heap) (hb : sysModules < h.objs.size) : ObjOk P w H (h.push { cls := .type "dict", data := .dict #[] }) h.objs.size (.dK []) :=
 ⟨Nat.zero_le _, beq_eq_false_iff_ne.mpr (Ne.symm (Nat.ne_of_lt hb)), [], .nil, Heap.DictOf.new h⟩
noncomputable def tDNewK : TE:=fun _ H Q => ∀ p, H p = none → Q (.ref p) (upd H p (.dK []))
section
variable {X : Cx} {pos : Pos}
theorem pe_dnewK : PE X (.Dict [] [] pos) tDNewK:=fun pins s σ H Q I h =>
 wpAny_Dict_empty ⟨.ref s.heap.objs.size, _, I.laid (a:=s.heap.objs.size) (o:=.dK []) (t':=s.toks) (fun _ _ q => Heap.get?_push_of_some _ q) (Nat.le_refl _) (dk_empty s.heap I.big), rfl, h _ (I.hok.fresh (Nat.le_refl _))⟩
end
structure M1 (X : Cx) (o : Expr) (m : Str) (apos : Pos) (e : Expr) (cpos : Pos) : Prop where
 base : attributeBase o m X.env (eval o X.env) = eval o X.env
 few : ((backTo cpos (starEach [e] X.env)).all (fun x => !x.1) && (backToKw cpos (keywordEach [] X.env)).all (fun x => x.1.isSome)
  && decide (([e] : List Expr).length + ([] : List Keyword).length + (if ([] : List Keyword).isEmpty then 0 else 1) < 30)) = true
 line : (apos.endLine == cpos.line) = true
 trees : backTo cpos (starEach [e] X.env) = [(false, eval e X.env)]
noncomputable def IsD (H : Hp) (a : Addr) : Prop:=(∃ kvs, Rd H a (.dK kvs)) ∨ ∃ kvs, Rd H a (.dT kvs)
theorem isD_at {X : Cx} {pins : List (Addr × Obj)} {σ : St} {H : Hp} {s : Shared} {a : Addr} (I : Inv X pins σ H s) (d : IsD H a) :
  s.TypeIs (.ref a) "dict" ∧ (∀ b, Value.ref a = .ref b → ∃ ob, s.heap.get? b = some ob ∧ ob.dict = none) ∧ (a == sysModules) = false := by
 rcases d with ⟨kvs, e⟩ | ⟨kvs, e⟩
 ·obtain ⟨_, hd, vs, _, dd⟩:=dk_rd I.hok e
  refine ⟨dd.typeIs, fun b q => ?_, hd⟩
  cases q
  obtain ⟨ob, _, _, h1, h2, _⟩:=dd
  exact ⟨ob, h1, h2.2.1⟩
 ·obtain ⟨_, hd, xs, _, dd⟩:=dt_rd I.hok e
  refine ⟨dd.typeIs, fun b q => ?_, hd⟩
  cases q
  obtain ⟨ob, _, _, h1, h2, _⟩:=dd
  exact ⟨ob, h1, h2.2.1⟩
section
variable {X : Cx} {pins : List (Addr × Obj)} {σ : St} {H : Hp} {s : Shared} {a : Addr} {y d : V} {u r : Value} {o : Option V} {A : Around} {E : Value → Shared → Prop}
theorem d_get1 {Q : Value → Shared → Prop} (hu : A.units + 1 < cLine) (I : Inv X pins σ H s) (g : DGet H a y o) (ry : RelV y u) (h : ∀ w' s', Inv X pins σ H s' → RelV (o.getD .non) w' → Q w' s') :
  wpAny (model X.prog X.w) A (call (.builtin "dict.get") [.ref a, u]) Q E s := by
 rcases g with ⟨kvs, k, e, ey, l⟩ | ⟨kvs, k, b, e, ey, eb, l⟩
 ·subst ey
  obtain ⟨z, hd, vs, rel, dd⟩:=dk_rd I.hok e
  refine call_meetsIn PySem.F.slot_dict_get dd.typeIs PySem.F.entry_dict_get (PySem.F.args_dict_get_2 _ _) (meets_dict_get (mixKind X.prog X.w) a (kV_is ry) hd) ⟨_, dd.mapOf, h _ _ (I.tok _) ?_⟩
  rw [l]
  exact (rel.val k).getD rfl
 ·subst ey
  cases (show u = Value.ref b from ry)
  obtain ⟨z, hd, xs, rel, dd⟩:=dt_rd I.hok e
  refine call_meetsIn PySem.F.slot_dict_get dd.typeIs PySem.F.entry_dict_get (PySem.F.args_dict_get_2 _ _) (meetsH_dict_get (tupleKind (mixKind X.prog X.w)) a b hd) ⟨tupleKind_room_in1 hu, k, xs, key_of I.hok eb, dd, h _ _ (I.tok _) ?_⟩
  rw [l]
  exact (rel.val k).getD rfl
end
noncomputable def tDGet1 (td ty : TE) : TE:=fun σ H Q => td σ H fun x H1 => ∃ a, x = .ref a ∧ IsD H1 a ∧ ty σ H1 fun y H2 => ∃ o, DGet H2 a y o ∧ Q (o.getD .non) H2
noncomputable def tDPop1 (td ty : TE) : TE:=fun σ H Q => td σ H fun x H1 => ∃ a, x = .ref a ∧ IsD H1 a ∧ ty σ H1 fun y H2 => ∃ kvs k v, H2 a = some (.dK kvs) ∧ y = kV k ∧ valV kvs k = some v ∧ Q v (upd H2 a (.dK (dropK kvs k)))
section
variable {X : Cx} {o e f : Expr} {apos cpos : Pos} {td ty tx : TE}
theorem pe_dget1 (hu : X.A.units + 1 < cLine) (ho : PE X o td) (he : PE X e ty) (m : M1 X o "get" apos e cpos) : PE X (.Call (.Attribute o "get" apos) [e] [] cpos) (tDGet1 td ty) := by
 intro pins s σ H Q I h
 refine wpAny_Call_method m.base m.few m.line PySem.F.plainAttrs_dict PySem.F.slot_dict_get PySem.F.type_dict_get (thn (ho pins s σ H _ I h) fun u s1 ⟨x, H1, I1, rx, a, ex, d, q1⟩ => ?_)
 subst ex
 obtain rfl : u = Value.ref a:=rx
 obtain ⟨t1, t2, _⟩:=isD_at I1 d
 refine ⟨t1, t2, ?_⟩
 rw [m.trees]
 refine Calls.callWith_builtin rfl (Calls.evalArgs_plain (Calls.spliced_cons (thn (he pins s1 σ H1 _ I1 q1) fun iv s2 ⟨y, H2, I2, ry, ov, g, q2⟩ => Calls.spliced_nil ?_)))
 exact d_get1 hu I2 g ry fun w' s3 I3 rw' => ⟨_, H2, I3, rw', q2⟩
theorem pe_dpop1 (ho : PE X o td) (he : PE X e ty) (m : M1 X o "pop" apos e cpos) : PE X (.Call (.Attribute o "pop" apos) [e] [] cpos) (tDPop1 td ty) := by
 intro pins s σ H Q I h
 refine wpAny_Call_method m.base m.few m.line PySem.F.plainAttrs_dict PySem.F.slot_dict_pop PySem.F.type_dict_pop (thn (ho pins s σ H _ I h) fun u s1 ⟨x, H1, I1, rx, a, ex, d, q1⟩ => ?_)
 subst ex
 obtain rfl : u = Value.ref a:=rx
 obtain ⟨t1, t2, _⟩:=isD_at I1 d
 refine ⟨t1, t2, ?_⟩
 rw [m.trees]
 refine Calls.callWith_builtin rfl (Calls.evalArgs_plain (Calls.spliced_cons (thn (he pins s1 σ H1 _ I1 q1) fun iv s2 ⟨y, H2, I2, ry, kvs, k, v, ea, ey, l, q2⟩ => Calls.spliced_nil ?_)))
 subst ey
 exact d_pop I2 ea ry l (.inl rfl) fun w' s3 I3 rw' => ⟨v, _, I3, rw', q2⟩
end
section
variable {X : Cx} {pins : List (Addr × Obj)} {σ : St} {H : Hp} {s : Shared} {a : Addr} {kvs : List (Key × V)} {A : Around} {E : Value → Shared → Prop}
theorem d_copyOf {Q : Value → Shared → Prop} (I : Inv X pins σ H s) (e : Rd H a (.dK kvs)) (h : ∀ p s', H p = none → Inv X pins σ (upd H p (.dK kvs)) s' → Q (.ref p) s') : wpAny (model X.prog X.w) A (call (.type "dict") [.ref a]) Q E s := by
 obtain ⟨z, hd, vs, rel, dd⟩:=dk_rd I.hok e
 refine kt_call_dict hd dd (by rw [← rel.length]; exact z) fun h' dd' hs => ?_
 refine h _ _ (I.hok.fresh (Nat.le_refl _)) (I.laid (a:=s.heap.objs.size) (o:=.dK kvs) (t':=s.toks) (fun b q hq => ?_) (Nat.le_refl _) (dk_new z (beq_eq_false_iff_ne.mpr (Ne.symm (Nat.ne_of_lt I.big))) rel dd'))
 exact (hs.2 b (Nat.ne_of_lt (Heap.lt_size hq))).trans (Heap.get?_push_of_some _ hq)
end
section
variable {X : Cx} {pins : List (Addr × Obj)} {σ : St} {H : Hp} {s : Shared} {a : Addr} {y : V} {u : Value} {A : Around} {E : Value → Shared → Prop}
end
end L2
namespace Att
open PySem PySem.W PySem.Calls PyProof.Rows
section
variable {prog : Program} {w : World} {A : Around} {E : Value → Shared → Prop} {s : Shared} {K : Frag}
end
end Att
namespace L2
open PySem PySem.Spec PyProof.Rows
end L2
namespace L2
open PySem PySem.Spec PyProof.Rows
end L2
namespace L2
open PySem PySem.Spec PyProof.Rows
section
variable {P : Program} {w : World} {K : PySem.W.Frag} {mg : Str → Option Value} {base : Heap}
end
section
variable {X : Cx}
theorem call_lenD : CallR X (.builtin "len") (fun xs H Q => ∃ a kvs, xs = [V.ref a] ∧ H a = some (.dK kvs) ∧ Q (.int kvs.length) H) := by
 intro pins s σ H xs us Q I r h
 obtain ⟨a, kvs, rfl, ha, q⟩:=h
 obtain ⟨u, rfl, ru⟩:=vals1 r
 cases ru
 exact d_len I (.inl ha) fun t s' I' => ⟨.int kvs.length, H, I', ⟨t, rfl⟩, q⟩
end
section
variable {κ : Type} [DecidableEq κ]
end
end L2
end
section
namespace DL
open PySem PySem.Spec PyProof.Rows L2
section
variable {κ : Type} [DecidableEq κ] (f : D → Option κ)
noncomputable def valD : List (D × D) → D → Option D
 | [], _ => none
 | p :: r, k => if f p.1 = f k then some p.2 else valD r k
noncomputable def hasD (ds : List (D × D)) (k : D) : Bool:=ds.any fun p => decide (f p.1 = f k)
noncomputable def putD (ds : List (D × D)) (k v : D) : List (D × D) :=
 if hasD f ds k = true then ds.map (fun p => if f p.1 = f k then (p.1, v) else p) else ds ++ [(k, v)]
noncomputable def dropD (ds : List (D × D)) (k : D) : List (D × D):=ds.filter fun p => decide (f p.1 ≠ f k)
end
noncomputable def RelO' (K : PySem.W.Frag) (O : List Addr) (H : Hp) : Option D → Option V → Prop
 | none, none => True
 | some d, some v => Rep K O H d v
 | _, _ => False
section
variable {κ : Type} [DecidableEq κ] {f : D → Option κ} {K : PySem.W.Frag} {O : List Addr} {H : Hp}
theorem valD_has (k : D) : ∀ ds : List (D × D), hasD f ds k = (valD f ds k).isSome
 | [] => rfl
 | p :: r => by
  unfold hasD
  rw [List.any_cons]
  by_cases e : f p.1 = f k
  ·simp [valD, e]
  ·rw [decide_eq_false e, Bool.false_or]
   have:=valD_has k r
   unfold hasD at this
   rw [this, valD, if_neg e]
theorem kvs_val {k : D} {q : κ} (hk : f k = some q) : ∀ {ds : List (D × D)} {vs : List (κ × V)}, Kvs K f O H ds vs → RelO' K O H (valD f ds k) (valV vs q)
 | [], vs, h => by
  cases (show vs = [] from h)
  exact trivial
 | (a, d) :: ds, vs, h => by
  obtain ⟨qa, v, r, rfl, ha, hr, ht⟩:=(show ∃ q v r, vs = (q, v) :: r ∧ f a = some q ∧ Rep K O H d v ∧ Kvs K f O H ds r from h)
  by_cases e : qa = q
  ·have e' : f (a, d).1 = f k:=by rw [hk]; show f a = _; rw [ha, e]
   rw [valD, if_pos e', valV_pos (p:=(qa, v)) e]
   exact hr
  ·have e' : ¬ f (a, d).1 = f k:=by
    rw [hk]; show ¬ f a = _; rw [ha]; intro z; exact e (Option.some.inj z)
   rw [valD, if_neg e', valV_neg (p:=(qa, v)) e]
   exact kvs_val hk ht
theorem RelO'.isSome {a : Option D} {b : Option V} (h : RelO' K O H a b) : b.isSome = a.isSome:=by
 cases a <;> cases b <;> first | rfl | exact h.elim
theorem kvs_len : ∀ {ds : List (D × D)} {vs : List (κ × V)}, Kvs K f O H ds vs → vs.length = ds.length
 | [], vs, h => by
  cases (show vs = [] from h)
  rfl
 | (a, d) :: ds, vs, h => by
  obtain ⟨qa, v, r, rfl, ha, hr, ht⟩:=(show ∃ q v r, vs = (q, v) :: r ∧ f a = some q ∧ Rep K O H d v ∧ Kvs K f O H ds r from h)
  simp [kvs_len ht]
theorem kvs_snoc {k d : D} {q : κ} {v : V} (hk : f k = some q) (hr : Rep K O H d v) : ∀ {ds : List (D × D)} {vs : List (κ × V)}, Kvs K f O H ds vs → Kvs K f O H (ds ++ [(k, d)]) (vs ++ [(q, v)])
 | [], vs, h => by
  cases (show vs = [] from h)
  exact ⟨q, v, [], rfl, hk, hr, rfl⟩
 | (a, d) :: ds, vs, h => by
  obtain ⟨qa, w, r, rfl, ha, hw, ht⟩:=(show ∃ q v r, vs = (q, v) :: r ∧ f a = some q ∧ Rep K O H d v ∧ Kvs K f O H ds r from h)
  exact ⟨qa, w, r ++ [(q, v)], rfl, ha, hw, kvs_snoc hk hr ht⟩
theorem kvs_map {k d : D} {q : κ} {v : V} (hk : f k = some q) (hr : Rep K O H d v) : ∀ {ds : List (D × D)} {vs : List (κ × V)}, Kvs K f O H ds vs →
  Kvs K f O H (ds.map fun p => if f p.1 = f k then (p.1, d) else p) (vs.map fun kv => if kv.1 = q then (kv.1, v) else kv)
 | [], vs, h => by
  cases (show vs = [] from h)
  exact rfl
 | (a, e) :: ds, vs, h => by
  obtain ⟨qa, w, r, rfl, ha, hw, ht⟩:=(show ∃ q v r, vs = (q, v) :: r ∧ f a = some q ∧ Rep K O H e v ∧ Kvs K f O H ds r from h)
  have ih:=kvs_map hk hr ht
  rw [List.map_cons, List.map_cons]
  by_cases z : qa = q
  ·have z' : f (a, e).1 = f k:=by rw [hk]; show f a = _; rw [ha, z]
   rw [if_pos z', if_pos (show (qa, w).1 = q from z)]
   exact ⟨qa, v, _, rfl, ha, hr, ih⟩
  ·have z' : ¬ f (a, e).1 = f k:=by
    rw [hk]; show ¬ f a = _; rw [ha]; intro y; exact z (Option.some.inj y)
   rw [if_neg z', if_neg (show ¬ (qa, w).1 = q from z)]
   exact ⟨qa, w, _, rfl, ha, hw, ih⟩
theorem kvs_put {k d : D} {q : κ} {v : V} (hk : f k = some q) (hr : Rep K O H d v) {ds : List (D × D)} {vs : List (κ × V)} (h : Kvs K f O H ds vs) : Kvs K f O H (putD f ds k d) (putK vs q v):=by
 unfold putD putK
 rw [valD_has, valV_any, (kvs_val hk h).isSome]
 split
 ·exact kvs_map hk hr h
 ·exact kvs_snoc hk hr h
theorem kvs_drop {k : D} {q : κ} (hk : f k = some q) : ∀ {ds : List (D × D)} {vs : List (κ × V)}, Kvs K f O H ds vs → Kvs K f O H (dropD f ds k) (dropK vs q)
 | [], vs, h => by
  cases (show vs = [] from h)
  exact rfl
 | (a, e) :: ds, vs, h => by
  obtain ⟨qa, w, r, rfl, ha, hw, ht⟩:=(show ∃ q v r, vs = (q, v) :: r ∧ f a = some q ∧ Rep K O H e v ∧ Kvs K f O H ds r from h)
  have ih:=kvs_drop hk ht
  unfold dropD dropK at ih ⊢
  rw [List.filter_cons, List.filter_cons]
  by_cases z : qa = q
  ·have z' : f (a, e).1 = f k:=by rw [hk]; show f a = _; rw [ha, z]
   rw [if_neg (by simp [z']), if_neg (by simp [z])]
   exact ih
  ·have z' : ¬ f (a, e).1 = f k:=by
    rw [hk]; show ¬ f a = _; rw [ha]; intro y; exact z (Option.some.inj y)
   rw [if_pos (by simpa using z'), if_pos (by simpa using z)]
   exact ⟨qa, w, _, rfl, ha, hw, ih⟩
end
theorem key_rep {K : PySem.W.Frag} {O : List Addr} {H : Hp} {d : D} {q : Key} {v : V} (h : keyD d = some q) (r : Rep K O H d v) : v = kV q:=by
 cases d with
 | int i =>
  cases (show some (Sum.inl i) = some q from h)
  exact Rep.int_i.mp r
 | str x =>
  cases (show some (Sum.inr x) = some q from h)
  exact Rep.str_i.mp r
 | _ => cases h
theorem keys_rep {K : PySem.W.Frag} {O : List Addr} {H : Hp} : ∀ {ds : List D} {qs : List Key} {vs : List V}, keyDs ds = some qs → Reps K O H ds vs → vs = qs.map kV
 | [], qs, vs, h, r => by
  cases (show some [] = some qs from h)
  exact (by unfold Reps at r; exact r)
 | d :: ds, qs, vs, h, r => by
  unfold keyDs at h
  unfold Reps at r
  obtain ⟨v, w, rfl, hv, hw⟩:=r
  split at h
  ·rename_i k ks h1 h2
   cases h
   rw [key_rep h1 hv, keys_rep h2 hw]
   rfl
  ·cases h
theorem keyT_rep {K : PySem.W.Frag} {O : List Addr} {H : Hp} {d : D} {q : List Key} {v : V} (h : keyT d = some q) (r : Rep K O H d v) : ∃ b, v = .ref b ∧ H b = some (.tup (q.map kV)):=by
 cases d with
 | tup ds =>
  rw [Rep.tup_i] at r
  obtain ⟨a, vs, rfl, e, rs⟩:=r
  have h' : keyDs ds = some q:=h
  rw [keys_rep h' rs] at e
  exact ⟨a, rfl, e⟩
 | _ => cases h
noncomputable def dAt (st : Sto) (d k : D) : Option (Option D):=match d with
 | .res i => match st[i]? with
  | some (.dct ds) => if (keyD k).isSome = true then some (valD keyD ds k) else none
  | some (.dtt ds) => if (keyT k).isSome = true then some (valD keyT ds k) else none
  | _ => none
 | _ => none
theorem dAt_ok {K : PySem.W.Frag} {O : List Addr} {H : Hp} {st : Sto} {d k : D} {o : Option D} {x y : V} (W : WR K O H st) (h : dAt st d k = some o) (rx : Rep K O H d x) (ry : Rep K O H k y) :
  ∃ a ov, x = .ref a ∧ DGet H a y ov ∧ RelO' K O H o ov:=by
 cases d with
 | res i =>
  rw [Rep.res_i] at rx
  obtain ⟨a, rfl, q⟩:=rx
  unfold dAt at h
  dsimp only at h
  cases e : st[i]? with
  | none => rw [e] at h; cases h
  | some s =>
   rw [e] at h
   cases s with
   | lst xs => cases h
   | ins C fs => cases h
   | dct ds =>
    obtain ⟨vs, e2, kv⟩:=W.at_ _ _ _ q e
    dsimp only at h
    cases hk : keyD k with
    | none => rw [hk] at h; cases h
    | some c =>
     rw [hk] at h
     cases h
     cases key_rep hk ry
     exact ⟨a, _, rfl, DGet.k e2, kvs_val hk kv⟩
   | dtt ds =>
    obtain ⟨vs, e2, kv⟩:=W.at_ _ _ _ q e
    dsimp only at h
    cases hk : keyT k with
    | none => rw [hk] at h; cases h
    | some c =>
     rw [hk] at h
     cases h
     obtain ⟨b, rfl, hb⟩:=keyT_rep hk ry
     exact ⟨a, _, rfl, DGet.t e2 hb, kvs_val hk kv⟩
 | _ => cases h
noncomputable def dPutAt (st : Sto) (d k v : D) : Option Sto:=match d with
 | .res i => match st[i]? with
  | some (.dct ds) => if (keyD k).isSome = true ∧ ds.length < small then some (st.set i (.dct (putD keyD ds k v))) else none
  | some (.dtt ds) => if (keyT k).isSome = true ∧ ds.length < small then some (st.set i (.dtt (putD keyT ds k v))) else none
  | _ => none
 | _ => none
theorem dPut_ok {K : PySem.W.Frag} {O : List Addr} {H : Hp} {st st' : Sto} {d k z : D} {x y w : V} (W : WR K O H st) (h : dPutAt st d k z = some st') (rx : Rep K O H d x) (ry : Rep K O H k y) (rw' : Rep K O H z w) :
  ∃ a H', x = .ref a ∧ DPut H a y w H' ∧ Keep K O H O H' ∧ WR K O H' st':=by
 cases d with
 | res i =>
  rw [Rep.res_i] at rx
  obtain ⟨a, rfl, q⟩:=rx
  unfold dPutAt at h
  dsimp only at h
  cases e : st[i]? with
  | none => rw [e] at h; cases h
  | some s =>
   rw [e] at h
   cases s with
   | lst xs => cases h
   | ins C fs => cases h
   | dct ds =>
    obtain ⟨vs, e2, kv⟩:=W.at_ _ _ _ q e
    dsimp only at h
    split at h
    ·rename_i hc
     cases hk : keyD k with
     | none => rw [hk] at hc; cases hc.1
     | some c =>
      cases h
      cases key_rep hk ry
      refine ⟨a, _, rfl, DPut.k e2 (by rw [kvs_len kv]; exact Nat.lt_of_lt_of_le hc.2 small_le), Keep.write W q, W.write q ?_⟩
      exact ⟨_, upd_same, Kvs.mono (Keep.write W q) _ _ (kvs_put hk rw' kv)⟩
    ·cases h
   | dtt ds =>
    obtain ⟨vs, e2, kv⟩:=W.at_ _ _ _ q e
    dsimp only at h
    split at h
    ·rename_i hc
     cases hk : keyT k with
     | none => rw [hk] at hc; cases hc.1
     | some c =>
      cases h
      obtain ⟨b, rfl, hb⟩:=keyT_rep hk ry
      refine ⟨a, _, rfl, DPut.t e2 hb (by rw [kvs_len kv]; exact Nat.lt_of_lt_of_le hc.2 small_le), Keep.write W q, W.write q ?_⟩
      exact ⟨_, upd_same, Kvs.mono (Keep.write W q) _ _ (kvs_put hk rw' kv)⟩
    ·cases h
 | _ => cases h
noncomputable def getDd (fo fi : DE) : DE:=fun ρ st => (fo ρ st).bind fun d st1 => (fi ρ st1).bind fun k st2 => match dAt st2 d k with
 | some (some v) => .ok v st2
 | _ => .bad
noncomputable def notInDd : D → D → Sto → Out D:=fun k d st => match dAt st d k with
 | some o => .ok (.bl (!o.isSome)) st
 | _ => .bad
noncomputable def dNewK : DE:=fun _ st => .ok (.res st.length) (st ++ [.dct []])
noncomputable def sPutD (fo fi fv : DE) : DS:=fun ρ st => (fv ρ st).to fun v st1 => (fo ρ st1).to fun d st2 => (fi ρ st2).to fun k st3 => match dPutAt st3 d k v with
 | some st4 => .nx ρ st4
 | _ => .bad
section
variable {X : Cx} {EX : EXT} {a b c e o i : Expr} {fa fb fc fo fi fv : DE} {pos p p2 apos cpos : Pos}
theorem pd_dget (hu : X.A.units + 64 < cLine) (ho : PD X EX o fo) (hi : PD X EX i fi) (hs : NoSl i:=by intro _ _; rfl) : PD X EX (.Subscript o i pos) (getDd fo fi):=by
 refine PE.mono (pe_dget (by omega) ho hi hs) ?_
 rintro σ H Q ⟨O, ρ, st, W, E, R⟩
 refine ⟨O, ρ, st, W, E, R.bind.mono fun d st1 O1 H1 k1 W1 R1 x rx => ?_⟩
 refine ⟨O1, ρ, st1, W1, E.mono k1, R1.bind.mono fun k st2 O2 H2 k2 W2 R2 y ry => ?_⟩
 split at R2
 ·rename_i v hv
  obtain ⟨a, ov, rfl, g, rel⟩:=dAt_ok W2 hv (Rep.mono k2 _ _ rx) ry
  cases ov with
  | none => exact rel.elim
  | some w => exact ⟨a, w, rfl, g, Run.now (k:=Val X.K Q) R2 W2 _ rel⟩
 ·exact R2.elim
theorem op_notInDd (hu : X.A.units + 64 < cLine) : OpD X EX (compareOp .NotIn) notInDd:=by
 intro pins s σ H x y v u Q I rx ry h
 obtain ⟨O, k, d, st, W, rk, rd, R⟩:=h
 unfold notInDd at R
 split at R
 ·rename_i o ho
  obtain ⟨a, ov, rfl, g, rel⟩:=dAt_ok W ho rd rk
  cases (show u = Value.ref a from ry)
  refine d_notIn (by omega) I g rx fun s' I' => ⟨.bl (!ov.isSome), H, I', rfl, ?_⟩
  rw [rel.isSome]
  exact Run.now (k:=Val X.K Q) R W _ (Rep.bl_i.mpr rfl)
 ·exact R.elim
theorem pd_dnewK : PD X EX (.Dict [] [] pos) dNewK:=by
 refine PE.mono pe_dnewK ?_
 rintro σ H Q ⟨O, ρ, st, W, E, R⟩ p hp
 exact R (O ++ [p]) _ (Keep.push hp) (W.push' hp ⟨[], upd_same, rfl⟩) _ (Rep.res_i.mpr ⟨p, rfl, by rw [← W.len]; simp⟩)
theorem pd_dput (hu : X.A.units + 64 < cLine) (ho : PD X EX o fo) (hi : PD X EX i fi) (hv : PD X EX e fv) (hs : swapsWith e (some (.Subscript o i p)) pos.line X.env = pure false:=by rfl) :
  PDs X EX (.Assign [.Subscript o i p] e pos) (sPutD fo fi fv):=by
 refine PS.mono (ps_dput (by omega) ho hi hv hs) ?_
 rintro Dn σ H ⟨O, ρ, st, W, E, R⟩
 refine ⟨O, ρ, st, W, E, R.to.mono fun w st1 O1 H1 k1 W1 R1 v r => ?_⟩
 refine ⟨O1, ρ, st1, W1, E.mono k1, R1.to.mono fun d st2 O2 H2 k2 W2 R2 u r2 => ?_⟩
 refine ⟨O2, ρ, st2, W2, E.mono (k1.trans k2), R2.to.mono fun j st3 O3 H3 k3 W3 R3 z r3 => ?_⟩
 split at R3
 ·rename_i st4 h4
  obtain ⟨a, H4, rfl, g, kp, W4⟩:=dPut_ok W3 h4 (Rep.mono k3 _ _ r2) r3 (Rep.mono (k2.trans k3) _ _ r)
  exact ⟨a, H4, rfl, g, R3 O3 H4 σ kp W4 (E.mono (k1.trans (k2.trans (k3.trans kp))))⟩
 ·exact R3.elim
noncomputable def dPopD (fo fi : DE) : DE:=fun ρ st => (fo ρ st).bind fun d st1 => match d with
 | .res r => match st1[r]? with
  | some (.dct _) => (fi ρ st1).bind fun k st2 => match st2[r]? with
   | some (.dct ds) => match keyD k, valD keyD ds k with
    | some _, some v => .ok v (st2.set r (.dct (dropD keyD ds k)))
    | _, _ => .bad
   | _ => .bad
  | _ => .bad
 | _ => .bad
theorem pd_dpop (ho : PD X EX o fo) (hi : PD X EX i fi) (m : M1 X o "pop" apos i cpos := by exact ⟨rfl, rfl, rfl, rfl⟩) : PD X EX (.Call (.Attribute o "pop" apos) [i] [] cpos) (dPopD fo fi) := by
 refine PE.mono (pe_dpop1 ho hi m) ?_
 rintro σ H Q ⟨O, ρ, st, W, E, R⟩
 refine ⟨O, ρ, st, W, E, R.bind.mono fun d st1 O1 H1 k1 W1 R1 x rx => ?_⟩
 split at R1
 ·rename_i r
  split at R1
  ·rename_i ds0 hd0
   rw [Rep.res_i] at rx
   obtain ⟨a, rfl, q⟩:=rx
   obtain ⟨vs0, e0, kv0⟩:=W1.at_ _ _ _ q hd0
   refine ⟨a, rfl, .inl ⟨vs0, .inl e0⟩, ?_⟩
   refine ⟨O1, ρ, st1, W1, E.mono k1, R1.bind.mono fun k st2 O2 H2 k2 W2 R2 y ry => ?_⟩
   split at R2
   ·rename_i ds hd
    have q2:=k2.pre _ _ q
    obtain ⟨vs, e2, kv⟩:=W2.at_ _ _ _ q2 hd
    split at R2
    ·rename_i c v hk hv
     have hk':=key_rep hk ry
     have rel:=kvs_val hk kv
     rw [hv] at rel
     cases hw : valV vs c with
     | none => rw [hw] at rel; exact rel.elim
     | some w =>
      rw [hw] at rel
      refine ⟨vs, c, w, e2, hk', hw, ?_⟩
      have kw : Keep X.K O2 H2 O2 (upd H2 a (.dK (dropK vs c))):=Keep.write W2 q2
      exact R2 O2 _ kw (W2.write q2 ⟨_, upd_same, Kvs.mono kw _ _ (kvs_drop hk kv)⟩) _ (Rep.mono kw _ _ rel)
    ·exact R2.elim
   ·exact R2.elim
  ·exact R1.elim
 ·exact R1.elim
end
section
variable {X : Cx} {EX : EXT} {e o : Expr} {fa fo : DE} {pos : Pos} {C : Addr} {x : Str}
end
section
variable {fo fi fv : DE} {ρ : Ev} {st : Sto} {C : Addr} {x : Str}
theorem z_getDd : getDd fo fi ρ st = (fo ρ st).bind fun d st1 => (fi ρ st1).bind fun k st2 => match dAt st2 d k with
 | some (some v) => .ok v st2
 | _ => .bad:=rfl
theorem z_sPutD : sPutD fo fi fv ρ st = (fv ρ st).to fun v st1 => (fo ρ st1).to fun d st2 => (fi ρ st2).to fun k st3 => match dPutAt st3 d k v with
 | some st4 => .nx ρ st4
 | _ => .bad:=rfl
theorem z_dPopD : dPopD fo fi ρ st = (fo ρ st).bind fun d st1 => match d with
 | .res r => match st1[r]? with
  | some (.dct _) => (fi ρ st1).bind fun k st2 => match st2[r]? with
   | some (.dct ds) => match keyD k, valD keyD ds k with
    | some _, some v => .ok v (st2.set r (.dct (dropD keyD ds k)))
    | _, _ => .bad
   | _ => .bad
  | _ => .bad
 | _ => .bad:=rfl
@[simp] theorem z_dNewK : dNewK ρ st = .ok (.res st.length) (st ++ [.dct []]):=rfl
end
end DL
end
section
set_option maxHeartbeats 2000000
namespace SO
open PySem PySem.W PyProof.Rows
section
variable {prog : Program} {w : World} {A : Around} {E : Value → Shared → Prop} {s : Shared}
theorem sorted_src {T : String} {r d : Addr} {n : Nat} {P : Nat → Value → Prop} {OK : Heap → Prop} {κ : SortKind} {lt : Nat → Nat → Bool} {Q : Value → Shared → Prop} (src : KdlSrc prog w T r d n P OK) (hh : A.handled = none) (ok : OK s.heap) (h64 : n < 64)
  (C : ∀ vs a h' tk, ItemsOf P vs n → Cmp prog w { s with heap:=h', toks:=tk } a vs.toList κ lt) (O : Ord n lt)
  (k : ∀ vs, ItemsOf P vs n → ∀ p : List Nat, p.Perm (List.range n) → p.Pairwise (fun i j => lt i j = true) → ∀ (h1 : Heap) a (h' : Heap) tk c, (∀ b o, s.heap.get? b = some o → h1.get? b = some o) → h1.objs.size ≤ a → (∀ b o, h1.get? b = some o → h'.get? b = some o) →
   h'.get? a = some (seqObj "list" (p.map fun i => vs.toList.getD i .none).toArray c) → Q (.ref a) { s with heap := h', toks := tk }) :
  wpAny (model prog w) A (call (.builtin "sorted") [.ref r]) Q E s := by
 refine Calls.call_function_entry kind_sorted plain_sorted entry_sorted (args_sorted1 _) ?_
 unfold Builtin.«sorted»
 refine wpAny_bind (m := checkCount "sorted" 1 1 _) (wpAny_pure ?_)
 refine wpAny_bind (kdu_collect src hh ok (by rw [sizeLine_eq]; omega) fun h1 tk acc k1 hI => ?_)
 have hlen : acc.toList.length = n:=by rw [Array.length_toList]; exact hI.1
 refine wpAny_bind (wpAny_newList ?_ (by rw [sizeLine_eq, hlen]; omega))
 have hoL : (h1.push (seqObj "list" acc.toList.toArray 0)).get? h1.objs.size = some (seqObj "list" acc.toList.toArray 0) := Heap.get?_push_size _ rfl
 have keep : ∀ b o, h1.get? b = some o → (h1.push (seqObj "list" acc.toList.toArray 0)).get? b = some o := fun b o q => Heap.get?_push_of_some _ q
 show wpAny _ _ _ _ _ { s with heap := h1.push (seqObj "list" acc.toList.toArray 0), toks := tk }
 generalize h1.push (seqObj "list" acc.toList.toArray 0) = g at hoL keep
 refine wpAny_bind (wpAny_holding (wpAny_call_entry slot_list_sort ⟨_, hoL, rfl⟩ entry_list_sort ?body (args_list_sort _)))
 case body =>
  refine list_sort_keep (s:={ s with heap:=g, toks:=tk }) hoL (by omega) (C acc _ g tk hI) (by rw [hlen]; exact O) fun p hp hpw h' c hb hc => ?_
  refine ⟨_, rfl, wpAny_pure ⟨_, rfl, ?_⟩⟩
  rw [hlen] at hp
  exact k acc hI p hp hpw h1 _ h' tk c k1 (Nat.le_refl _) (fun b o e => hb b o (Nat.ne_of_lt (Heap.lt_size e)) (keep b o e)) hc
noncomputable def tltB (a b : Str) : Bool:=decide (a.cps.toList < b.cps.toList)
noncomputable def tleB (a b : Str) : Bool:=decide (a.cps.toList ≤ b.cps.toList)
theorem str_cps {a b : Str} (h : a.cps.toList = b.cps.toList) : a = b:=by
 cases a; cases b
 simp only at h
 congr 1
 exact Array.toList_inj.mp h
theorem str_cmp {a : Addr} {vs : List Value} {ss : List Str} (h : StrsAre vs ss) : Cmp prog w s a vs oneType' (fun i j => tltB (ss.getD i default) (ss.getD j default)):=by
 refine ⟨fun h2 g A E Q hg hQ => ?_, fun h2 g A E Q i j hg hi hj hQ => ?_⟩
 ·match vs, h, h2 with
  | [], _, h2 => simp at h2
  | [_], _, h2 => simp at h2
  | v1 :: v2 :: vs, h, _ =>
   rw [keyKind_strs h]
   exact wpAny_pure hQ
 ·have hl:=h.length
  obtain ⟨t, h1⟩:=h.at (j:=i) (y:=ss.getD i default) (by rw [List.getD_eq_getElem?_getD, List.getElem?_eq_getElem (by omega)]; rfl)
  obtain ⟨u, h3⟩:=h.at (j:=j) (y:=ss.getD j default) (by rw [List.getD_eq_getElem?_getD, List.getElem?_eq_getElem (by omega)]; rfl)
  rw [List.getD_eq_getElem?_getD (l:=vs), List.getD_eq_getElem?_getD (l:=vs), h1, h3, keyLt'_oneType]
  exact oneLt_str hQ
theorem str_ord {ss : List Str} (hn : ss.Nodup) : Ord ss.length (fun i j => tltB (ss.getD i default) (ss.getD j default)):=by
 have apart : ∀ i j, i < ss.length → j < ss.length → i ≠ j → (ss.getD i default).cps.toList ≠ (ss.getD j default).cps.toList:=fun i j hi hj ne e => by
  have e':=str_cps e
  rw [List.getD_eq_getElem?_getD, List.getD_eq_getElem?_getD, List.getElem?_eq_getElem hi, List.getElem?_eq_getElem hj] at e'
  exact ne ((List.getElem_inj hn).mp e')
 refine ⟨fun i j hi hj ne h => ?_, fun i j hi hj h => ?_, fun i j k hi hj hk h1 h2 => ?_⟩
 ·have ha:=apart i j hi hj ne
  simp only [tltB, decide_eq_true_eq, decide_eq_false_iff_not] at *
  have h1:=List.not_lt.mp h
  by_cases h2 : (ss.getD j default).cps.toList < (ss.getD i default).cps.toList
  ·exact h2
  ·exact absurd (List.le_antisymm (List.not_lt.mp h2) h1) ha
 ·simp only [tltB, decide_eq_true_eq, decide_eq_false_iff_not] at *
  exact fun h2 => List.lt_irrefl _ (List.lt_trans h h2)
 ·simp only [tltB, decide_eq_true_eq] at *
  exact List.lt_trans h1 h2
noncomputable def srtS (ss : List Str) : List Str:=ss.mergeSort tleB
theorem srtS_perm (ss : List Str) : (srtS ss).Perm ss:=List.mergeSort_perm _ _
theorem srtS_pw (ss : List Str) : (srtS ss).Pairwise (fun a b => tleB a b = true):=by
 refine List.pairwise_mergeSort (fun a b c h1 h2 => ?_) (fun a b => ?_) ss
 ·simp only [tleB, decide_eq_true_eq] at *
  exact List.le_trans h1 h2
 ·simp only [tleB, Bool.or_eq_true, decide_eq_true_eq]
  exact List.le_total _ _
theorem srtS_uniq {ss qs : List Str} (hp : qs.Perm ss) (hw : qs.Pairwise (fun a b => tltB a b = true)) : qs = srtS ss:=by
 refine List.Perm.eq_of_pairwise (le:=fun a b => tleB a b = true) (fun a b _ _ h1 h2 => ?_) (hw.imp fun {a b} h => ?_) (srtS_pw ss) (hp.trans (srtS_perm ss).symm)
 ·simp only [tleB, decide_eq_true_eq] at h1 h2
  exact str_cps (List.le_antisymm h1 h2)
 ·simp only [tleB, tltB, decide_eq_true_eq] at *
  exact List.not_lt.mp fun h2 => List.lt_irrefl _ (List.lt_trans h h2)
end
end SO
namespace DL
open PySem PySem.Spec PyProof.Rows L2 PySem.W SO
noncomputable def strsD : List D → Option (List Str)
 | [] => some []
 | .str x :: ds => (strsD ds).map (x :: ·)
 | _ :: _ => none
theorem strsD_eq : ∀ {ds : List D} {ss : List Str}, strsD ds = some ss → ds = ss.map D.str
 | [], ss, e => by cases e; rfl
 | d :: ds, ss, e => by
  unfold strsD at e
  split at e
  ·rename_i h; cases h
  ·rename_i x r h
   cases h
   obtain ⟨qs, h1, rfl⟩:=Option.map_eq_some_iff.mp e
   rw [strsD_eq h1]; rfl
  ·cases e
theorem strsD_map : ∀ (ss : List Str), strsD (ss.map D.str) = some ss
 | [] => rfl
 | x :: ss => by
  show (strsD (ss.map D.str)).map (x :: ·) = _
  rw [strsD_map ss]; rfl
noncomputable def sortDF : List D → Sto → Out (List D)
 | [.res i], st => match st[i]? with
  | some (.dct ds) => match strsD (ds.map (·.1)) with
   | some ss => if ss.length < 64 then .ok ((srtS ss).map D.str) st else .bad
   | none => .bad
  | _ => .bad
 | _, _ => .bad
theorem isStr_inv {x : Str} {v : Value} (h : Value.isStrOf x v = true) : ∃ t, v = .str x t:=by
 unfold Value.isStrOf at h
 split at h
 ·rename_i y t
  exact ⟨t, by rw [eq_of_beq h]⟩
 ·cases h
theorem kvs_keys {K : PySem.W.Frag} {O : List Addr} {H : Hp} : ∀ {ds : List (D × D)} {vs : List (Key × V)} {ss : List Str}, Kvs K keyD O H ds vs → ds.map (·.1) = ss.map D.str → vs.map (·.1) = ss.map Sum.inr
 | [], vs, ss, h, e => by
  cases (show vs = [] from h)
  cases ss with
  | nil => rfl
  | cons a b => cases e
 | (k, d) :: ds, vs, ss, h, e => by
  obtain ⟨q, v, r, rfl, hk, hr, ht⟩:=(show ∃ q v r, vs = (q, v) :: r ∧ keyD k = some q ∧ Rep K O H d v ∧ Kvs K keyD O H ds r from h)
  cases ss with
  | nil => cases e
  | cons a b =>
   rw [List.map_cons, List.map_cons] at e
   obtain ⟨e1, e2⟩:=List.cons.inj e
   have e1' : k = D.str a:=e1
   subst e1'
   cases (show some (Sum.inr a) = some q from hk)
   rw [List.map_cons, List.map_cons, kvs_keys ht e2]
theorem strsAre_of : ∀ {vs : List Value} {ss : List Str}, vs.length = ss.length → (∀ (i : Nat) (v : Value) (x : Str), vs[i]? = some v → ss[i]? = some x → ∃ t, v = .str x t) → StrsAre vs ss
 | [], [], _, _ => .nil
 | [], _ :: _, h, _ => by cases h
 | _ :: _, [], h, _ => by cases h
 | v :: vs, x :: ss, h, k => by
  obtain ⟨t, rfl⟩:=k 0 v x rfl rfl
  exact .cons x t (strsAre_of (by simpa using h) fun i v' x' h1 h2 => k (i + 1) v' x' (by simpa using h1) (by simpa using h2))
section
variable {X : Cx} {EX : EXT}
theorem str_new {pins : List (Addr × Obj)} {s : Shared} {σ : L2.St} {H : Hp} {O : List Addr} {st : Sto} {Q : VK} {its : List Value} {ss : List Str} {ix : List Nat} {a : Addr} {h1 h' : Heap} {tk c : Nat} (I : Inv X pins σ H s) (W : WR X.K O H st) (hs : StrsAre its ss)
  (R : Run X.K EX O H (.ok ((srtS ss).map D.str) st) (New X.K Q)) (hp : ix.Perm (List.range ss.length)) (hw : ix.Pairwise (fun i j => tltB (ss.getD i default) (ss.getD j default) = true)) (h64 : ss.length < 64)
  (k1 : ∀ b o, s.heap.get? b = some o → h1.get? b = some o) (ha : h1.objs.size ≤ a) (hk : ∀ b o, h1.get? b = some o → h'.get? b = some o) (hg : h'.get? a = some (seqObj "list" (ix.map fun i => its.getD i .none).toArray c)) :
  ∃ v H', Inv X pins σ H' { s with heap:=h', toks:=tk } ∧ RelV v (.ref a) ∧ Q v H':=by
 have hl:=hs.length
 have hix : ix.map (fun i => ss.getD i default) = srtS ss:=by
  refine srtS_uniq ?_ (List.pairwise_map.mpr hw)
  refine (hp.map (fun i => ss.getD i default)).trans (List.Perm.of_eq ?_)
  refine List.ext_getElem (by simp) fun i h1 h2 => ?_
  simp [List.getD_eq_getElem?_getD, List.getElem?_eq_getElem h2]
 have hb : ∀ i ∈ ix, i < ss.length:=fun i hi => by
  have:=hp.mem_iff.mp hi
  simpa using this
 have I1 : Inv X pins σ H { s with heap:=h1, toks:=tk }:=I.kept k1
 refine ⟨.ref a, upd H a (.lst (ix.map fun i => V.str (ss.getD i default))), I1.laid hk ha ⟨?_, ix.map (fun i => its.getD i .none), c, ?_, hg⟩, rfl, ?_⟩
 ·have h0:=hp.length_eq
  simp only [List.length_map, List.length_range] at h0 ⊢
  rw [sizeLine_eq]
  omega
 ·refine vals_map ix fun i hi => ?_
  have:=hb i hi
  obtain ⟨t, h3⟩:=hs.at (j:=i) (y:=ss.getD i default) (by rw [List.getD_eq_getElem?_getD, List.getElem?_eq_getElem this]; rfl)
  rw [List.getD_eq_getElem?_getD (l:=its), h3]
  exact ⟨t, rfl⟩
 ·refine Run.now (k:=New X.K Q) R W a _ ?_ (I1.hok.fresh ha)
  rw [← hix, List.map_map]
  exact reps_map ix fun i hi => Rep.str_i.mpr rfl
theorem call_sortDF (hc : X.calm = true) : CallF X EX (.builtin "sorted") sortDF := by
 intro pins s σ H xs us Q I rx h
 obtain ⟨O, ds, st, W, r, R⟩:=h
 unfold sortDF at R
 split at R
 ·rename_i i
  obtain ⟨v, rfl, rv⟩:=r.one_of
  rw [Rep.res_i] at rv
  obtain ⟨a, rfl, q⟩:=rv
  split at R
  ·rename_i kvs hk
   obtain ⟨vs, e2, kv⟩:=W.at_ _ _ _ q hk
   split at R
   ·rename_i ss hss
    have hkeys:=kvs_keys kv (strsD_eq hss)
    by_cases h64 : ss.length < 64
    ·rw [if_pos h64] at R
     cases rx with
     | cons r0 rt =>
      cases rt
      cases r0
      obtain ⟨z, hd, ws, rel, o, es, ep, g1, g2, g3, g4, g5, g6⟩:=dk_rd I.hok (.inl e2)
      have hwk : ws.map (·.1) = ss.map Sum.inr:=by rw [← rel.keys]; exact hkeys
      have hlen : ws.length = ss.length:=by
       have:=congrArg List.length hwk
       simpa using this
      have hnd : ss.Nodup:=by
       rw [hwk] at g6
       exact (List.pairwise_map.mp g6).imp fun h e => h (by rw [e])
      have src:=kdl_dict (knd:=mixKind X.prog X.w) (d:=a) (kvs:=ws) (ep:=ep) hd
      have sAll : ∀ acc : Array Value, ItemsOf (fun i v => ∃ k x, ws[i]? = some (k, x) ∧ (mixKind X.prog X.w).is k v = true) acc ws.length → StrsAre acc.toList ss:=by
       intro acc hI
       refine strsAre_of (by rw [Array.length_toList, hI.1, hlen]) fun i v x h1 h2 => ?_
       obtain ⟨k, y, h3, h4⟩:=hI.2 i v (by simpa using h1)
       have h5 : (ws.map (·.1))[i]? = some k:=by rw [List.getElem?_map, h3]; rfl
       rw [hwk, List.getElem?_map, h2] at h5
       cases h5
       exact isStr_inv h4
      refine sorted_src (κ:=oneType') (lt:=fun i j => tltB (ss.getD i default) (ss.getD j default)) src (I.ok.hd hc) ⟨o, es, g1, g2, g3, g4, g5, g6⟩ (by omega) (fun vs a h' tk hI => str_cmp (sAll vs hI)) (by rw [hlen]; exact str_ord hnd) fun acc hI ix hp hw h1 b h' tk c k1 hb hk hg => ?_
      rw [hlen] at hp
      exact str_new I W (sAll acc hI) R hp hw h64 k1 hb hk hg
    ·rw [if_neg h64] at R; exact R.elim
   ·exact R.elim
  ·exact R.elim
 ·exact R.elim
end
end DL
end
section
set_option maxHeartbeats 2000000
namespace DL
open PySem PySem.Spec PyProof.Rows L2
section
variable {K : PySem.W.Frag} {O : List Addr} {H : Hp}
noncomputable def RPs (K : PySem.W.Frag) (O : List Addr) (H : Hp) : List (D × D) → List (V × V) → Prop
 | [], vs => vs = []
 | p :: ps, vs => ∃ x y r, vs = (x, y) :: r ∧ Rep K O H p.1 x ∧ Rep K O H p.2 y ∧ RPs K O H ps r
theorem RPs.mono {O' : List Addr} {H' : Hp} (k : Keep K O H O' H') : ∀ {ps : List (D × D)} {vs : List (V × V)}, RPs K O H ps vs → RPs K O' H' ps vs
 | [], vs, h => h
 | p :: ps, vs, h => by
  obtain ⟨x, y, r, e, hx, hy, ht⟩:=(show ∃ x y r, vs = (x, y) :: r ∧ Rep K O H p.1 x ∧ Rep K O H p.2 y ∧ RPs K O H ps r from h)
  exact ⟨x, y, r, e, Rep.mono k _ _ hx, Rep.mono k _ _ hy, RPs.mono k ht⟩
end
section
variable {X : Cx} {EX : EXT} {e o i : Expr} {fo fi fe : DE} {pos apos cpos : Pos}
noncomputable def isDct (st : Sto) (d : D) : Bool:=match d with
 | .res i => match st[i]? with
  | some (.dct _) => true
  | some (.dtt _) => true
  | _ => false
 | _ => false
theorem isDct_ok {K : PySem.W.Frag} {O : List Addr} {H : Hp} {st : Sto} {d : D} {x : V} (W : WR K O H st) (h : isDct st d = true) (r : Rep K O H d x) : ∃ a, x = .ref a ∧ IsD H a:=by
 unfold isDct at h
 split at h
 ·rename_i j
  rw [Rep.res_i] at r
  obtain ⟨a, rfl, q⟩:=r
  split at h
  ·rename_i ds e
   obtain ⟨vs, e2, _⟩:=W.at_ _ _ _ q e
   exact ⟨a, rfl, .inl ⟨vs, .inl e2⟩⟩
  ·rename_i ds e
   obtain ⟨vs, e2, _⟩:=W.at_ _ _ _ q e
   exact ⟨a, rfl, .inr ⟨vs, .inl e2⟩⟩
  ·cases h
 ·cases h
noncomputable def dGet1 (fo fi : DE) : DE:=fun ρ st => (fo ρ st).bind fun d st1 => if isDct st1 d = true then (fi ρ st1).bind fun k st2 => (match dAt st2 d k with
 | some o => .ok (o.getD .non) st2
 | none => .bad) else .bad
theorem pd_dget1 (hu : X.A.units + 64 < cLine) (ho : PD X EX o fo) (hi : PD X EX i fi) (m : M1 X o "get" apos i cpos := by exact ⟨rfl, rfl, rfl, rfl⟩) : PD X EX (.Call (.Attribute o "get" apos) [i] [] cpos) (dGet1 fo fi) := by
 refine PE.mono (pe_dget1 (by omega) ho hi m) ?_
 rintro σ H Q ⟨O, ρ, st, W, E, R⟩
 refine ⟨O, ρ, st, W, E, R.bind.mono fun d st1 O1 H1 k1 W1 R1 x rx => ?_⟩
 by_cases hd : isDct st1 d = true
 ·rw [if_pos hd] at R1
  obtain ⟨a, rfl, ia⟩:=isDct_ok W1 hd rx
  refine ⟨a, rfl, ia, O1, ρ, st1, W1, E.mono k1, R1.bind.mono fun k st2 O2 H2 k2 W2 R2 y ry => ?_⟩
  split at R2
  ·rename_i ov hv
   obtain ⟨a', w, e, g, rel⟩:=dAt_ok W2 hv (Rep.mono k2 _ _ rx) ry
   cases e
   refine ⟨w, g, ?_⟩
   cases ov with
   | none =>
    cases w with
    | none => exact Run.now (k:=Val X.K Q) R2 W2 _ (Rep.non_i.mpr rfl)
    | some _ => exact rel.elim
   | some z =>
    cases w with
    | none => exact rel.elim
    | some w => exact Run.now (k:=Val X.K Q) R2 W2 _ rel
  ·exact R2.elim
 ·rw [if_neg hd] at R1; exact R1.elim
noncomputable def dictD : List D → Sto → Out D
 | [.res i], st => match st[i]? with
  | some (.dct ds) => .ok (.res st.length) (st ++ [.dct ds])
  | _ => .bad
 | _, _ => .bad
theorem call_dictD : CallD X EX (.type "dict") dictD := by
 intro pins s σ H xs us Q I rx h
 obtain ⟨O, ds, st, W, r, R⟩:=h
 unfold dictD at R
 split at R
 ·rename_i j
  obtain ⟨v, rfl, rv⟩:=r.one_of
  rw [Rep.res_i] at rv
  obtain ⟨a, rfl, q⟩:=rv
  split at R
  ·rename_i kvs hk
   obtain ⟨vs, e2, kv⟩:=W.at_ _ _ _ q hk
   cases rx with
   | cons r0 rt =>
    cases rt
    cases r0
    refine d_copyOf I (.inl e2) fun p s' hp I' => ⟨.ref p, _, I', rfl, ?_⟩
    have kp : Keep X.K O H (O ++ [p]) (upd H p (.dK vs)):=Keep.push hp
    exact R (O ++ [p]) _ kp (W.push' hp ⟨vs, upd_same, Kvs.mono kp _ _ kv⟩) _ (Rep.res_i.mpr ⟨p, rfl, by rw [← W.len]; simp⟩)
  ·exact R.elim
 ·exact R.elim
end
section
variable {fo fi fe : DE} {ρ : Ev} {st : Sto}
theorem z_dGet1 : dGet1 fo fi ρ st = (fo ρ st).bind fun d st1 => if isDct st1 d = true then (fi ρ st1).bind fun k st2 => (match dAt st2 d k with
 | some o => .ok (o.getD .non) st2
 | none => .bad) else .bad:=rfl
end
end DL
end
section
set_option maxHeartbeats 2000000
namespace HT
open PySem PyProof.Rows
noncomputable def maxI : Int → List Int → Int
 | m, [] => m
 | m, a :: r => maxI (if m < a then a else m) r
theorem maxI_ge : ∀ (r : List Int) (m : Int), m ≤ maxI m r
 | [], m => Int.le_refl m
 | a :: r, m => by
  have h:=maxI_ge r (if m < a then a else m)
  show m ≤ maxI (if m < a then a else m) r
  split at h <;> rename_i h1 <;> simp only [h1, if_true, if_false] <;> omega
theorem maxI_all : ∀ (r : List Int) (m a : Int), a ∈ r → a ≤ maxI m r
 | b :: r, m, a, h => by
  show a ≤ maxI (if m < b then b else m) r
  rcases List.mem_cons.mp h with rfl | h
  ·have h2:=maxI_ge r (if m < a then a else m)
   split at h2 <;> rename_i h1 <;> simp only [h1, if_true, if_false] <;> omega
  ·exact maxI_all r _ a h
theorem maxI_mem : ∀ (r : List Int) (m : Int), maxI m r = m ∨ maxI m r ∈ r
 | [], m => .inl rfl
 | b :: r, m => by
  show maxI (if m < b then b else m) r = m ∨ maxI (if m < b then b else m) r ∈ b :: r
  rcases maxI_mem r (if m < b then b else m) with h | h
  ·rw [h]
   split
   ·exact .inr List.mem_cons_self
   ·exact .inl rfl
  ·exact .inr (List.mem_cons_of_mem _ h)
theorem maxI_uniq {m M : Int} {r : List Int} (h1 : M ∈ m :: r) (h2 : ∀ a ∈ m :: r, a ≤ M) : M = maxI m r:=by
 have h3 : M ≤ maxI m r:=by
  rcases List.mem_cons.mp h1 with rfl | h
  ·exact maxI_ge r M
  ·exact maxI_all r m M h
 have h4 : maxI m r ≤ M:=by
  rcases maxI_mem r m with h | h
  ·rw [h]; exact h2 m List.mem_cons_self
  ·exact h2 _ (List.mem_cons_of_mem _ h)
 omega
section
variable {prog : Program} {w : World} {A : Around} {E : Value → Shared → Prop} {s : Shared} {l : Addr} {vs : List Value}
theorem max_kept {ns : List Int} {Q : Value → Shared → Prop} (hh : A.handled = none) (hl : s.heap.IsList l vs.toArray) (hlen : vs.length = ns.length) (hget : ∀ (i : Nat) (n : Int), ns[i]? = some n → ∃ t, vs[i]? = some (Value.int n t)) (h0 : 0 < ns.length)
  (h : ∀ M, M ∈ ns → (∀ a ∈ ns, a ≤ M) → ∀ h' tk t, (∀ b x, s.heap.get? b = some x → h'.get? b = some x) → Q (.int M t) { s with heap := h', toks := tk }) : wpAny (model prog w) A (call (.builtin "max") [.ref l]) Q E s := by
 have hlt : l < s.heap.objs.size:=by obtain ⟨_, e, _⟩:=hl; exact Heap.lt_size e
 have val : ∀ (i : Nat) (v : Value), vs.toArray[i]? = some v → ∃ t, v = Value.int (ns.getD i 0) t:=fun i v hv => by
  have hv' : vs[i]? = some v:=by simpa using hv
  have hi : i < ns.length:=by
   have:=(List.getElem?_eq_some_iff.mp hv').1
   omega
  obtain ⟨t, ht⟩:=hget i (ns.getD i 0) (by rw [List.getD_eq_getElem?_getD, List.getElem?_eq_getElem hi]; rfl)
  rw [hv'] at ht
  exact ⟨t, Option.some.inj ht⟩
 refine call_max_walk (wpAny_pyIter_list hl ?_)
 refine ⟨s.heap.objs.size, [s.heap.objs.size, l], [s.heap.objs.size], vs.toArray.size, _, _, _, rfl, Walks.list (A:=A.in1) hh _ l (Nat.ne_of_lt hlt) vs.toArray, ⟨⟨_, Heap.get?_push_size _ rfl, rfl, rfl⟩, hl.push _⟩, fun b hb => ?_, by simp; omega, CmpOf.ints_gt (fun i => ns.getD i 0) val, fun v h' tk hP hk => ?_⟩
 ·have hsz : (s.heap.push { cls := Value.type "list_iterator", data := Data.fields #[Value.ref l, Value.int 0 0] }).objs.size = s.heap.objs.size + 1 := by
   simp [Heap.push]
  show b < (s.heap.push { cls := Value.type "list_iterator", data := Data.fields #[Value.ref l, Value.int 0 0] }).objs.size
  rw [hsz]
  rcases List.mem_cons.mp hb with rfl | hb
  ·exact Nat.lt_succ_self _
  ·rw [List.mem_singleton.mp hb]
   exact Nat.lt_succ_of_lt hlt
 ·obtain ⟨t, rfl⟩:=val _ _ hP
  have hb:=argBest_gt (fun i => ns.getD i 0) (vs.toArray.size - 1)
  generalize argBest (fun i j => decide (ns.getD i 0 > ns.getD j 0)) (vs.toArray.size - 1) = k at *
  have hsz : vs.toArray.size = ns.length:=by simp; omega
  have hkn : k < ns.length:=by omega
  refine h _ ?_ (fun a ha => ?_) h' tk t (fun b x e => hk b x ?_ (Heap.get?_push_of_some _ e))
  ·rw [List.getD_eq_getElem?_getD, List.getElem?_eq_getElem hkn]
   exact List.getElem_mem hkn
  ·obtain ⟨j, hj, rfl⟩:=List.mem_iff_getElem.mp ha
   have:=hb.2 j (by omega)
   rw [List.getD_eq_getElem?_getD (l:=ns) (i:=j), List.getElem?_eq_getElem hj] at this
   exact this
  ·intro hm
   rw [List.mem_singleton.mp hm] at e
   exact absurd (Heap.lt_size e) (Nat.lt_irrefl _)
end
end HT
namespace DL
open PySem PySem.Spec PyProof.Rows L2
noncomputable def intsD : List D → Option (List Int)
 | [] => some []
 | .int x :: ds => (intsD ds).map (x :: ·)
 | _ :: _ => none
theorem intsD_eq : ∀ {ds : List D} {ns : List Int}, intsD ds = some ns → ds = ns.map D.int
 | [], ss, e => by cases e; rfl
 | d :: ds, ss, e => by
  unfold intsD at e
  split at e
  ·rename_i h; cases h
  ·rename_i x r h
   cases h
   obtain ⟨qs, h1, rfl⟩:=Option.map_eq_some_iff.mp e
   rw [intsD_eq h1]; rfl
  ·cases e
theorem intsD_map : ∀ (ns : List Int), intsD (ns.map D.int) = some ns
 | [] => rfl
 | x :: ns => by
  show (intsD (ns.map D.int)).map (x :: ·) = _
  rw [intsD_map ns]; rfl
noncomputable def maxLD : List D → Sto → Out D
 | [d], st => match seqL st d with
  | some xs => match intsD xs with
   | some (m :: r) => .ok (.int (HT.maxI m r)) st
   | _ => .bad
  | none => .bad
 | _, _ => .bad
section
variable {X : Cx} {EX : EXT}
theorem call_maxLD (hc : X.calm = true) : CallD X EX (.builtin "max") maxLD := by
 intro pins s σ H xs us Q I rx h
 obtain ⟨O, ds, st, W, r, R⟩:=h
 unfold maxLD at R
 split at R
 ·rename_i d
  obtain ⟨v, rfl, rv⟩:=r.one_of
  split at R
  ·rename_i zs e
   split at R
   ·rename_i m rr hss
    obtain ⟨p, vs, rfl, q, rs⟩:=rdL W rv e
    have hzs:=intsD_eq hss
    subst hzs
    cases rx with
    | cons r0 rt =>
     cases rt
     cases r0
     obtain ⟨its, rv', pl, hz⟩:=I.list q
     have hl1:=rv'.length
     have hl2:=rs.length
     rw [List.length_map] at hl2
     refine HT.max_kept (ns:=m :: rr) (I.ok.hd hc) pl.isList (by omega) (fun i n hn => ?_) (by simp) fun M hM hA h' tk t hk => ?_
     ·obtain ⟨y, h3, h4⟩:=rs.get (i:=i) (d:=D.int n) (by rw [List.getElem?_map, hn]; rfl)
      rw [Rep.int_i] at h4
      subst h4
      obtain ⟨u, h5, t, h6⟩:=rv'.get h3
      subst h6
      exact ⟨t, h5⟩
     ·rw [HT.maxI_uniq hM hA]
      exact ⟨.int _, H, I.kept hk, ⟨t, rfl⟩, Run.now (k:=Val X.K Q) R W _ (Rep.int_i.mpr rfl)⟩
   ·exact R.elim
  ·exact R.elim
 ·exact R.elim
end
end DL
namespace DL
open PySem PySem.Spec PyProof.Rows L2
noncomputable def sPar (i j : Nat) (f : DA) : DS:=fun ρ st => (f ρ st).to fun ds st1 => match ds with
 | [a, b] => .nx ((ρ.set i (some a)).set j (some b)) st1
 | _ => .bad
section
variable {X : Cx} {EX : EXT} {pos : Pos}
theorem pd_par (i j : Nat) {x y : Str} {a b : Expr} {f : DA} {px py pt : Pos} {kt k2 pt2} (hN : X.N.Nodup) (hi : X.N[i]? = some x) (hj : X.N[j]? = some y) (ha : PDA X EX [a, b] f) (hij : i ≠ j:=by decide) (hc : X.calm = true:=by rfl)
  (hx : X.env.scope.names.lookup x = some .local:=by rfl) (hy : X.env.scope.names.lookup y = some .local:=by rfl)
  (hw : swappedStores [.Tuple [.Name x px, .Name y py] kt pt] (.Tuple [a, b] k2 pt2) X.env = pure (some [x, y]):=by rfl)
  (hs : swapsWithSole [.Tuple [.Name x px, .Name y py] kt pt] (.Tuple [a, b] k2 pt2) pos.line X.env = pure false:=by rfl) :
  PDs X EX (.Assign [.Tuple [.Name x px, .Name y py] kt pt] (.Tuple [a, b] k2 pt2) pos) (sPar i j f):=by
 refine PS.mono (ps_par hc hN hi hj hij hx hy ha hw hs) ?_
 rintro Dn σ H ⟨O, ρ, st, W, E, R⟩
 refine ⟨O, ρ, st, W, E, R.to.mono fun ds st1 O1 H1 k1 W1 R1 vs rs => ?_⟩
 split at R1
 ·rename_i d e
  obtain ⟨v, w, rfl, r1, r2⟩:=rs.two_of
  exact ⟨v, w, rfl, R1 O1 H1 _ Keep.refl W1 (((E.mono k1).set r1).set r2)⟩
 ·exact R1.elim
end
theorem z_sPar {i j : Nat} {f : DA} {ρ : Ev} {st : Sto} : sPar i j f ρ st = (f ρ st).to fun ds st1 => match ds with
 | [a, b] => .nx ((ρ.set i (some a)).set j (some b)) st1
 | _ => .bad:=rfl
end DL
namespace DL
open PySem PySem.Spec PyProof.Rows L2
end DL
end
section
set_option maxHeartbeats 2000000
namespace L2
open PySem PySem.Spec PyProof.Rows
section
variable {X : Cx} {tg : Expr}
end
end L2
namespace DL
open PySem PySem.Spec PyProof.Rows L2
section
variable {X : Cx} {EX : EXT} {tg a b c : Expr} {g : DA} {pos p : Pos}
end
end DL
end
section
namespace DL
open PySem PySem.Spec PyProof.Rows L2
structure InsT (K : PySem.W.Frag) (C : Addr) (T : String) : Prop where
 ha : PySem.W.findIn K (.ref C) "__class__" = some (some (.builtin "object.__class__"))
 hn : PySem.W.specialIn K (.builtin "object.__class__") "__get__" = some (some (.builtin "getset_descriptor.__get__"))
 htk : PySem.W.takesIn K (.builtin "object.__class__") = some true
 hm : PySem.W.mroIn K C (.type "object") = some true
 ki : PySem.W.kitOne K (.ref C) (.type T) = some false
section
variable {X : Cx} {EX : EXT} {e : Expr} {fa : DE} {pos p pT : Pos} {C : Addr}
noncomputable def dInstI (T : String) (C : Addr) (f : DE) : DE:=fun ρ st => (f ρ st).bind fun d st1 => match tyName d with
 | some t => .ok (.bl (subTy t T)) st1
 | none => match insAt C st1 d with
  | some _ => .ok (.bl false) st1
  | none => .bad
theorem pd_instI {x : Str} {T : String} (hT : T ∈ clNames) (cl : Cls X.K C) (ci : InsT X.K C T) (he : PD X EX e fa) (hg : Gl X "isinstance") (hm : X.mg "isinstance" = none) (hgT : Gl X x) (hmT : X.mg x = none) (hvT : bootBuiltins x = some (.type T)) (hn : x ≠ "__name__" := by decide) (hdb : (x == ("__debug__" : Str)) = false := by decide)
  (hs : starEach [e, .Name x pT] X.env = (false, eval e X.env) :: starEach [.Name x pT] X.env:=by rfl) (hs1 : starEach [.Name x pT] X.env = (false, eval (.Name x pT) X.env) :: starEach [] X.env:=by rfl) (hpl : (backTo pos (starEach [.Name x pT] X.env)).any (·.1) = false:=by rfl) :
  PD X EX (.Call (.Name "isinstance" p) [e, .Name x pT] [] pos) (dInstI T C fa) := by
 have hc : CallR X (.builtin "isinstance") (fun xs H Q => ∃ v, xs = [v, .ty T] ∧ ((∃ O d st t, WR X.K O H st ∧ Rep X.K O H d v ∧ tyName d = some t ∧ Q (.bl (subTy t T)) H) ∨ (∃ a dx fs, v = .ref a ∧ H a = some (.ins C dx fs) ∧ Q (.bl false) H))) := by
  intro pins s σ H xs us Q I r h
  obtain ⟨v, rfl, h⟩:=h
  obtain ⟨u, w, rfl, ru, rw'⟩:=vals2 r
  cases rw'
  rcases h with ⟨O, d, st, t, W, rd, ht, q⟩ | ⟨a, dx, fs, rfl, hH, q⟩
  ·exact inst_ok I W rd ru ht hT fun tk => ⟨.bl _, H, I.tok tk, rfl, q⟩
  ·exact isinst_ok I ru (.ins hH cl ci.ha ci.hn ci.htk ci.hm) ci.ki fun tk => ⟨.bl _, H, I.tok tk, rfl, q⟩
 refine PE.mono (pe_callB hc hg hm PyProof.Rows.boot_isinstance (pa_cons he (pa_cons (pe_bltn hgT hmT hvT (v:=.ty T) rfl hn hdb) pa_nil hs1) hs) (by decide) (by decide) hs hpl) ?_
 rintro σ H Q ⟨O, ρ, st, W, E, R⟩
 refine ⟨O, ρ, st, W, E, R.bind.mono fun d st1 O1 H1 k1 W1 R1 v r => ?_⟩
 cases ht : tyName d with
 | some t =>
  rw [ht] at R1
  exact ⟨v, rfl, .inl ⟨O1, d, st1, t, W1, r, ht, Run.now (k:=Val X.K Q) R1 W1 _ (Rep.bl_i.mpr rfl)⟩⟩
 | none =>
  rw [ht] at R1
  cases e : insAt C st1 d with
  | none => dsimp only at R1; rw [e] at R1; exact R1.elim
  | some q =>
   obtain ⟨i, fs⟩:=q
   dsimp only at R1
   rw [e] at R1
   obtain ⟨rfl, a, dx, vfs, rfl, ho, hH, hf⟩:=insAt_rd W1 r e
   exact ⟨_, rfl, .inr ⟨a, dx, vfs, rfl, hH, Run.now (k:=Val X.K Q) R1 W1 _ (Rep.bl_i.mpr rfl)⟩⟩
end
end DL
end
section
namespace DL
open PySem PySem.Spec PyProof.Rows L2
mutual
noncomputable def nice : Nat → D → Bool
 | 0, _ => false
 | _ + 1, .non => true
 | _ + 1, .int _ => true
 | _ + 1, .str _ => true
 | n + 1, .tup xs => niceL n xs
 | n + 1, .lst xs => niceL n xs
 | _ + 1, _ => false
noncomputable def niceL : Nat → List D → Bool
 | _, [] => true
 | n, x :: xs => nice n x && niceL n xs
end
theorem niceL_all (n : Nat) : ∀ xs : List D, niceL n xs = true ↔ ∀ x ∈ xs, nice n x = true
 | [] => by simp [niceL]
 | x :: xs => by simp [niceL, niceL_all n xs]
open Classical in
theorem eqItems_nice {f : D → D → Option Bool} : ∀ (xs ys : List D), (∀ x ∈ xs, ∀ y ∈ ys, f x y = some (decide (x = y))) → eqItems f xs ys = some (decide (xs = ys))
 | [], [], _ => by simp [eqItems]
 | [], y :: ys, _ => by simp [eqItems]
 | x :: xs, [], _ => by simp [eqItems]
 | x :: xs, y :: ys, h => by
  unfold eqItems
  rw [h x List.mem_cons_self y List.mem_cons_self, eqItems_nice xs ys fun a ha b hb => h a (List.mem_cons_of_mem _ ha) b (List.mem_cons_of_mem _ hb)]
  by_cases h1 : x = y <;> by_cases h2 : xs = ys <;> simp [h1, h2]
open Classical in
theorem eqN_nice (st : Sto) : ∀ (n : Nat) (a b : D), nice n a = true → nice n b = true → eqN st n a b = some (decide (a = b))
 | 0, a, b, h, _ => by cases a <;> simp [nice] at h
 | n + 1, a, b, ha, hb => by
  unfold eqN
  cases a <;> cases b <;> simp only [nice, Bool.false_eq_true] at ha hb <;> simp only [kd]
  case tup.tup xs ys =>
   rw [eqItems_nice xs ys fun x hx y hy => eqN_nice st n x y ((niceL_all n xs).mp ha x hx) ((niceL_all n ys).mp hb y hy)]
   simp
  case lst.lst xs ys =>
   rw [eqItems_nice xs ys fun x hx y hy => eqN_nice st n x y ((niceL_all n xs).mp ha x hx) ((niceL_all n ys).mp hb y hy)]
   simp
  all_goals simp [Bool.beq_eq_decide_eq]
open Classical in
theorem eqD_nice {a b : D} {st : Sto} (ha : nice depth a = true) (hb : nice depth b = true) : eqD a b st = .ok (.bl (decide (a = b))) st:=by
 unfold eqD; rw [eqN_nice st depth a b ha hb]
open Classical in
theorem neD_nice {a b : D} {st : Sto} (ha : nice depth a = true) (hb : nice depth b = true) : neD a b st = .ok (.bl (!decide (a = b))) st:=by
 unfold neD; rw [eqN_nice st depth a b ha hb]
noncomputable def pl (ws : List Str) : D:=.tup (ws.map .str)
theorem niceL_str (n : Nat) (ws : List Str) : niceL (n + 1) (ws.map .str) = true:=by
 rw [niceL_all]
 intro x hx
 obtain ⟨w, _, rfl⟩:=List.mem_map.mp hx
 rfl
theorem nice_pl (n : Nat) (ws : List Str) : nice (n + 2) (pl ws) = true:=niceL_str n ws
theorem nice_pl' (ws : List Str) : nice depth (pl ws) = true:=nice_pl 48 ws
theorem str_inj {ws us : List Str} : ws.map D.str = us.map D.str ↔ ws = us:=by
 constructor
 ·intro h
  have : (ws.map D.str).map (fun d => match d with | .str x => x | _ => ("" : Str)) = (us.map D.str).map (fun d => match d with | .str x => x | _ => ("" : Str)) := by rw [h]
  simpa [List.map_map, Function.comp_def] using this
 ·intro h; rw [h]
theorem pl_inj {ws us : List Str} : pl ws = pl us ↔ ws = us:=by
 unfold pl
 rw [D.tup.injEq]
 exact str_inj
theorem eqD_pl (ws us : List Str) (st : Sto) : eqD (pl ws) (pl us) st = .ok (.bl (decide (ws = us))) st:=by
 rw [eqD_nice (nice_pl' ws) (nice_pl' us)]
 congr 2
 exact decide_eq_decide.mpr pl_inj
theorem items_pl (ws : List Str) (st : Sto) : itemsOf st (pl ws) = some (ws.map .str):=rfl
theorem len_pl (ws : List Str) (st : Sto) : lenD [pl ws] st = .ok (.int ws.length) st:=by
 simp [lenD, pl, itemsOf]
theorem add_pl (ws us : List Str) (st : Sto) (h : ws.length + us.length ≤ small) : addD (pl ws) (pl us) st = .ok (pl (ws ++ us)) st:=by
 simp [addD, pl, h]
theorem cutL_map {α β : Type} (f : α → β) (xs : List α) (lo hi : Option Int) : cutL (xs.map f) lo hi = (cutL xs lo hi).map f:=by
 simp [cutL, List.map_take, List.map_drop]
theorem cut_pl (ws : List Str) (lo hi : Option Int) (st : Sto) : cutT (pl ws) lo hi st = .ok (pl (cutL ws lo hi)) st:=by
 simp [cutT, pl, cutL_map]
theorem cutL_to {α : Type} (xs : List α) (n : Nat) : cutL xs none (some (n : Int)) = xs.take n:=by
 unfold cutL
 rw [HT.sIx_none, HT.sIx_nat, List.drop_zero, Nat.sub_zero]
 by_cases h : n ≤ xs.length
 ·rw [Nat.min_eq_left h]
 ·rw [Nat.min_eq_right (by omega), List.take_length, List.take_of_length_le (by omega)]
theorem cutL_from {α : Type} (xs : List α) (n : Nat) : cutL xs (some (n : Int)) none = xs.drop n:=by
 unfold cutL
 rw [HT.sIx_none, HT.sIx_nat]
 by_cases h : n ≤ xs.length
 ·rw [Nat.min_eq_left h, List.take_of_length_le (by simp)]
 ·rw [Nat.min_eq_right (by omega), Nat.sub_self, List.take_zero, List.drop_eq_nil_of_le (by omega)]
theorem tuple_lst (xs : List D) (st : Sto) : tupleD [.lst xs] st = .ok (.tup xs) st:=rfl
theorem compD_map {chk : Sto → Prop} {t : TgD} {fe : DE} {st : Sto} (IE : Ev → Prop) (h : D → D) (hc : chk st) : ∀ (xs : List D) (ρ : Ev) (acc : List D), IE ρ → acc.length + xs.length ≤ small →
  (∀ x ∈ xs, ∀ ρ, IE ρ → ∃ ρ1, t x ρ = some ρ1 ∧ IE ρ1 ∧ fe ρ1 st = .ok (h x) st) → compD chk t dTrue fe xs ρ st acc = .ok (acc ++ xs.map h) st
 | [], ρ, acc, _, _, _ => by simp [compD, hc]
 | x :: xs, ρ, acc, hI, hl, hx => by
  obtain ⟨ρ1, e1, h1, e2⟩:=hx x List.mem_cons_self ρ hI
  unfold compD
  rw [if_pos ⟨hc, by simp at hl; omega⟩, e1]
  dsimp only [dTrue]
  rw [e2]
  dsimp only
  rw [compD_map IE h hc xs ρ1 (acc ++ [h x]) h1 (by simp at hl ⊢; omega) fun y hy => hx y (List.mem_cons_of_mem _ hy)]
  simp
theorem loop_nil {chk : Sto → Prop} {t : TgD} {g : DS} {ρ : Ev} {st : Sto} (hc : chk st) : loopD chk t g [] ρ st = .nx ρ st:=by
 unfold loopD; rw [if_pos hc]
theorem loop_nx {chk : Sto → Prop} {t : TgD} {g : DS} {x : D} {xs : List D} {ρ ρ1 ρ2 : Ev} {st st2 : Sto} (hc : chk st) (ht : t x ρ = some ρ1) (hg : g ρ1 st = .nx ρ2 st2) : loopD chk t g (x :: xs) ρ st = loopD chk t g xs ρ2 st2:=by
 rw [loopD, if_pos hc, ht]; dsimp only; rw [hg]
theorem mulOk_r (i j : Int) (h1 : -(2 ^ 64) < j) (h2 : j < 2 ^ 64) : mulOk i j = true:=by
 unfold mulOk
 rw [decide_eq_true h1, decide_eq_true h2]
 simp
theorem mulOk_l (i j : Int) (h1 : -(2 ^ 64) < i) (h2 : i < 2 ^ 64) : mulOk i j = true:=by
 unfold mulOk
 rw [decide_eq_true h1, decide_eq_true h2]
 simp
theorem mul2_int (i j : Int) (st : Sto) (h : mulOk i j = true) : mul2D (.int i) (.int j) st = .ok (.int (i * j)) st:=by
 simp [mul2D, mulD, intOp, h]
theorem mod_int (i j : Int) (st : Sto) (h : 0 < j) : modD (.int i) (.int j) st = .ok (.int (i % j)) st:=by
 simp [modD, intOp, h]
theorem fdiv_int (i j : Int) (st : Sto) (h : 0 < j) (h2 : j < 1073741824) : fdivD (.int i) (.int j) st = .ok (.int (i / j)) st:=by
 have e : divOk i j = true:=@decide_eq_true (0 < j ∧ j < 1073741824) (Classical.propDecidable _) ⟨h, h2⟩
 simp [fdivD, intOp, e]
theorem addD_int (a b : Int) (st : Sto) : addD (.int a) (.int b) st = .ok (.int (a + b)) st:=rfl
theorem subD_int (a b : Int) (st : Sto) : subD (.int a) (.int b) st = .ok (.int (a - b)) st:=rfl
theorem law_sp {K : PySem.W.Frag} {F : FD} (hF : ∀ ns : List Int, ns.length ≤ 63 → ∃ st, F [.scr (ns.map .int)] [] = .ok (.bl true) st) (H : Hp) (a : Addr) (ns : List Int) (hl : ns.length ≤ 63) (ho : Only H) (hs : SqL K H a (ns.map V.int)) :
  spD K F [.ref a] H (fun v _ => v = .bl true) fun _ _ _ => False:=by
 obtain ⟨st, e⟩:=hF ns hl
 refine ⟨[], [.scr (ns.map .int)], [], ⟨rfl, List.nodup_nil, fun i a s h => by simp at h⟩, Reps.one (Rep.scr_i.mpr ⟨a, _, rfl, SqF.of hs ?_, ?_⟩), ?_⟩
 ·rcases ho a with h | ⟨o, xs, h⟩ <;> rw [h] <;> intro z <;> cases z
 ·have : ∀ (ms : List Int), Reps K [] H (ms.map D.int) (ms.map V.int):=by
   intro ms
   induction ms with
   | nil => exact Reps.nil_i.mpr rfl
   | cons m ms ih => exact Reps.cons_i.mpr ⟨_, _, rfl, Rep.int_i.mpr rfl, ih⟩
  exact this ns
 ·rw [e]
  exact fun O' H' _ _ v r => Rep.bl_i.mp r
section
variable {α β : Type} {ρ : Ev} {st : Sto} {f fa fb fc fo : DE} {ta tb t : DT} {g g' : DS} {da : DA} {i : Nat} {G : D → D → Sto → Out D} {H : D → D → Sto → Out (List D)}
@[simp] theorem z_bind_ok (a : α) (st : Sto) (k : α → Sto → Out β) : (Out.ok a st).bind k = k a st:=rfl
@[simp] theorem z_bind_bad (k : α → Sto → Out β) : (Out.bad : Out α).bind k = .bad:=rfl
@[simp] theorem z_to_ok (a : α) (st : Sto) (k : α → Sto → OutS) : (Out.ok a st).to k = k a st:=rfl
@[simp] theorem z_var : dVar i ρ st = match ρ[i]? with
 | some (some d) => .ok d st
 | _ => .bad:=rfl
@[simp] theorem z_C (d : D) : dC d ρ st = .ok d st:=rfl
@[simp] theorem z_bin : dBin G fa fb ρ st = (fa ρ st).bind fun x st1 => (fb ρ st1).bind fun y st2 => G x y st2:=rfl
@[simp] theorem z_binF : dBinF H fa fb ρ st = (fa ρ st).bind fun x st1 => (fb ρ st1).bind fun y st2 => H x y st2:=rfl
@[simp] theorem z_B : dB f ρ st = (f ρ st).bind asB:=rfl
@[simp] theorem z_asB (b : Bool) : asB (.bl b) st = .ok b st:=rfl
@[simp] theorem z_asInt (b : Int) : asInt (.int b) st = .ok (some b) st:=rfl
@[simp] theorem z_and : dAnd ta tb ρ st = (ta ρ st).bind fun x st1 => if x = true then tb ρ st1 else .ok false st1:=rfl
@[simp] theorem z_or : dOr ta tb ρ st = (ta ρ st).bind fun x st1 => if x = true then .ok true st1 else tb ρ st1:=rfl
@[simp] theorem z_not : dNot ta ρ st = (ta ρ st).bind fun x st1 => .ok (!x) st1:=rfl
@[simp] theorem z_andV : dAndV fa fb ρ st = (fa ρ st).bind fun d st1 => (asB d st1).bind fun x st2 => if x = true then fb ρ st2 else .ok (.bl false) st2:=rfl
@[simp] theorem z_notV : dNotV fa ρ st = (fa ρ st).bind fun d st1 => (asB d st1).bind fun x st2 => .ok (.bl (!x)) st2:=rfl
@[simp] theorem z_if : dIf t fa fb ρ st = (t ρ st).bind fun x st1 => if x = true then fa ρ st1 else fb ρ st1:=rfl
@[simp] theorem z_chain {G' : D → D → Sto → Out D} : dChain G G' fa fb fc ρ st = (fa ρ st).bind fun x st1 => (fb ρ st1).bind fun y st2 => (G x y st2).bind fun z st3 => (asB z st3).bind fun k st4 =>
 if k = true then (fc ρ st4).bind fun w st5 => G' y w st5 else .ok (.bl false) st4:=rfl
@[simp] theorem z_nil : dNil ρ st = .ok [] st:=rfl
@[simp] theorem z_cons : dCons f da ρ st = (f ρ st).bind fun x st1 => (da ρ st1).bind fun xs st2 => .ok (x :: xs) st2:=rfl
@[simp] theorem z_tup : dTup da ρ st = (da ρ st).bind fun xs st1 => if xs.length ≤ small then .ok (.tup xs) st1 else .bad:=rfl
@[simp] theorem z_lst : dLst da ρ st = (da ρ st).bind fun xs st1 => if xs.length ≤ small then .ok xs st1 else .bad:=rfl
@[simp] theorem z_F : dF da ρ st = (da ρ st).bind fun xs st1 => .ok (.lst xs) st1:=rfl
@[simp] theorem z_sl {γ : D → Option Int → Option Int → Sto → Out α} {l h : DO} : dSl γ f l h ρ st = (f ρ st).bind fun x st1 => (l ρ st1).bind fun lo st2 => (h ρ st2).bind fun hi st3 => γ x lo hi st3:=rfl
@[simp] theorem z_noPart : dNoPart ρ st = .ok none st:=rfl
@[simp] theorem z_part : dPart f ρ st = (f ρ st).bind asInt:=rfl
@[simp] theorem z_call {γ : List D → Sto → Out α} : dCall γ da ρ st = (da ρ st).bind γ:=rfl
@[simp] theorem z_comp {caps : List Nat} {nT : Nat} {fi : DI} {tg : TgD} : dComp caps nT fi tg t f ρ st = (fi ρ st).bind fun q st1 => compD q.2 tg t f q.1 (capEv ρ caps nT) st1 []:=rfl
@[simp] theorem z_seq : dSeq f ρ st = (f ρ st).bind fun d st1 => match itemsOf st1 d with
 | some xs => .ok (xs, fun st => itemsOf st d = some xs) st1
 | none => .bad:=rfl
@[simp] theorem z_inst {T : String} : dInst T f ρ st = (f ρ st).bind fun d st1 => match tyName d with
 | some t => .ok (.bl (subTy t T)) st1
 | none => .bad:=rfl
@[simp] theorem z_neg : dNeg f ρ st = (f ρ st).bind fun d st1 => match d with
 | .int i => .ok (.int (-i)) st1
 | _ => .bad:=rfl
@[simp] theorem z_BM {γ : D → List D → Sto → Out D} : dBM γ fo da ρ st = (fo ρ st).bind fun d st1 => match d with
 | .str z => (da ρ st1).bind fun ds st2 => γ (.str z) ds st2
 | _ => .bad:=rfl
@[simp] theorem z_sNext : sNext ρ st = .nx ρ st:=rfl
@[simp] theorem z_sSeq : sSeq g g' ρ st = match g ρ st with
 | .nx ρ' st' => g' ρ' st'
 | r => r:=rfl
@[simp] theorem z_sExpr : sExpr f ρ st = (f ρ st).to fun _ st1 => .nx ρ st1:=rfl
@[simp] theorem z_sRet : sRet f ρ st = (f ρ st).to fun d st1 => .rt d st1:=rfl
@[simp] theorem z_sIf : sIf t g g' ρ st = (t ρ st).to fun x st1 => if x = true then g ρ st1 else g' ρ st1:=rfl
@[simp] theorem z_sSet : sSet i f ρ st = (f ρ st).to fun d st1 => .nx (ρ.set i (some d)) st1:=rfl
@[simp] theorem z_sSetF : sSetF i da ρ st = (da ρ st).to fun ds st1 => .nx (ρ.set i (some (.res st1.length))) (st1 ++ [.lst ds]):=rfl
@[simp] theorem z_sFor {fi : DI} {tg : TgD} : sFor fi tg g ρ st = (fi ρ st).to fun q st1 => loopD q.2 tg g q.1 ρ st1:=rfl
@[simp] theorem z_runF {N n : Nat} {ds : List D} : runF N n g ds st = if ds.length = n then (match g (ds.map some ++ List.replicate (N - n) none) st with
 | .nx _ st' => .ok .non st'
 | .rt d st' => .ok d st'
 | _ => .bad) else .bad:=rfl
@[simp] theorem z_addD (a b : Int) (st : Sto) : addD (.int a) (.int b) st = .ok (.int (a + b)) st:=rfl
@[simp] theorem z_subD (a b : Int) (st : Sto) : subD (.int a) (.int b) st = .ok (.int (a - b)) st:=rfl
theorem small_ge {n : Nat} (h : n ≤ 1000) : n ≤ small:=Nat.le_trans h (by decide)
@[simp] theorem z_small0 : (0 : Nat) ≤ small:=Nat.zero_le _
@[simp] theorem z_small1 : (1 : Nat) ≤ small:=by decide
@[simp] theorem z_small2 : (2 : Nat) ≤ small:=by decide
@[simp] theorem z_small3 : (3 : Nat) ≤ small:=by decide
@[simp] theorem z_small4 : (4 : Nat) ≤ small:=by decide
@[simp] theorem z_small5 : (5 : Nat) ≤ small:=by decide
@[simp] theorem z_small6 : (6 : Nat) ≤ small:=by decide
end
end DL
end
section
namespace K72
open PySem L2 DL
noncomputable def top (i : Nat) : Stmt:=PySem.Challenge.pw_cardplaces_k72_ring_texts.main.body.getD i (.Pass ⟨0, 0, 0, 0⟩)
noncomputable def apart (cv : Nat → Addr) : Prop:=cv 11 ≠ cv 16
noncomputable abbrev szRing___init__ : Stmt:=inClass (top 15) 0
theorem sczRing___init__ : FnScope ["self"] ["self"] (defScope szRing___init__) := ⟨rfl, rfl, rfl, by decide +kernel, rfl, by decide +kernel, by decide +kernel⟩
noncomputable def gzRing___init__ (cv : Nat → Addr) : DS := (sSeq (sFldS (cv 5) "kept" (dVar 0) dNewK) (sSeq (sFldF (cv 5) "row" (dVar 0) (dLst dNil)) (sFldS (cv 5) "made" (dVar 0) (dC (.int 0)))))
noncomputable def FzRing___init__ (cv : Nat → Addr) : FD:=runF 1 1 (gzRing___init__ cv)
noncomputable abbrev sz_law_cell : Stmt:=top 25
theorem scz_law_cell : FnScope ["_law_script", "_law_k"] ["_law_script", "_law_k"] (defScope sz_law_cell) := ⟨rfl, rfl, rfl, by decide +kernel, rfl, by decide +kernel, by decide +kernel⟩
noncomputable def gz_law_cell : DS:=(sSeq (sIf (dB (dBin eqD (dVar 0) (dF (dLst dNil)))) (sRet (dBin mul2D (dC (.int 7)) (dVar 1))) sNext) (sRet (dBin addD (dBin ixD (dVar 0) (dBin modD (dVar 1) (dCall lenD (dCons (dVar 0) dNil)))) (dBin mul2D (dC (.int 6553)) (dBin fdivD (dVar 1) (dCall lenD (dCons (dVar 0) dNil)))))))
noncomputable def Fz_law_cell : FD:=runF 2 2 (gz_law_cell)
noncomputable abbrev sz_law_drawn : Stmt:=top 26
theorem scz_law_drawn : FnScope ["_law_script", "_law_k", "_law_many", "_law_cell_here"] ["_law_script", "_law_k", "_law_many"] (defScope sz_law_drawn) := ⟨rfl, rfl, rfl, by decide +kernel, rfl, by decide +kernel, by decide +kernel⟩
noncomputable def gz_law_drawn : DS:=(sSeq (sSet 3 (dBin modD (dBin addD (dBin mul2D (dBin modD (dCall Fz_law_cell (dCons (dVar 0) (dCons (dVar 1) dNil))) (dC (.int 2147483563))) (dC (.int 69069))) (dBin mul2D (dC (.int 104723)) (dBin addD (dVar 1) (dC (.int 1))))) (dC (.int 2147483563)))) (sSeq (sSet 3 (dBin modD (dBin addD (dBin mul2D (dVar 3) (dVar 3)) (dBin fdivD (dVar 3) (dC (.int 3)))) (dC (.int 2147483399)))) (sRet (dBin modD (dBin fdivD (dBin modD (dBin addD (dBin mul2D (dVar 3) (dVar 3)) (dBin fdivD (dVar 3) (dC (.int 7)))) (dC (.int 2147483647))) (dC (.int 11))) (dVar 2)))))
noncomputable def Fz_law_drawn : FD:=runF 4 3 (gz_law_drawn)
noncomputable abbrev szRing_words : Stmt:=inClass (top 15) 4
theorem sczRing_words : FnScope ["self"] ["self"] (defScope szRing_words) := ⟨rfl, rfl, rfl, by decide +kernel, rfl, by decide +kernel, by decide +kernel⟩
noncomputable def gzRing_words (cv : Nat → Addr) : DS := (sRetF (dCall sortDF (dCons (dFld (cv 5) "kept" (dVar 0)) dNil)))
noncomputable def FzRing_words (cv : Nat → Addr) : FD:=runF 1 1 (gzRing_words cv)
noncomputable abbrev sz_law_place : Stmt:=top 27
theorem scz_law_place : FnScope ["_law_script", "_law_at"] ["_law_script", "_law_at"] (defScope sz_law_place) := ⟨rfl, rfl, rfl, by decide +kernel, rfl, by decide +kernel, by decide +kernel⟩
noncomputable def Ez_law_place_1 : DE := (dBin ixD (dC (.str "abc")) (dCall Fz_law_drawn (dCons (dVar 1) (dCons (dBin addD (dBin addD (dVar 2) (dC (.int 1))) (dVar 0)) (dCons (dC (.int 3)) dNil)))))
noncomputable def gz_law_place : DS:=(sRet (dCall tupleD (dCons (dF (dComp [0, 1] 1 (dRng1 (dCons (dCall Fz_law_drawn (dCons (dVar 0) (dCons (dVar 1) (dCons (dC (.int 4)) dNil)))) dNil)) (tgName 0) dTrue Ez_law_place_1)) dNil)))
noncomputable def Fz_law_place : FD:=runF 2 2 (gz_law_place)
noncomputable abbrev szRing_find : Stmt:=inClass (top 15) 2
theorem sczRing_find : FnScope ["self", "word"] ["self", "word"] (defScope szRing_find) := ⟨rfl, rfl, rfl, by decide +kernel, rfl, by decide +kernel, by decide +kernel⟩
noncomputable def gzRing_find (cv : Nat → Addr) : DS := (sSeq (sIf (dB (dBin notInDd (dVar 1) (dFld (cv 5) "kept" (dVar 0)))) (sRaise (cv 11) (dCons (dC (.str "this word stands for no place")) dNil)) sNext) (sRet (getDd (dFld (cv 5) "kept" (dVar 0)) (dVar 1))))
noncomputable def FzRing_find (cv : Nat → Addr) : FD:=runX 2 2 (gzRing_find cv)
noncomputable abbrev szRing_put : Stmt:=inClass (top 15) 12
theorem sczRing_put : FnScope ["self", "word", "place"] ["self", "word", "place"] (defScope szRing_put) := ⟨rfl, rfl, rfl, by decide +kernel, rfl, by decide +kernel, by decide +kernel⟩
noncomputable def gzRing_put (cv : Nat → Addr) : DS := (sIf (dB (dBin isD (dVar 2) (dC .non))) (sExpr (dPopD (dFld (cv 5) "kept" (dVar 0)) (dVar 1))) (sPutD (dFld (cv 5) "kept" (dVar 0)) (dVar 1) (dVar 2)))
noncomputable def FzRing_put (cv : Nat → Addr) : FD:=runF 3 3 (gzRing_put cv)
noncomputable abbrev szRing_forth : Stmt:=inClass (top 15) 8
theorem sczRing_forth : FnScope ["self", "step", "word", "ahead", "behind"] ["self"] (defScope szRing_forth) := ⟨rfl, rfl, rfl, by decide +kernel, rfl, by decide +kernel, by decide +kernel⟩
noncomputable def BzRing_forth_1 (cv : Nat → Addr) : DS := (sExpr (dMeth (cv 5) "put" (FzRing_put cv) (dVar 0) (dCons (dVar 2) (dCons (dVar 4) dNil))))
noncomputable def gzRing_forth (cv : Nat → Addr) : DS := (sSeq (sIf (dB (dBin eqD (dFld (cv 5) "made" (dVar 0)) (dCall lenD (dCons (dFld (cv 5) "row" (dVar 0)) dNil)))) (sRaise (cv 11) (dCons (dC (.str "no step can be done again")) dNil)) sNext) (sSeq (sSet 1 (dBin ixD (dFld (cv 5) "row" (dVar 0)) (dFld (cv 5) "made" (dVar 0)))) (sSeq (sFldAdd (cv 5) "made" (dVar 0) (dC (.int 1))) (sSeq (sFor (dSeq (dBin ixD (dVar 1) (dC (.int 1)))) (tgTup [2, 3, 4]) (BzRing_forth_1 cv)) (sRet (dBin ixD (dVar 1) (dC (.int 0))))))))
noncomputable def FzRing_forth (cv : Nat → Addr) : FD:=runX 5 1 (gzRing_forth cv)
noncomputable abbrev szRing_make_step : Stmt:=inClass (top 15) 11
theorem sczRing_make_step : FnScope ["self", "name", "changes"] ["self", "name", "changes"] (defScope szRing_make_step) := ⟨rfl, rfl, rfl, by decide +kernel, rfl, by decide +kernel, by decide +kernel⟩
noncomputable def gzRing_make_step (cv : Nat → Addr) : DS := (sSeq (sFldF (cv 5) "row" (dVar 0) (dBinF catL (dF (dSl cutF (dFld (cv 5) "row" (dVar 0)) dNoPart (dPart (dFld (cv 5) "made" (dVar 0))))) (dF (dLst (dCons (dTup (dCons (dVar 1) (dCons (dCall tupleD (dCons (dVar 2) dNil)) dNil))) dNil))))) (sExpr (dMeth (cv 5) "forth" (FzRing_forth cv) (dVar 0) dNil)))
noncomputable def FzRing_make_step (cv : Nat → Addr) : FD:=runX 3 3 (gzRing_make_step cv)
noncomputable abbrev szRing_lose : Stmt:=inClass (top 15) 3
theorem sczRing_lose : FnScope ["self", "word", "stood"] ["self", "word"] (defScope szRing_lose) := ⟨rfl, rfl, rfl, by decide +kernel, rfl, by decide +kernel, by decide +kernel⟩
noncomputable def gzRing_lose (cv : Nat → Addr) : DS := (sSeq (sSet 2 (dMeth (cv 5) "find" (FzRing_find cv) (dVar 0) (dCons (dVar 1) dNil))) (sSeq (sExpr (dMeth (cv 5) "make_step" (FzRing_make_step cv) (dVar 0) (dCons (dC (.str "lose")) (dCons (dF (dLst (dCons (dTup (dCons (dVar 1) (dCons (dVar 2) (dCons (dC .non) dNil)))) dNil))) dNil)))) (sRet (dVar 2))))
noncomputable def FzRing_lose (cv : Nat → Addr) : FD:=runX 3 2 (gzRing_lose cv)
noncomputable abbrev szis_under : Stmt:=top 12
theorem sczis_under : FnScope ["place", "other"] ["place", "other"] (defScope szis_under) := ⟨rfl, rfl, rfl, by decide +kernel, rfl, by decide +kernel, by decide +kernel⟩
noncomputable def gzis_under : DS:=(sRet (dBin eqD (dSl cutT (dVar 0) dNoPart (dPart (dCall lenD (dCons (dVar 1) dNil)))) (dVar 1)))
noncomputable def Fzis_under : FD:=runF 2 2 (gzis_under)
noncomputable abbrev szRing_words_under : Stmt:=inClass (top 15) 5
theorem sczRing_words_under : FnScope ["self", "place"] ["self", "place"] (defScope szRing_words_under) := ⟨rfl, rfl, rfl, by decide +kernel, rfl, by decide +kernel, by decide +kernel⟩
noncomputable def EzRing_words_under_1 : DE:=(dVar 0)
noncomputable def CzRing_words_under_1 (cv : Nat → Addr) : DT := (dB (dCall Fzis_under (dCons (getDd (dFld (cv 5) "kept" (dVar 2)) (dVar 0)) (dCons (dVar 1) dNil))))
noncomputable def gzRing_words_under (cv : Nat → Addr) : DS := (sRetF (dComp [1, 0] 1 (dSeq (dMeth (cv 5) "words" (FzRing_words cv) (dVar 0) dNil)) (tgName 0) (CzRing_words_under_1 cv) EzRing_words_under_1))
noncomputable def FzRing_words_under (cv : Nat → Addr) : FD:=runF 2 2 (gzRing_words_under cv)
noncomputable abbrev szis_too_long : Stmt:=top 10
theorem sczis_too_long : FnScope ["words"] ["words"] (defScope szis_too_long) := ⟨rfl, rfl, rfl, by decide +kernel, rfl, by decide +kernel, by decide +kernel⟩
noncomputable def gzis_too_long : DS:=(sRet (dBin gtD (dCall lenD (dCons (dVar 0) dNil)) (dC (.int 6))))
noncomputable def Fzis_too_long : FD:=runF 1 1 (gzis_too_long)
noncomputable abbrev szRing_shift : Stmt:=inClass (top 15) 6
theorem sczRing_shift : FnScope ["self", "old", "new", "changes", "word", "place", "shifted"] ["self", "old", "new"] (defScope szRing_shift) := ⟨rfl, rfl, rfl, by decide +kernel, rfl, by decide +kernel, by decide +kernel⟩
noncomputable def BzRing_shift_1 (cv : Nat → Addr) : DS := (sSeq (sSet 5 (getDd (dFld (cv 5) "kept" (dVar 0)) (dVar 4))) (sSeq (sSet 6 (dBin addD (dVar 2) (dSl cutT (dVar 5) (dPart (dCall lenD (dCons (dVar 1) dNil))) dNoPart))) (sSeq (sIf (dB (dCall Fzis_too_long (dCons (dVar 6) dNil))) (sRaise (cv 11) (dCons (dC (.str "a place would have too many words")) dNil)) sNext) (sExpr (dAppend (dVar 3) (dTup (dCons (dVar 4) (dCons (dVar 5) (dCons (dVar 6) dNil)))))))))
noncomputable def gzRing_shift (cv : Nat → Addr) : DS := (sSeq (sSetF 3 (dLst dNil)) (sSeq (sFor (dSeq (dMeth (cv 5) "words_under" (FzRing_words_under cv) (dVar 0) (dCons (dVar 1) dNil))) (tgName 4) (BzRing_shift_1 cv)) (sSeq (sExpr (dMeth (cv 5) "make_step" (FzRing_make_step cv) (dVar 0) (dCons (dC (.str "shift")) (dCons (dVar 3) dNil)))) (sRet (dCall lenD (dCons (dVar 3) dNil))))))
noncomputable def FzRing_shift (cv : Nat → Addr) : FD:=runX 7 3 (gzRing_shift cv)
noncomputable abbrev szRing_keep : Stmt:=inClass (top 15) 1
theorem sczRing_keep : FnScope ["self", "word", "place", "stood"] ["self", "word", "place"] (defScope szRing_keep) := ⟨rfl, rfl, rfl, by decide +kernel, rfl, by decide +kernel, by decide +kernel⟩
noncomputable def gzRing_keep (cv : Nat → Addr) : DS := (sSeq (sSet 3 (dGet1 (dFld (cv 5) "kept" (dVar 0)) (dVar 1))) (sSeq (sExpr (dMeth (cv 5) "make_step" (FzRing_make_step cv) (dVar 0) (dCons (dC (.str "keep")) (dCons (dF (dLst (dCons (dTup (dCons (dVar 1) (dCons (dVar 3) (dCons (dVar 2) dNil)))) dNil))) dNil)))) (sRet (dVar 3))))
noncomputable def FzRing_keep (cv : Nat → Addr) : FD:=runX 4 3 (gzRing_keep cv)
noncomputable abbrev sz_law_step : Stmt:=top 28
theorem scz_law_step : FnScope ["_law_script", "_law_at", "_law_ring", "_law_way", "_law_some", "_law_old", "_law_new", "_law_longest"] ["_law_script", "_law_at", "_law_ring"] (defScope sz_law_step) := ⟨rfl, rfl, rfl, by decide +kernel, rfl, by decide +kernel, by decide +kernel⟩
noncomputable def Ez_law_step_1 (cv : Nat → Addr) : DE := (dCall lenD (dCons (dMeth (cv 5) "find" (FzRing_find cv) (dVar 1) (dCons (dVar 0) dNil)) dNil))
noncomputable def gz_law_step (cv : Nat → Addr) : DS := (sSeq (sSet 3 (dCall Fz_law_drawn (dCons (dVar 0) (dCons (dVar 1) (dCons (dC (.int 5)) dNil))))) (sSeq (sSet 4 (dMeth (cv 5) "words" (FzRing_words cv) (dVar 2) dNil)) (sSeq (sPar 5 6 (dCons (dSl cutT (dCall Fz_law_place (dCons (dVar 0) (dCons (dBin addD (dVar 1) (dC (.int 2))) dNil))) dNoPart (dPart (dC (.int 1)))) (dCons (dSl cutT (dCall Fz_law_place (dCons (dVar 0) (dCons (dBin addD (dVar 1) (dC (.int 7))) dNil))) dNoPart (dPart (dC (.int 1)))) dNil))) (sSeq (sSet 7 (dCall maxLD (dCons (dF (dBinF catL (dF (dComp [2] 1 (dSeq (dVar 4)) (tgName 0) dTrue (Ez_law_step_1 cv))) (dF (dLst (dCons (dC (.int 0)) dNil))))) dNil))) (sIf (dAnd (dB (dBin eqD (dVar 3) (dC (.int 0)))) (dB (dBin neD (dVar 4) (dF (dLst dNil))))) (sExpr (dMeth (cv 5) "lose" (FzRing_lose cv) (dVar 2) (dCons (dBin ixD (dVar 4) (dCall Fz_law_drawn (dCons (dVar 0) (dCons (dBin addD (dVar 1) (dC (.int 1))) (dCons (dCall lenD (dCons (dVar 4) dNil)) dNil))))) dNil))) (sIf (dAnd (dB (dBin eqD (dVar 3) (dC (.int 1)))) (dB (dBin ltD (dVar 7) (dC (.int 6))))) (sExpr (dMeth (cv 5) "shift" (FzRing_shift cv) (dVar 2) (dCons (dVar 5) (dCons (dVar 6) dNil)))) (sExpr (dMeth (cv 5) "keep" (FzRing_keep cv) (dVar 2) (dCons (dBin ixD (dF (dLst (dCons (dC (.str "a")) (dCons (dC (.str "bo")) (dCons (dC (.str "cccc")) dNil))))) (dCall Fz_law_drawn (dCons (dVar 0) (dCons (dBin addD (dVar 1) (dC (.int 1))) (dCons (dC (.int 3)) dNil))))) (dCons (dCall Fz_law_place (dCons (dVar 0) (dCons (dBin addD (dVar 1) (dC (.int 12))) dNil))) dNil))))))))))
noncomputable def Fz_law_step (cv : Nat → Addr) : FD:=runX 8 3 (gz_law_step cv)
noncomputable abbrev szplace_text : Stmt:=top 13
theorem sczplace_text : FnScope ["place"] ["place"] (defScope szplace_text) := ⟨rfl, rfl, rfl, by decide +kernel, rfl, by decide +kernel, by decide +kernel⟩
noncomputable def gzplace_text : DS := (sRet (dBin addD (dC (.str "/")) (dBM joinD (dC (.str "/")) (dCons (dVar 0) dNil))))
noncomputable def Fzplace_text : FD:=runF 1 1 (gzplace_text)
noncomputable abbrev szring_line : Stmt:=top 21
theorem sczring_line : FnScope ["word", "place"] ["word", "place"] (defScope szring_line) := ⟨rfl, rfl, rfl, by decide +kernel, rfl, by decide +kernel, by decide +kernel⟩
noncomputable def gzring_line : DS := (sRet (dBin addD (dBin addD (dBin addD (dVar 0) (dC (.str " "))) (dCall Fzplace_text (dCons (dVar 1) dNil))) (dC (.str "\n"))))
noncomputable def Fzring_line : FD:=runF 2 2 (gzring_line)
noncomputable abbrev szring_text : Stmt:=top 22
theorem sczring_text : FnScope ["ring"] ["ring"] (defScope szring_text) := ⟨rfl, rfl, rfl, by decide +kernel, rfl, by decide +kernel, by decide +kernel⟩
noncomputable def Ezring_text_1 (cv : Nat → Addr) : DE := (dCall Fzring_line (dCons (dVar 0) (dCons (dMeth (cv 5) "find" (FzRing_find cv) (dVar 1) (dCons (dVar 0) dNil)) dNil)))
noncomputable def gzring_text (cv : Nat → Addr) : DS := (sRet (dBM joinD (dC (.str "")) (dCons (dF (dComp [0] 1 (dSeq (dMeth (cv 5) "words" (FzRing_words cv) (dVar 0) dNil)) (tgName 0) dTrue (Ezring_text_1 cv))) dNil)))
noncomputable def Fzring_text (cv : Nat → Addr) : FD:=runX 1 1 (gzring_text cv)
noncomputable abbrev szlines_of : Stmt:=top 18
theorem sczlines_of : FnScope ["text"] ["text"] (defScope szlines_of) := ⟨rfl, rfl, rfl, by decide +kernel, rfl, by decide +kernel, by decide +kernel⟩
noncomputable def gzlines_of (cv : Nat → Addr) : DS := (sSeq (sIf (dAnd (dB (dBin neD (dVar 0) (dC (.str "")))) (dNot (dB (dBM endsD (dVar 0) (dCons (dC (.str "\n")) dNil))))) (sRaise (cv 16) (dCons (dC (.str "the last line is not ended")) dNil)) sNext) (sRet (dF (dSl cutF (dF (dBMF splitF (dVar 0) (dCons (dC (.str "\n")) dNil))) dNoPart (dPart (dNeg (dC (.int 1))))))))
noncomputable def Fzlines_of (cv : Nat → Addr) : FD:=runX 1 1 (gzlines_of cv)
noncomputable abbrev szis_letter : Stmt:=top 8
theorem sczis_letter : FnScope ["sign"] ["sign"] (defScope szis_letter) := ⟨rfl, rfl, rfl, by decide +kernel, rfl, by decide +kernel, by decide +kernel⟩
noncomputable def gzis_letter : DS := (sRet (dChain leX leX (dC (.str "a")) (dVar 0) (dC (.str "z"))))
noncomputable def Fzis_letter : FD:=runF 1 1 (gzis_letter)
noncomputable abbrev szis_word : Stmt:=top 9
theorem sczis_word : FnScope ["thing"] ["thing"] (defScope szis_word) := ⟨rfl, rfl, rfl, by decide +kernel, rfl, by decide +kernel, by decide +kernel⟩
noncomputable def Ezis_word_1 : DE:=(dCall Fzis_letter (dCons (dVar 0) dNil))
noncomputable def gzis_word : DS := (sSeq (sIf (dNot (dB (dInst "str" (dVar 0)))) (sRet (dC (.bl false))) sNext) (sRet (dAndV (dChain leX leX (dC (.int 1)) (dCall lenD (dCons (dVar 0) dNil)) (dC (.int 4))) (dCall allD (dCons (dF (dComp [] 1 (dSigns (dVar 0)) (tgName 0) dTrue Ezis_word_1)) dNil)))))
noncomputable def Fzis_word : FD:=runF 1 1 (gzis_word)
noncomputable abbrev szis_place : Stmt:=top 11
theorem sczis_place : FnScope ["thing"] ["thing"] (defScope szis_place) := ⟨rfl, rfl, rfl, by decide +kernel, rfl, by decide +kernel, by decide +kernel⟩
noncomputable def Ezis_place_1 : DE:=(dCall Fzis_word (dCons (dVar 0) dNil))
noncomputable def gzis_place : DS := (sSeq (sIf (dNot (dB (dInst "tuple" (dVar 0)))) (sRet (dC (.bl false))) sNext) (sRet (dAndV (dNotV (dCall Fzis_too_long (dCons (dVar 0) dNil))) (dCall allD (dCons (dF (dComp [] 1 (dSeq (dVar 0)) (tgName 0) dTrue Ezis_place_1)) dNil)))))
noncomputable def Fzis_place : FD:=runF 1 1 (gzis_place)
noncomputable abbrev szread_place : Stmt:=top 19
theorem sczread_place : FnScope ["text", "place"] ["text"] (defScope szread_place) := ⟨rfl, rfl, rfl, by decide +kernel, rfl, by decide +kernel, by decide +kernel⟩
noncomputable def gzread_place (cv : Nat → Addr) : DS := (sSeq (sSet 1 (dIf (dB (dBin eqD (dVar 0) (dC (.str "/")))) (dTup dNil) (dCall tupleD (dCons (dF (dSl cutF (dF (dBMF splitF (dVar 0) (dCons (dC (.str "/")) dNil))) (dPart (dC (.int 1))) dNoPart)) dNil)))) (sSeq (sIf (dOr (dNot (dB (dCall Fzis_place (dCons (dVar 1) dNil)))) (dB (dBin neD (dCall Fzplace_text (dCons (dVar 1) dNil)) (dVar 0)))) (sRaise (cv 16) (dCons (dC (.str "no place is written so")) dNil)) sNext) (sRet (dVar 1))))
noncomputable def Fzread_place (cv : Nat → Addr) : FD:=runX 2 1 (gzread_place cv)
noncomputable abbrev szring_of : Stmt:=top 16
theorem sczring_of : FnScope ["places", "ring"] ["places"] (defScope szring_of) := ⟨rfl, rfl, rfl, by decide +kernel, rfl, by decide +kernel, by decide +kernel⟩
noncomputable def gzring_of (cv : Nat → Addr) : DS := (sSeq (sSet 1 (dMake (cv 5) (FzRing___init__ cv) dNil)) (sSeq (sFldS (cv 5) "kept" (dVar 1) (dCall dictD (dCons (dVar 0) dNil))) (sRet (dVar 1))))
noncomputable def Fzring_of (cv : Nat → Addr) : FD:=runF 2 1 (gzring_of cv)
noncomputable abbrev szread_ring : Stmt:=top 23
theorem sczread_ring : FnScope ["text", "places", "line", "parts", "ring"] ["text"] (defScope szread_ring) := ⟨rfl, rfl, rfl, by decide +kernel, rfl, by decide +kernel, by decide +kernel⟩
noncomputable def Bzread_ring_1 (cv : Nat → Addr) : DS := (sSeq (sSet 3 (dF (dBMF splitF (dVar 2) (dCons (dC (.str " ")) dNil)))) (sSeq (sIf (dOr (dB (dBin neD (dCall lenD (dCons (dVar 3) dNil)) (dC (.int 2)))) (dNot (dB (dCall Fzis_word (dCons (dBin ixD (dVar 3) (dC (.int 0))) dNil))))) (sRaise (cv 16) (dCons (dC (.str "no word and its place are written so")) dNil)) sNext) (sPutD (dVar 1) (dBin ixD (dVar 3) (dC (.int 0))) (dCall (Fzread_place cv) (dCons (dBin ixD (dVar 3) (dC (.int 1))) dNil)))))
noncomputable def gzread_ring (cv : Nat → Addr) : DS := (sSeq (sSet 1 dNewK) (sSeq (sFor (dSeq (dCall (Fzlines_of cv) (dCons (dVar 0) dNil))) (tgName 2) (Bzread_ring_1 cv)) (sSeq (sSet 4 (dCall (Fzring_of cv) (dCons (dVar 1) dNil))) (sSeq (sIf (dB (dBin neD (dCall (Fzring_text cv) (dCons (dVar 4) dNil)) (dVar 0))) (sRaise (cv 16) (dCons (dC (.str "the words don't rise")) dNil)) sNext) (sRet (dVar 4))))))
noncomputable def Fzread_ring (cv : Nat → Addr) : FD:=runX 5 1 (gzread_ring cv)
noncomputable abbrev sz_law_refused : Stmt:=top 29
theorem scz_law_refused : FnScope ["_law_e", "_law_flags"] ["_law_e"] (defScope sz_law_refused) := ⟨rfl, rfl, rfl, by decide +kernel, rfl, by decide +kernel, by decide +kernel⟩
noncomputable def gz_law_refused (cv : Nat → Addr) : DS := (sSeq (sSet 1 (dF (dLst (dCons (dInstX [((cv 11), true), ((cv 16), false)] (dVar 0)) (dCons (dInstX [((cv 11), false), ((cv 16), true)] (dVar 0)) dNil))))) (sSeq (sIf (dOr (dB (dBin neD (dLM countD (dVar 1) (dCons (dC (.bl true)) dNil)) (dC (.int 1)))) (dNot (dB (dInstX [((cv 11), true), ((cv 16), true)] (dVar 0))))) (sRet (dTup (dCons (dC (.str "refused")) (dCons (dNeg (dC (.int 1))) dNil)))) sNext) (sRet (dTup (dCons (dC (.str "refused")) (dCons (dLM indexD (dVar 1) (dCons (dC (.bl true)) dNil)) dNil))))))
noncomputable def Fz_law_refused (cv : Nat → Addr) : FD:=runF 2 1 (gz_law_refused cv)
noncomputable abbrev sz_law_told : Stmt:=top 30
theorem scz_law_told : FnScope ["_law_text", "_law_e"] ["_law_text"] (defScope sz_law_told) := ⟨rfl, rfl, rfl, by decide +kernel, rfl, by decide +kernel, by decide +kernel⟩
noncomputable def Tz_law_told_1 (cv : Nat → Addr) : DS:=(sRet (dCall (Fzread_ring cv) (dCons (dVar 0) dNil)))
noncomputable def Hz_law_told_1 (cv : Nat → Addr) : DS:=(sRet (dCall (Fz_law_refused cv) (dCons (dVar 1) dNil)))
noncomputable def gz_law_told (cv : Nat → Addr) : DS:=(sTry [(cv 11), (cv 16)] (handAs 2 1 (Hz_law_told_1 cv)) (Tz_law_told_1 cv))
noncomputable def Fz_law_told (cv : Nat → Addr) : FD:=runF 2 1 (gz_law_told cv)
noncomputable abbrev szRing_sizes : Stmt:=inClass (top 15) 9
theorem sczRing_sizes : FnScope ["self"] ["self"] (defScope szRing_sizes) := ⟨rfl, rfl, rfl, by decide +kernel, rfl, by decide +kernel, by decide +kernel⟩
noncomputable def gzRing_sizes (cv : Nat → Addr) : DS := (sRet (dTup (dCons (dFld (cv 5) "made" (dVar 0)) (dCons (dBin subD (dCall lenD (dCons (dFld (cv 5) "row" (dVar 0)) dNil)) (dFld (cv 5) "made" (dVar 0))) dNil))))
noncomputable def FzRing_sizes (cv : Nat → Addr) : FD:=runF 1 1 (gzRing_sizes cv)
noncomputable abbrev szlaw : Stmt:=top 31
theorem sczlaw : FnScope ["_law_script", "_law_ring", "_law_k", "_law_text", "_law_word", "_law_new", "_law_place_here", "_law_sign", "_law_spoilt", "_law_told_here", "_law_odd", "_law_known"] ["_law_script"] (defScope szlaw) := ⟨rfl, rfl, rfl, by decide +kernel, rfl, by decide +kernel, by decide +kernel⟩
noncomputable def stzlaw_p1 : Stmt:=(defBody szlaw).getD 0 (.Pass ⟨0, 0, 0, 0⟩)
noncomputable def stzlaw_p2 : Stmt:=(defBody szlaw).getD 1 (.Pass ⟨0, 0, 0, 0⟩)
noncomputable def stzlaw_p3 : Stmt:=(defBody szlaw).getD 2 (.Pass ⟨0, 0, 0, 0⟩)
noncomputable def stzlaw_p4 : Stmt:=(defBody szlaw).getD 3 (.Pass ⟨0, 0, 0, 0⟩)
noncomputable def stzlaw_p5 : Stmt:=(defBody szlaw).getD 4 (.Pass ⟨0, 0, 0, 0⟩)
noncomputable def stzlaw_p6 : Stmt:=(defBody szlaw).getD 5 (.Pass ⟨0, 0, 0, 0⟩)
noncomputable def stzlaw_p7 : Stmt:=(defBody szlaw).getD 6 (.Pass ⟨0, 0, 0, 0⟩)
noncomputable def stzlaw_p8 : Stmt:=(defBody szlaw).getD 7 (.Pass ⟨0, 0, 0, 0⟩)
noncomputable def stzlaw_p9 : Stmt:=(defBody szlaw).getD 8 (.Pass ⟨0, 0, 0, 0⟩)
noncomputable def stzlaw_p10 : Stmt:=(defBody szlaw).getD 9 (.Pass ⟨0, 0, 0, 0⟩)
noncomputable def stzlaw_p11 : Stmt:=(forBody stzlaw_p10).getD 0 (.Pass ⟨0, 0, 0, 0⟩)
noncomputable def stzlaw_p12 : Stmt:=(forBody stzlaw_p10).getD 1 (.Pass ⟨0, 0, 0, 0⟩)
noncomputable def stzlaw_p13 : Stmt:=(forBody stzlaw_p10).getD 2 (.Pass ⟨0, 0, 0, 0⟩)
noncomputable def stzlaw_p14 : Stmt:=(forBody stzlaw_p10).getD 3 (.Pass ⟨0, 0, 0, 0⟩)
noncomputable def stzlaw_p15 : Stmt:=(forBody stzlaw_p10).getD 4 (.Pass ⟨0, 0, 0, 0⟩)
noncomputable def stzlaw_p16 : Stmt:=(defBody szlaw).getD 10 (.Pass ⟨0, 0, 0, 0⟩)
noncomputable def stzlaw_p17 : Stmt:=(defBody szlaw).getD 11 (.Pass ⟨0, 0, 0, 0⟩)
noncomputable def stzlaw_p18 : Stmt:=(defBody szlaw).getD 12 (.Pass ⟨0, 0, 0, 0⟩)
noncomputable def stzlaw_p19 : Stmt:=(defBody szlaw).getD 13 (.Pass ⟨0, 0, 0, 0⟩)
noncomputable def stzlaw_p20 : Stmt:=(defBody szlaw).getD 14 (.Pass ⟨0, 0, 0, 0⟩)
noncomputable def Pzlaw_p1 (cv : Nat → Addr) : DS:=(sSet 1 (dMake (cv 5) (FzRing___init__ cv) dNil))
noncomputable def Bzlaw_1 (cv : Nat → Addr) : DS:=(sExpr (dCall (Fz_law_step cv) (dCons (dVar 0) (dCons (dBin addD (dC (.int 1)) (dBin mul2D (dC (.int 20)) (dVar 2))) (dCons (dVar 1) dNil)))))
noncomputable def Pzlaw_p2 (cv : Nat → Addr) : DS:=(sFor (dRng1 (dCons (dCall Fz_law_drawn (dCons (dVar 0) (dCons (dC (.int 0)) (dCons (dC (.int 10)) dNil)))) dNil)) (tgName 2) (Bzlaw_1 cv))
noncomputable def Pzlaw_p3 : DS := (sSet 3 (dC (.str "")))
noncomputable def Bzlaw_2 (cv : Nat → Addr) : DS := (sSet 3 (dBin addD (dBin addD (dBin addD (dBin addD (dVar 3) (dVar 4)) (dC (.str " /"))) (dBM joinD (dC (.str "/")) (dCons (dMeth (cv 5) "find" (FzRing_find cv) (dVar 1) (dCons (dVar 4) dNil)) dNil))) (dC (.str "\n"))))
noncomputable def Pzlaw_p4 (cv : Nat → Addr) : DS := (sFor (dSeq (dMeth (cv 5) "words" (FzRing_words cv) (dVar 1) dNil)) (tgName 4) (Bzlaw_2 cv))
noncomputable def Pzlaw_p5 (cv : Nat → Addr) : DS:=(sIf (dB (dBin neD (dCall (Fzring_text cv) (dCons (dVar 1) dNil)) (dVar 3))) (sRet (dC (.bl false))) sNext)
noncomputable def Pzlaw_p6 (cv : Nat → Addr) : DS:=(sSet 5 (dCall (Fz_law_told cv) (dCons (dVar 3) dNil)))
noncomputable def Pzlaw_p7 (cv : Nat → Addr) : DS := (sIf (dB (dBin neD (dMeth (cv 5) "words" (FzRing_words cv) (dVar 5) dNil) (dMeth (cv 5) "words" (FzRing_words cv) (dVar 1) dNil))) (sRet (dC (.bl false))) sNext)
noncomputable def Ezlaw_1 (cv : Nat → Addr) : DE := (dMeth (cv 5) "find" (FzRing_find cv) (dVar 1) (dCons (dVar 0) dNil))
noncomputable def Ezlaw_2 (cv : Nat → Addr) : DE := (dMeth (cv 5) "find" (FzRing_find cv) (dVar 1) (dCons (dVar 0) dNil))
noncomputable def Pzlaw_p8 (cv : Nat → Addr) : DS := (sIf (dB (dBin neD (dF (dComp [5] 1 (dSeq (dMeth (cv 5) "words" (FzRing_words cv) (dVar 5) dNil)) (tgName 0) dTrue (Ezlaw_1 cv))) (dF (dComp [1] 1 (dSeq (dMeth (cv 5) "words" (FzRing_words cv) (dVar 1) dNil)) (tgName 0) dTrue (Ezlaw_2 cv))))) (sRet (dC (.bl false))) sNext)
noncomputable def Pzlaw_p9 (cv : Nat → Addr) : DS := (sIf (dB (dBin neD (dMeth (cv 5) "sizes" (FzRing_sizes cv) (dVar 5) dNil) (dTup (dCons (dC (.int 0)) (dCons (dC (.int 0)) dNil))))) (sRet (dC (.bl false))) sNext)
noncomputable def Pzlaw_p11 : DS:=(sSet 6 (dCall Fz_law_drawn (dCons (dVar 0) (dCons (dBin addD (dC (.int 300)) (dBin mul2D (dC (.int 4)) (dVar 2))) (dCons (dBin addD (dCall lenD (dCons (dVar 3) dNil)) (dC (.int 1))) dNil)))))
noncomputable def Pzlaw_p12 : DS := (sSet 7 (dBin ixD (dF (dLst (dCons (dC (.str "a")) (dCons (dC (.str "/")) (dCons (dC (.str " ")) (dCons (dC (.str "\n")) (dCons (dC (.str "")) (dCons (dC (.str "Z")) (dCons (dC (.str "b")) (dCons (dC (.str "0")) dNil)))))))))) (dCall Fz_law_drawn (dCons (dVar 0) (dCons (dBin addD (dC (.int 301)) (dBin mul2D (dC (.int 4)) (dVar 2))) (dCons (dC (.int 8)) dNil))))))
noncomputable def Pzlaw_p13 : DS:=(sSet 8 (dBin addD (dBin addD (dSl cutS (dVar 3) dNoPart (dPart (dVar 6))) (dVar 7)) (dSl cutS (dVar 3) (dPart (dBin addD (dVar 6) (dCall Fz_law_drawn (dCons (dVar 0) (dCons (dBin addD (dC (.int 302)) (dBin mul2D (dC (.int 4)) (dVar 2))) (dCons (dC (.int 2)) dNil)))))) dNoPart)))
noncomputable def Pzlaw_p14 (cv : Nat → Addr) : DS:=(sSet 9 (dCall (Fz_law_told cv) (dCons (dVar 8) dNil)))
noncomputable def Pzlaw_p15 (cv : Nat → Addr) : DS := (sIf (dB (dInstI "tuple" (cv 5) (dVar 9))) (sIf (dOr (dB (dBin neD (dVar 9) (dTup (dCons (dC (.str "refused")) (dCons (dC (.int 1)) dNil))))) (dB (dBin eqD (dVar 8) (dVar 3)))) (sRet (dC (.bl false))) sNext) (sIf (dB (dBin neD (dCall (Fzring_text cv) (dCons (dVar 9) dNil)) (dVar 8))) (sRet (dC (.bl false))) sNext))
noncomputable def Bzlaw_3 (cv : Nat → Addr) : DS:=(sSeq Pzlaw_p11 (sSeq Pzlaw_p12 (sSeq Pzlaw_p13 (sSeq (Pzlaw_p14 cv) (Pzlaw_p15 cv)))))
noncomputable def Pzlaw_p10 (cv : Nat → Addr) : DS:=(sFor (dRng1 (dCons (dC (.int 6)) dNil)) (tgName 2) (Bzlaw_3 cv))
noncomputable def Pzlaw_p16 : DS := (sSet 10 (dF (dLst (dCons (dC (.str "a /")) (dCons (dC (.str "a/\n")) (dCons (dC (.str "a\n")) (dCons (dC (.str "A /\n")) (dCons (dC (.str "abcde /\n")) (dCons (dC (.str " /\n")) (dCons (dC (.str "a / \n")) (dCons (dC (.str "a  /\n")) (dCons (dC (.str "b /\na /\n")) (dCons (dC (.str "a /\na /b\n")) dNil)))))))))))))
noncomputable def Pzlaw_p17 : DS := (sSet 10 (dF (dBinF catL (dVar 10) (dF (dLst (dCons (dC (.str "\n")) (dCons (dC (.str "a //\n")) (dCons (dC (.str "a b\n")) (dCons (dC (.str "a /a/\n")) (dCons (dC (.str "a /a/b/c/a/b/c/a\n")) dNil))))))))))
noncomputable def Ezlaw_3 : DE:=(dVar 0)
noncomputable def Czlaw_1 (cv : Nat → Addr) : DT := (dB (dBin neD (dCall (Fz_law_told cv) (dCons (dVar 0) dNil)) (dTup (dCons (dC (.str "refused")) (dCons (dC (.int 1)) dNil)))))
noncomputable def Pzlaw_p18 (cv : Nat → Addr) : DS:=(sIf (dB (dBin neD (dF (dComp [] 1 (dSeq (dVar 10)) (tgName 0) (Czlaw_1 cv) Ezlaw_3)) (dF (dLst dNil)))) (sRet (dC (.bl false))) sNext)
noncomputable def Pzlaw_p19 (cv : Nat → Addr) : DS := (sSet 11 (dCall (Fz_law_told cv) (dCons (dC (.str "a /\nbo /a/b\n")) dNil)))
noncomputable def Pzlaw_p20 (cv : Nat → Addr) : DS := (sRet (dAndV (dBin eqD (dMeth (cv 5) "find" (FzRing_find cv) (dVar 11) (dCons (dC (.str "a")) dNil)) (dTup dNil)) (dAndV (dBin eqD (dMeth (cv 5) "find" (FzRing_find cv) (dVar 11) (dCons (dC (.str "bo")) dNil)) (dTup (dCons (dC (.str "a")) (dCons (dC (.str "b")) dNil)))) (dBin eqD (dMeth (cv 5) "words" (FzRing_words cv) (dCall (Fz_law_told cv) (dCons (dC (.str "")) dNil)) dNil) (dF (dLst dNil))))))
noncomputable def gzlaw (cv : Nat → Addr) : DS:=(sSeq (Pzlaw_p1 cv) (sSeq (Pzlaw_p2 cv) (sSeq Pzlaw_p3 (sSeq (Pzlaw_p4 cv) (sSeq (Pzlaw_p5 cv) (sSeq (Pzlaw_p6 cv) (sSeq (Pzlaw_p7 cv) (sSeq (Pzlaw_p8 cv) (sSeq (Pzlaw_p9 cv) (sSeq (Pzlaw_p10 cv) (sSeq Pzlaw_p16 (sSeq Pzlaw_p17 (sSeq (Pzlaw_p18 cv) (sSeq (Pzlaw_p19 cv) (Pzlaw_p20 cv)))))))))))))))
noncomputable def Fzlaw (cv : Nat → Addr) : FD:=runF 12 1 (gzlaw cv)
section
set_option maxHeartbeats 4000000
variable {P : Program} {w : World} {K : PySem.W.Frag} {mg : Str → Option Value} {base : Heap} {cv : Nat → Addr}
theorem okzRing___init__ {f : Addr} {fd : FuncData} (F : Fun K "__init__" "Ring.__init__" szRing___init__ f fd) (hm : Mk K (cv 5) f) (hb : Binds K fd ["self"] []) (hx : mg "Ring" = some (.ref (cv 5))) (cl_Ring : Cls K (cv 5)) (na_Ring_kept : NoAttr K (cv 5) "kept") (na_Ring_made : NoAttr K (cv 5) "made") (na_Ring_row : NoAttr K (cv 5) "row") : MkAt P w K mg base "Ring" (cv 5) 1 (FzRing___init__ cv) :=
 mkAt (k:=0) F sczRing___init__ hm hb hx fun cdv A outer s H E hr => (pds_cons (pd_fldS (pd_var 0) pd_dnewK cl_Ring na_Ring_kept) (pds_cons (pd_fldF (pd_var 0) (pdf_lst pda_nil) cl_Ring na_Ring_row) (pds_one (pd_fldS (pd_var 0) pd_int cl_Ring na_Ring_made))))
theorem okz_law_cell {f : Addr} {fd : FuncData} (F : Fun K "_law_cell" "_law_cell" sz_law_cell f fd) (hm : mg "_law_cell" = some (.ref f)) (hb : Binds K fd ["_law_script", "_law_k"] []) (b_len : mg "len" = none) : FnAt P w K mg base "_law_cell" 1 Fz_law_cell :=
 fnAt (k:=0) F scz_law_cell hm hb fun cdv A outer s H E hr => (pds_cons (pd_if (pdt_cmp (op_eqD hr.units) (pd_var 0) (pd_F (pdf_lst pda_nil))) (pds_one (pd_ret (pd_op op_mul2D pd_int (pd_var 1)))) pds_nil) (pds_one (pd_ret (pd_op op_addD (pd_ix (pd_var 0) (pd_op op_modD (pd_var 1) (pd_callB call_lenD rfl b_len PySem.boot_len (pda_cons (pd_var 0) pda_nil)))) (pd_op op_mul2D pd_int (pd_op op_fdivD (pd_var 1) (pd_callB call_lenD rfl b_len PySem.boot_len (pda_cons (pd_var 0) pda_nil))))))))
theorem okz_law_drawn {f : Addr} {fd : FuncData} (F : Fun K "_law_drawn" "_law_drawn" sz_law_drawn f fd) (hm : mg "_law_drawn" = some (.ref f)) (hb : Binds K fd ["_law_script", "_law_k", "_law_many"] []) (hz_law_cell : FnAt P w K mg base "_law_cell" 1 Fz_law_cell) : FnAt P w K mg base "_law_drawn" 2 Fz_law_drawn :=
 fnAt (k:=1) F scz_law_drawn hm hb fun cdv A outer s H E hr => (pds_cons (pd_set 3 scz_law_drawn.nd rfl (by first | exact Or.inl rfl | exact Or.inr rfl) (pd_op op_modD (pd_op op_addD (pd_op op_mul2D (pd_op op_modD (pd_fn hz_law_cell hr (by decide) rfl (pda_cons (pd_var 0) (pda_cons (pd_var 1) pda_nil))) pd_int) pd_int) (pd_op op_mul2D pd_int (pd_op op_addD (pd_var 1) pd_int))) pd_int)) (pds_cons (pd_set 3 scz_law_drawn.nd rfl (by first | exact Or.inl rfl | exact Or.inr rfl) (pd_op op_modD (pd_op op_addD (pd_op op_mul2D (pd_var 3) (pd_var 3)) (pd_op op_fdivD (pd_var 3) pd_int)) pd_int)) (pds_one (pd_ret (pd_op op_modD (pd_op op_fdivD (pd_op op_modD (pd_op op_addD (pd_op op_mul2D (pd_var 3) (pd_var 3)) (pd_op op_fdivD (pd_var 3) pd_int)) pd_int) pd_int) (pd_var 2))))))
theorem okzRing_words {f : Addr} {fd : FuncData} (F : Fun K "words" "Ring.words" szRing_words f fd) (hm : Meth K (cv 5) "words" f) (hb : Binds K fd ["self"] []) (b_sorted : mg "sorted" = none) (cl_Ring : Cls K (cv 5)) (na_Ring_kept : NoAttr K (cv 5) "kept") : MtAt P w K mg base (cv 5) "words" 1 (FzRing_words cv) :=
 mtAt (k:=0) F sczRing_words hm hb fun cdv A outer s H E hr => (pds_one (pd_retF (pdf_callB (call_sortDF rfl) rfl b_sorted PyProof.Rows.boot_sorted (pda_cons (pd_fld (pd_var 0) cl_Ring na_Ring_kept) pda_nil))))
theorem okz_law_place {f : Addr} {fd : FuncData} (F : Fun K "_law_place" "_law_place" sz_law_place f fd) (hm : mg "_law_place" = some (.ref f)) (hb : Binds K fd ["_law_script", "_law_at"] []) (b_range : mg "range" = none) (b_tuple : mg "tuple" = none) (hz_law_drawn : FnAt P w K mg base "_law_drawn" 2 Fz_law_drawn) : FnAt P w K mg base "_law_place" 3 Fz_law_place :=
 fnAt (k := 2) F scz_law_place hm hb fun cdv A outer s H E hr => (pds_one (pd_ret (pd_callTy call_tupleD rfl b_tuple PyProof.Rows.boot_tuple (pda_cons (pd_F (pdf_lc rfl ⟨Blk.of (N := ["_law_k", "_law_script", "_law_at"]) (caps := [0, 1]) (nT := 1) (by show blkB (defScope sz_law_place) _ ["_law_script", "_law_at"] _ _ _ = true; decide +kernel), fun _ _ _ _ => (pgd_name 0 (by show (["_law_k", "_law_script", "_law_at"] : List Str).Nodup; decide +kernel) rfl (by first | exact Or.inl rfl | exact Or.inr rfl)), fun _ _ _ _ => pts_nil, fun _ _ _ _ => (pd_ix pd_str (pd_fn hz_law_drawn hr (by decide) rfl (pda_cons (pd_var 1) (pda_cons (pd_op op_addD (pd_op op_addD (pd_var 2) pd_int) (pd_var 0)) (pda_cons pd_int pda_nil)))))⟩ (pid_range1 rfl b_range (pda_cons (pd_fn hz_law_drawn hr (by decide) rfl (pda_cons (pd_var 0) (pda_cons (pd_var 1) (pda_cons pd_int pda_nil)))) pda_nil)))) pda_nil))))
theorem okzRing_find {f : Addr} {fd : FuncData} (F : Fun K "find" "Ring.find" szRing_find f fd) (hm : Meth K (cv 5) "find" f) (hb : Binds K fd ["self", "word"] []) (cl_Ring : Cls K (cv 5)) (mg_NoPlace : mg "NoPlace" = some (.ref (cv 11))) (na_Ring_kept : NoAttr K (cv 5) "kept") (xc_NoPlace : PySem.W.excIn K (cv 11) [.type "ValueError", .type "Exception", .type "BaseException", .type "object"] "ValueError.__new__" = true) : MtX P w K mg base (cv 5) "find" 1 (FzRing_find cv) :=
 mtXAt (k:=0) F sczRing_find hm hb fun cdv A outer s H E hr hx hxr => (pds_cons (pd_if (pdt_cmp (op_notInDd hr.units) (pd_var 1) (pd_fld (pd_var 0) cl_Ring na_Ring_kept)) (pds_one (pd_raise hxr rfl rfl mg_NoPlace xc_NoPlace PySem.F.excBase_ValueError (pda_cons pd_str pda_nil))) pds_nil) (pds_one (pd_ret (pd_dget hr.units (pd_fld (pd_var 0) cl_Ring na_Ring_kept) (pd_var 1)))))
theorem okzRing_put {f : Addr} {fd : FuncData} (F : Fun K "put" "Ring.put" szRing_put f fd) (hm : Meth K (cv 5) "put" f) (hb : Binds K fd ["self", "word", "place"] []) (cl_Ring : Cls K (cv 5)) (na_Ring_kept : NoAttr K (cv 5) "kept") : MtAt P w K mg base (cv 5) "put" 1 (FzRing_put cv) :=
 mtAt (k:=0) F sczRing_put hm hb fun cdv A outer s H E hr => (pds_one (pd_if (pdt_cmp op_isD (pd_var 2) pd_non) (pds_one (pd_expr (pd_dpop (pd_fld (pd_var 0) cl_Ring na_Ring_kept) (pd_var 1)))) (pds_one (pd_dput hr.units (pd_fld (pd_var 0) cl_Ring na_Ring_kept) (pd_var 1) (pd_var 2)))))
theorem okzRing_forth {f : Addr} {fd : FuncData} (F : Fun K "forth" "Ring.forth" szRing_forth f fd) (hm : Meth K (cv 5) "forth" f) (hb : Binds K fd ["self"] []) (b_len : mg "len" = none) (cl_Ring : Cls K (cv 5)) (mg_NoPlace : mg "NoPlace" = some (.ref (cv 11))) (na_Ring_made : NoAttr K (cv 5) "made") (na_Ring_row : NoAttr K (cv 5) "row") (xc_NoPlace : PySem.W.excIn K (cv 11) [.type "ValueError", .type "Exception", .type "BaseException", .type "object"] "ValueError.__new__" = true) (hzRing_put : MtAt P w K mg base (cv 5) "put" 1 (FzRing_put cv)) : MtX P w K mg base (cv 5) "forth" 2 (FzRing_forth cv) :=
 mtXAt (k:=1) F sczRing_forth hm hb fun cdv A outer s H E hr hx hxr => (pds_cons (pd_if (pdt_cmp (op_eqD hr.units) (pd_fld (pd_var 0) cl_Ring na_Ring_made) (pd_callB call_lenD rfl b_len PySem.boot_len (pda_cons (pd_fld (pd_var 0) cl_Ring na_Ring_row) pda_nil))) (pds_one (pd_raise hxr rfl rfl mg_NoPlace xc_NoPlace PySem.F.excBase_ValueError (pda_cons pd_str pda_nil))) pds_nil) (pds_cons (pd_set 1 sczRing_forth.nd rfl (by first | exact Or.inl rfl | exact Or.inr rfl) (pd_ix (pd_fld (pd_var 0) cl_Ring na_Ring_row) (pd_fld (pd_var 0) cl_Ring na_Ring_made))) (pds_cons (pd_fldAdd (pd_var 0) pd_int cl_Ring na_Ring_made) (pds_cons (pd_for hx.own rfl (pid_seq (pd_ix (pd_var 1) pd_int)) (pgd_tup rfl (pgsd_cons 2 sczRing_forth.nd rfl (by first | exact Or.inl rfl | exact Or.inr rfl) (pgsd_cons 3 sczRing_forth.nd rfl (by first | exact Or.inl rfl | exact Or.inr rfl) (pgsd_cons 4 sczRing_forth.nd rfl (by first | exact Or.inl rfl | exact Or.inr rfl) pgsd_nil)))) (pds_one (pd_expr (pd_mt hzRing_put cl_Ring hr (by decide) (pd_var 0) (pda_cons (pd_var 2) (pda_cons (pd_var 4) pda_nil)))))) (pds_one (pd_ret (pd_ix (pd_var 1) pd_int)))))))
theorem okzRing_make_step {f : Addr} {fd : FuncData} (F : Fun K "make_step" "Ring.make_step" szRing_make_step f fd) (hm : Meth K (cv 5) "make_step" f) (hb : Binds K fd ["self", "name", "changes"] []) (b_tuple : mg "tuple" = none) (cl_Ring : Cls K (cv 5)) (na_Ring_made : NoAttr K (cv 5) "made") (na_Ring_row : NoAttr K (cv 5) "row") (hzRing_forth : MtX P w K mg base (cv 5) "forth" 2 (FzRing_forth cv)) : MtX P w K mg base (cv 5) "make_step" 3 (FzRing_make_step cv) :=
 mtXAt (k:=2) F sczRing_make_step hm hb fun cdv A outer s H E hr hx hxr => (pds_cons (pd_fldF (pd_var 0) (pdf_op op_catL (pd_F (pdf_slice sl_F (pd_fld (pd_var 0) cl_Ring na_Ring_row) pdo_none (pdo_some (pd_fld (pd_var 0) cl_Ring na_Ring_made)))) (pd_F (pdf_lst (pda_cons (pd_tup (pda_cons (pd_var 1) (pda_cons (pd_callTy call_tupleD rfl b_tuple PyProof.Rows.boot_tuple (pda_cons (pd_var 2) pda_nil)) pda_nil))) pda_nil)))) cl_Ring na_Ring_row) (pds_one (pd_expr (pd_mtX0 hzRing_forth hx cl_Ring hr (by decide) (pd_var 0)))))
theorem okzRing_lose {f : Addr} {fd : FuncData} (F : Fun K "lose" "Ring.lose" szRing_lose f fd) (hm : Meth K (cv 5) "lose" f) (hb : Binds K fd ["self", "word"] []) (cl_Ring : Cls K (cv 5)) (hzRing_find : MtX P w K mg base (cv 5) "find" 1 (FzRing_find cv)) (hzRing_make_step : MtX P w K mg base (cv 5) "make_step" 3 (FzRing_make_step cv)) : MtX P w K mg base (cv 5) "lose" 4 (FzRing_lose cv) :=
 mtXAt (k:=3) F sczRing_lose hm hb fun cdv A outer s H E hr hx hxr => (pds_cons (pd_set 2 sczRing_lose.nd rfl (by first | exact Or.inl rfl | exact Or.inr rfl) (pd_mtX hzRing_find hx cl_Ring hr (by decide) (pd_var 0) (pda_cons (pd_var 1) pda_nil))) (pds_cons (pd_expr (pd_mtX hzRing_make_step hx cl_Ring hr (by decide) (pd_var 0) (pda_cons pd_str (pda_cons (pd_F (pdf_lst (pda_cons (pd_tup (pda_cons (pd_var 1) (pda_cons (pd_var 2) (pda_cons pd_non pda_nil)))) pda_nil))) pda_nil)))) (pds_one (pd_ret (pd_var 2)))))
theorem okzis_under {f : Addr} {fd : FuncData} (F : Fun K "is_under" "is_under" szis_under f fd) (hm : mg "is_under" = some (.ref f)) (hb : Binds K fd ["place", "other"] []) (b_len : mg "len" = none) : FnAt P w K mg base "is_under" 1 Fzis_under :=
 fnAt (k:=0) F sczis_under hm hb fun cdv A outer s H E hr => (pds_one (pd_ret (pd_cmp (op_eqD hr.units) (pd_slice sl_T (pd_var 0) pdo_none (pdo_some (pd_callB call_lenD rfl b_len PySem.boot_len (pda_cons (pd_var 1) pda_nil)))) (pd_var 1))))
theorem okzRing_words_under {f : Addr} {fd : FuncData} (F : Fun K "words_under" "Ring.words_under" szRing_words_under f fd) (hm : Meth K (cv 5) "words_under" f) (hb : Binds K fd ["self", "place"] []) (cl_Ring : Cls K (cv 5)) (na_Ring_kept : NoAttr K (cv 5) "kept") (hzRing_words : MtAt P w K mg base (cv 5) "words" 1 (FzRing_words cv)) (hzis_under : FnAt P w K mg base "is_under" 1 Fzis_under) : MtAt P w K mg base (cv 5) "words_under" 2 (FzRing_words_under cv) :=
 mtAt (k := 1) F sczRing_words_under hm hb fun cdv A outer s H E hr => (pds_one (pd_retF (pdf_lc rfl ⟨Blk.of (N := ["word", "place", "self"]) (caps := [1, 0]) (nT := 1) (by show blkB (defScope szRing_words_under) _ ["self", "place"] _ _ _ = true; decide +kernel), fun _ _ _ _ => (pgd_name 0 (by show (["word", "place", "self"] : List Str).Nodup; decide +kernel) rfl (by first | exact Or.inl rfl | exact Or.inr rfl)), fun _ _ _ _ => pts_one (pdt_val (pd_fn hzis_under hr (by decide) rfl (pda_cons (pd_dget hr.units (pd_fld (pd_var 2) cl_Ring na_Ring_kept) (pd_var 0)) (pda_cons (pd_var 1) pda_nil)))), fun _ _ _ _ => (pd_var 0)⟩ (pid_seq (pd_mt0 hzRing_words cl_Ring hr (by decide) (pd_var 0))))))
theorem okzis_too_long {f : Addr} {fd : FuncData} (F : Fun K "is_too_long" "is_too_long" szis_too_long f fd) (hm : mg "is_too_long" = some (.ref f)) (hb : Binds K fd ["words"] []) (b_len : mg "len" = none) {t_MOST_WORDS : Tok} (c_MOST_WORDS : mg "MOST_WORDS" = some (Value.int 6 t_MOST_WORDS)) : FnAt P w K mg base "is_too_long" 1 Fzis_too_long :=
 fnAt (k:=0) F sczis_too_long hm hb fun cdv A outer s H E hr => (pds_one (pd_ret (pd_cmp op_gtD (pd_callB call_lenD rfl b_len PySem.boot_len (pda_cons (pd_var 0) pda_nil)) (pd_glob (v:=.int 6) rfl c_MOST_WORDS ⟨_, rfl⟩ (fun _ _ => Rep.int_i.mpr rfl)))))
theorem okzRing_shift {f : Addr} {fd : FuncData} (F : Fun K "shift" "Ring.shift" szRing_shift f fd) (hm : Meth K (cv 5) "shift" f) (hb : Binds K fd ["self", "old", "new"] []) (b_len : mg "len" = none) (cl_Ring : Cls K (cv 5)) (mg_NoPlace : mg "NoPlace" = some (.ref (cv 11))) (na_Ring_kept : NoAttr K (cv 5) "kept") (xc_NoPlace : PySem.W.excIn K (cv 11) [.type "ValueError", .type "Exception", .type "BaseException", .type "object"] "ValueError.__new__" = true) (hzRing_make_step : MtX P w K mg base (cv 5) "make_step" 3 (FzRing_make_step cv)) (hzRing_words_under : MtAt P w K mg base (cv 5) "words_under" 2 (FzRing_words_under cv)) (hzis_too_long : FnAt P w K mg base "is_too_long" 1 Fzis_too_long) : MtX P w K mg base (cv 5) "shift" 4 (FzRing_shift cv) :=
 mtXAt (k:=3) F sczRing_shift hm hb fun cdv A outer s H E hr hx hxr => (pds_cons (pd_setF 3 sczRing_shift.nd rfl (by first | exact Or.inl rfl | exact Or.inr rfl) (pdf_lst pda_nil)) (pds_cons (pd_for hx.own rfl (pid_seq (pd_mt hzRing_words_under cl_Ring hr (by decide) (pd_var 0) (pda_cons (pd_var 1) pda_nil))) (pgd_name 4 sczRing_shift.nd rfl (by first | exact Or.inl rfl | exact Or.inr rfl)) (pds_cons (pd_set 5 sczRing_shift.nd rfl (by first | exact Or.inl rfl | exact Or.inr rfl) (pd_dget hr.units (pd_fld (pd_var 0) cl_Ring na_Ring_kept) (pd_var 4))) (pds_cons (pd_set 6 sczRing_shift.nd rfl (by first | exact Or.inl rfl | exact Or.inr rfl) (pd_op op_addD (pd_var 2) (pd_slice sl_T (pd_var 5) (pdo_some (pd_callB call_lenD rfl b_len PySem.boot_len (pda_cons (pd_var 1) pda_nil))) pdo_none))) (pds_cons (pd_if (pdt_val (pd_fn hzis_too_long hr (by decide) rfl (pda_cons (pd_var 6) pda_nil))) (pds_one (pd_raise hxr rfl rfl mg_NoPlace xc_NoPlace PySem.F.excBase_ValueError (pda_cons pd_str pda_nil))) pds_nil) (pds_one (pd_expr (pd_append (pd_var 3) (pd_tup (pda_cons (pd_var 4) (pda_cons (pd_var 5) (pda_cons (pd_var 6) pda_nil))))))))))) (pds_cons (pd_expr (pd_mtX hzRing_make_step hx cl_Ring hr (by decide) (pd_var 0) (pda_cons pd_str (pda_cons (pd_var 3) pda_nil)))) (pds_one (pd_ret (pd_callB call_lenD rfl b_len PySem.boot_len (pda_cons (pd_var 3) pda_nil)))))))
theorem okzRing_keep {f : Addr} {fd : FuncData} (F : Fun K "keep" "Ring.keep" szRing_keep f fd) (hm : Meth K (cv 5) "keep" f) (hb : Binds K fd ["self", "word", "place"] []) (cl_Ring : Cls K (cv 5)) (na_Ring_kept : NoAttr K (cv 5) "kept") (hzRing_make_step : MtX P w K mg base (cv 5) "make_step" 3 (FzRing_make_step cv)) : MtX P w K mg base (cv 5) "keep" 4 (FzRing_keep cv) :=
 mtXAt (k:=3) F sczRing_keep hm hb fun cdv A outer s H E hr hx hxr => (pds_cons (pd_set 3 sczRing_keep.nd rfl (by first | exact Or.inl rfl | exact Or.inr rfl) (pd_dget1 hr.units (pd_fld (pd_var 0) cl_Ring na_Ring_kept) (pd_var 1))) (pds_cons (pd_expr (pd_mtX hzRing_make_step hx cl_Ring hr (by decide) (pd_var 0) (pda_cons pd_str (pda_cons (pd_F (pdf_lst (pda_cons (pd_tup (pda_cons (pd_var 1) (pda_cons (pd_var 3) (pda_cons (pd_var 2) pda_nil)))) pda_nil))) pda_nil)))) (pds_one (pd_ret (pd_var 3)))))
theorem okz_law_step {f : Addr} {fd : FuncData} (F : Fun K "_law_step" "_law_step" sz_law_step f fd) (hm : mg "_law_step" = some (.ref f)) (hb : Binds K fd ["_law_script", "_law_at", "_law_ring"] []) (b_len : mg "len" = none) (b_max : mg "max" = none) (cl_Ring : Cls K (cv 5)) (hzRing_find : MtX P w K mg base (cv 5) "find" 1 (FzRing_find cv)) (hzRing_keep : MtX P w K mg base (cv 5) "keep" 4 (FzRing_keep cv)) (hzRing_lose : MtX P w K mg base (cv 5) "lose" 4 (FzRing_lose cv)) (hzRing_shift : MtX P w K mg base (cv 5) "shift" 4 (FzRing_shift cv)) (hzRing_words : MtAt P w K mg base (cv 5) "words" 1 (FzRing_words cv)) (hz_law_drawn : FnAt P w K mg base "_law_drawn" 2 Fz_law_drawn) (hz_law_place : FnAt P w K mg base "_law_place" 3 Fz_law_place) : FnX P w K mg base "_law_step" 5 (Fz_law_step cv) :=
 fnXAt (k := 4) F scz_law_step hm hb fun cdv A outer s H E hr hx hxr => (pds_cons (pd_set 3 scz_law_step.nd rfl (by first | exact Or.inl rfl | exact Or.inr rfl) (pd_fn hz_law_drawn hr (by decide) rfl (pda_cons (pd_var 0) (pda_cons (pd_var 1) (pda_cons pd_int pda_nil))))) (pds_cons (pd_set 4 scz_law_step.nd rfl (by first | exact Or.inl rfl | exact Or.inr rfl) (pd_mt0 hzRing_words cl_Ring hr (by decide) (pd_var 2))) (pds_cons (pd_par 5 6 scz_law_step.nd rfl rfl (pda_cons (pd_slice sl_T (pd_fn hz_law_place hr (by decide) rfl (pda_cons (pd_var 0) (pda_cons (pd_op op_addD (pd_var 1) pd_int) pda_nil))) pdo_none (pdo_some pd_int)) (pda_cons (pd_slice sl_T (pd_fn hz_law_place hr (by decide) rfl (pda_cons (pd_var 0) (pda_cons (pd_op op_addD (pd_var 1) pd_int) pda_nil))) pdo_none (pdo_some pd_int)) pda_nil))) (pds_cons (pd_set 7 scz_law_step.nd rfl (by first | exact Or.inl rfl | exact Or.inr rfl) (pd_callB (call_maxLD rfl) rfl b_max PyProof.Rows.boot_max (pda_cons (pd_F (pdf_op op_catL (pd_F (pdf_lc rfl ⟨Blk.of (N := ["_law_word", "_law_ring"]) (caps := [2]) (nT := 1) (by show blkB (defScope sz_law_step) _ ["_law_script", "_law_at", "_law_ring", "_law_way", "_law_some", "_law_old", "_law_new", "_law_longest"] _ _ _ = true; decide +kernel), fun _ _ _ _ => (pgd_name 0 (by show (["_law_word", "_law_ring"] : List Str).Nodup; decide +kernel) rfl (by first | exact Or.inl rfl | exact Or.inr rfl)), fun _ _ _ _ => pts_nil, fun _ _ _ _ => (pd_callB call_lenD rfl b_len PySem.boot_len (pda_cons (pd_mtX hzRing_find xt_comp cl_Ring hr (by decide) (pd_var 1) (pda_cons (pd_var 0) pda_nil)) pda_nil))⟩ (pid_seq (pd_var 4)))) (pd_F (pdf_lst (pda_cons pd_int pda_nil))))) pda_nil))) (pds_one (pd_if (PDW.pt (pdw_and (pdt_cmp (op_eqD hr.units) (pd_var 3) pd_int) (pdw_and1 (pdt_cmp (op_neD hr.units) (pd_var 4) (pd_F (pdf_lst pda_nil)))))) (pds_one (pd_expr (pd_mtX hzRing_lose hx cl_Ring hr (by decide) (pd_var 2) (pda_cons (pd_ix (pd_var 4) (pd_fn hz_law_drawn hr (by decide) rfl (pda_cons (pd_var 0) (pda_cons (pd_op op_addD (pd_var 1) pd_int) (pda_cons (pd_callB call_lenD rfl b_len PySem.boot_len (pda_cons (pd_var 4) pda_nil)) pda_nil))))) pda_nil)))) (pds_one (pd_if (PDW.pt (pdw_and (pdt_cmp (op_eqD hr.units) (pd_var 3) pd_int) (pdw_and1 (pdt_cmp op_ltD (pd_var 7) pd_int)))) (pds_one (pd_expr (pd_mtX hzRing_shift hx cl_Ring hr (by decide) (pd_var 2) (pda_cons (pd_var 5) (pda_cons (pd_var 6) pda_nil))))) (pds_one (pd_expr (pd_mtX hzRing_keep hx cl_Ring hr (by decide) (pd_var 2) (pda_cons (pd_ix (pd_F (pdf_lst (pda_cons pd_str (pda_cons pd_str (pda_cons pd_str pda_nil))))) (pd_fn hz_law_drawn hr (by decide) rfl (pda_cons (pd_var 0) (pda_cons (pd_op op_addD (pd_var 1) pd_int) (pda_cons pd_int pda_nil))))) (pda_cons (pd_fn hz_law_place hr (by decide) rfl (pda_cons (pd_var 0) (pda_cons (pd_op op_addD (pd_var 1) pd_int) pda_nil))) pda_nil)))))))))))))
theorem okzplace_text {f : Addr} {fd : FuncData} (F : Fun K "place_text" "place_text" szplace_text f fd) (hm : mg "place_text" = some (.ref f)) (hb : Binds K fd ["place"] [])  : FnAt P w K mg base "place_text" 1 Fzplace_text :=
 fnAt (k:=0) F sczplace_text hm hb fun cdv A outer s H E hr => (pds_one (pd_ret (pd_op op_addD pd_str (pd_join pd_str (pd_var 0)))))
theorem okzring_line {f : Addr} {fd : FuncData} (F : Fun K "ring_line" "ring_line" szring_line f fd) (hm : mg "ring_line" = some (.ref f)) (hb : Binds K fd ["word", "place"] []) (hzplace_text : FnAt P w K mg base "place_text" 1 Fzplace_text) : FnAt P w K mg base "ring_line" 2 Fzring_line :=
 fnAt (k:=1) F sczring_line hm hb fun cdv A outer s H E hr => (pds_one (pd_ret (pd_op op_addD (pd_op op_addD (pd_op op_addD (pd_var 0) pd_str) (pd_fn hzplace_text hr (by decide) rfl (pda_cons (pd_var 1) pda_nil))) pd_str)))
theorem okzring_text {f : Addr} {fd : FuncData} (F : Fun K "ring_text" "ring_text" szring_text f fd) (hm : mg "ring_text" = some (.ref f)) (hb : Binds K fd ["ring"] []) (cl_Ring : Cls K (cv 5)) (hzRing_find : MtX P w K mg base (cv 5) "find" 1 (FzRing_find cv)) (hzRing_words : MtAt P w K mg base (cv 5) "words" 1 (FzRing_words cv)) (hzring_line : FnAt P w K mg base "ring_line" 2 Fzring_line) : FnX P w K mg base "ring_text" 3 (Fzring_text cv) :=
 fnXAt (k := 2) F sczring_text hm hb fun cdv A outer s H E hr hx hxr => (pds_one (pd_ret (pd_join pd_str (pd_F (pdf_lc rfl ⟨Blk.of (N := ["word", "ring"]) (caps := [0]) (nT := 1) (by show blkB (defScope szring_text) _ ["ring"] _ _ _ = true; decide +kernel), fun _ _ _ _ => (pgd_name 0 (by show (["word", "ring"] : List Str).Nodup; decide +kernel) rfl (by first | exact Or.inl rfl | exact Or.inr rfl)), fun _ _ _ _ => pts_nil, fun _ _ _ _ => (pd_fn hzring_line hr (by decide) rfl (pda_cons (pd_var 0) (pda_cons (pd_mtX hzRing_find xt_comp cl_Ring hr (by decide) (pd_var 1) (pda_cons (pd_var 0) pda_nil)) pda_nil)))⟩ (pid_seq (pd_mt0 hzRing_words cl_Ring hr (by decide) (pd_var 0))))))))
theorem okzlines_of {f : Addr} {fd : FuncData} (F : Fun K "lines_of" "lines_of" szlines_of f fd) (hm : mg "lines_of" = some (.ref f)) (hb : Binds K fd ["text"] []) (mg_NoText : mg "NoText" = some (.ref (cv 16))) (xc_NoText : PySem.W.excIn K (cv 16) [.type "ValueError", .type "Exception", .type "BaseException", .type "object"] "ValueError.__new__" = true) : FnX P w K mg base "lines_of" 1 (Fzlines_of cv) :=
 fnXAt (k:=0) F sczlines_of hm hb fun cdv A outer s H E hr hx hxr => (pds_cons (pd_if (PDW.pt (pdw_and (pdt_cmp (op_neD hr.units) (pd_var 0) pd_str) (pdw_and1 (pdt_not (pdt_val (pd_sm PySem.F.slot_str_endswith PySem.F.type_str_endswith mt_endsD (pd_var 0) (pda_cons pd_str pda_nil))))))) (pds_one (pd_raise hxr rfl rfl mg_NoText xc_NoText PySem.F.excBase_ValueError (pda_cons pd_str pda_nil))) pds_nil) (pds_one (pd_ret (pd_F (pdf_slice sl_F (pd_F (pdf_split (pd_var 0) (pda_cons pd_str pda_nil))) pdo_none (pdo_some (pd_neg pd_int)))))))
theorem okzis_letter {f : Addr} {fd : FuncData} (F : Fun K "is_letter" "is_letter" szis_letter f fd) (hm : mg "is_letter" = some (.ref f)) (hb : Binds K fd ["sign"] [])  : FnAt P w K mg base "is_letter" 1 Fzis_letter :=
 fnAt (k:=0) F sczis_letter hm hb fun cdv A outer s H E hr => (pds_one (pd_ret (pd_chain op_leX op_leX pd_str (pd_var 0) pd_str)))
theorem okzis_word {f : Addr} {fd : FuncData} (F : Fun K "is_word" "is_word" szis_word f fd) (hm : mg "is_word" = some (.ref f)) (hb : Binds K fd ["thing"] []) (b_all : mg "all" = none) (b_isinstance : mg "isinstance" = none) (b_len : mg "len" = none) (b_str : mg "str" = none) {t_MOST_LETTERS : Tok} (c_MOST_LETTERS : mg "MOST_LETTERS" = some (Value.int 4 t_MOST_LETTERS)) (hzis_letter : FnAt P w K mg base "is_letter" 1 Fzis_letter) : FnAt P w K mg base "is_word" 2 Fzis_word :=
 fnAt (k := 1) F sczis_word hm hb fun cdv A outer s H E hr => (pds_cons (pd_if (pdt_not (pdt_val (pd_inst (T := "str") (by decide) (pd_var 0) rfl b_isinstance rfl b_str PyProof.Rows.boot_str))) (pds_one (pd_ret pd_bl)) pds_nil) (pds_one (pd_ret (pd_and (pd_chain op_leX op_leX pd_int (pd_callB call_lenD rfl b_len PySem.boot_len (pda_cons (pd_var 0) pda_nil)) (pd_glob (v := .int 4) rfl c_MOST_LETTERS ⟨_, rfl⟩ (fun _ _ => Rep.int_i.mpr rfl))) (pd_one (pd_callB (call_allD rfl) rfl b_all PyProof.Rows.boot_all (pda_cons (pd_F (pdf_lc rfl ⟨Blk.of (N := ["sign"]) (caps := []) (nT := 1) (by show blkB (defScope szis_word) _ ["thing"] _ _ _ = true; decide +kernel), fun _ _ _ _ => (pgd_name 0 (by show (["sign"] : List Str).Nodup; decide +kernel) rfl (by first | exact Or.inl rfl | exact Or.inr rfl)), fun _ _ _ _ => pts_nil, fun _ _ _ _ => (pd_fn hzis_letter hr (by decide) rfl (pda_cons (pd_var 0) pda_nil))⟩ (pid_signs (pd_var 0)))) pda_nil)))))))
theorem okzis_place {f : Addr} {fd : FuncData} (F : Fun K "is_place" "is_place" szis_place f fd) (hm : mg "is_place" = some (.ref f)) (hb : Binds K fd ["thing"] []) (b_all : mg "all" = none) (b_isinstance : mg "isinstance" = none) (b_tuple : mg "tuple" = none) (hzis_too_long : FnAt P w K mg base "is_too_long" 1 Fzis_too_long) (hzis_word : FnAt P w K mg base "is_word" 2 Fzis_word) : FnAt P w K mg base "is_place" 3 Fzis_place :=
 fnAt (k := 2) F sczis_place hm hb fun cdv A outer s H E hr => (pds_cons (pd_if (pdt_not (pdt_val (pd_inst (T := "tuple") (by decide) (pd_var 0) rfl b_isinstance rfl b_tuple PyProof.Rows.boot_tuple))) (pds_one (pd_ret pd_bl)) pds_nil) (pds_one (pd_ret (pd_and (pd_not (pd_fn hzis_too_long hr (by decide) rfl (pda_cons (pd_var 0) pda_nil))) (pd_one (pd_callB (call_allD rfl) rfl b_all PyProof.Rows.boot_all (pda_cons (pd_F (pdf_lc rfl ⟨Blk.of (N := ["part"]) (caps := []) (nT := 1) (by show blkB (defScope szis_place) _ ["thing"] _ _ _ = true; decide +kernel), fun _ _ _ _ => (pgd_name 0 (by show (["part"] : List Str).Nodup; decide +kernel) rfl (by first | exact Or.inl rfl | exact Or.inr rfl)), fun _ _ _ _ => pts_nil, fun _ _ _ _ => (pd_fn hzis_word hr (by decide) rfl (pda_cons (pd_var 0) pda_nil))⟩ (pid_seq (pd_var 0)))) pda_nil)))))))
theorem okzread_place {f : Addr} {fd : FuncData} (F : Fun K "read_place" "read_place" szread_place f fd) (hm : mg "read_place" = some (.ref f)) (hb : Binds K fd ["text"] []) (b_tuple : mg "tuple" = none) (mg_NoText : mg "NoText" = some (.ref (cv 16))) (xc_NoText : PySem.W.excIn K (cv 16) [.type "ValueError", .type "Exception", .type "BaseException", .type "object"] "ValueError.__new__" = true) (hzis_place : FnAt P w K mg base "is_place" 3 Fzis_place) (hzplace_text : FnAt P w K mg base "place_text" 1 Fzplace_text) : FnX P w K mg base "read_place" 4 (Fzread_place cv) :=
 fnXAt (k:=3) F sczread_place hm hb fun cdv A outer s H E hr hx hxr => (pds_cons (pd_set 1 sczread_place.nd rfl (by first | exact Or.inl rfl | exact Or.inr rfl) (pd_ifExp (pdt_cmp (op_eqD hr.units) (pd_var 0) pd_str) (pd_tup pda_nil) (pd_callTy call_tupleD rfl b_tuple PyProof.Rows.boot_tuple (pda_cons (pd_F (pdf_slice sl_F (pd_F (pdf_split (pd_var 0) (pda_cons pd_str pda_nil))) (pdo_some pd_int) pdo_none)) pda_nil)))) (pds_cons (pd_if (PDW.pt (pdw_or (pdt_not (pdt_val (pd_fn hzis_place hr (by decide) rfl (pda_cons (pd_var 1) pda_nil)))) (pdw_or1 (pdt_cmp (op_neD hr.units) (pd_fn hzplace_text hr (by decide) rfl (pda_cons (pd_var 1) pda_nil)) (pd_var 0))))) (pds_one (pd_raise hxr rfl rfl mg_NoText xc_NoText PySem.F.excBase_ValueError (pda_cons pd_str pda_nil))) pds_nil) (pds_one (pd_ret (pd_var 1)))))
theorem okzring_of {f : Addr} {fd : FuncData} (F : Fun K "ring_of" "ring_of" szring_of f fd) (hm : mg "ring_of" = some (.ref f)) (hb : Binds K fd ["places"] []) (b_dict : mg "dict" = none) (cl_Ring : Cls K (cv 5)) (na_Ring_kept : NoAttr K (cv 5) "kept") (hzRing___init__ : MkAt P w K mg base "Ring" (cv 5) 1 (FzRing___init__ cv)) : FnAt P w K mg base "ring_of" 3 (Fzring_of cv) :=
 fnAt (k:=2) F sczring_of hm hb fun cdv A outer s H E hr => (pds_cons (pd_set 1 sczring_of.nd rfl (by first | exact Or.inl rfl | exact Or.inr rfl) (pd_mk0 hzRing___init__ hr (by decide) rfl)) (pds_cons (pd_fldS (pd_var 1) (pd_callTy call_dictD rfl b_dict PyProof.Rows.boot_dict (pda_cons (pd_var 0) pda_nil)) cl_Ring na_Ring_kept) (pds_one (pd_ret (pd_var 1)))))
theorem okzread_ring {f : Addr} {fd : FuncData} (F : Fun K "read_ring" "read_ring" szread_ring f fd) (hm : mg "read_ring" = some (.ref f)) (hb : Binds K fd ["text"] []) (b_len : mg "len" = none) (mg_NoText : mg "NoText" = some (.ref (cv 16))) (xc_NoText : PySem.W.excIn K (cv 16) [.type "ValueError", .type "Exception", .type "BaseException", .type "object"] "ValueError.__new__" = true) (hzis_word : FnAt P w K mg base "is_word" 2 Fzis_word) (hzlines_of : FnX P w K mg base "lines_of" 1 (Fzlines_of cv)) (hzread_place : FnX P w K mg base "read_place" 4 (Fzread_place cv)) (hzring_of : FnAt P w K mg base "ring_of" 3 (Fzring_of cv)) (hzring_text : FnX P w K mg base "ring_text" 3 (Fzring_text cv)) : FnX P w K mg base "read_ring" 5 (Fzread_ring cv) :=
 fnXAt (k:=4) F sczread_ring hm hb fun cdv A outer s H E hr hx hxr => (pds_cons (pd_set 1 sczread_ring.nd rfl (by first | exact Or.inl rfl | exact Or.inr rfl) pd_dnewK) (pds_cons (pd_for hx.own rfl (pid_seq (pd_fnX hzlines_of hx hr (by decide) rfl (pda_cons (pd_var 0) pda_nil))) (pgd_name 2 sczread_ring.nd rfl (by first | exact Or.inl rfl | exact Or.inr rfl)) (pds_cons (pd_set 3 sczread_ring.nd rfl (by first | exact Or.inl rfl | exact Or.inr rfl) (pd_F (pdf_split (pd_var 2) (pda_cons pd_str pda_nil)))) (pds_cons (pd_if (PDW.pt (pdw_or (pdt_cmp (op_neD hr.units) (pd_callB call_lenD rfl b_len PySem.boot_len (pda_cons (pd_var 3) pda_nil)) pd_int) (pdw_or1 (pdt_not (pdt_val (pd_fn hzis_word hr (by decide) rfl (pda_cons (pd_ix (pd_var 3) pd_int) pda_nil))))))) (pds_one (pd_raise hxr rfl rfl mg_NoText xc_NoText PySem.F.excBase_ValueError (pda_cons pd_str pda_nil))) pds_nil) (pds_one (pd_dput hr.units (pd_var 1) (pd_ix (pd_var 3) pd_int) (pd_fnX hzread_place hx hr (by decide) rfl (pda_cons (pd_ix (pd_var 3) pd_int) pda_nil))))))) (pds_cons (pd_set 4 sczread_ring.nd rfl (by first | exact Or.inl rfl | exact Or.inr rfl) (pd_fn hzring_of hr (by decide) rfl (pda_cons (pd_var 1) pda_nil))) (pds_cons (pd_if (pdt_cmp (op_neD hr.units) (pd_fnX hzring_text hx hr (by decide) rfl (pda_cons (pd_var 4) pda_nil)) (pd_var 0)) (pds_one (pd_raise hxr rfl rfl mg_NoText xc_NoText PySem.F.excBase_ValueError (pda_cons pd_str pda_nil))) pds_nil) (pds_one (pd_ret (pd_var 4)))))))
theorem okz_law_refused {f : Addr} {fd : FuncData} (F : Fun K "_law_refused" "_law_refused" sz_law_refused f fd) (hm : mg "_law_refused" = some (.ref f)) (hb : Binds K fd ["_law_e"] []) (b_ValueError : mg "ValueError" = none) (b_isinstance : mg "isinstance" = none) (ec_NoPlace : ExcC K (cv 11)) (ec_NoText : ExcC K (cv 16)) (ki_NoPlace_NoPlace_true : PySem.W.kitOne K (.ref (cv 11)) (.ref (cv 11)) = some true) (ki_NoPlace_NoText_false : PySem.W.kitOne K (.ref (cv 11)) (.ref (cv 16)) = some false) (ki_NoText_NoPlace_false : PySem.W.kitOne K (.ref (cv 16)) (.ref (cv 11)) = some false) (ki_NoText_NoText_true : PySem.W.kitOne K (.ref (cv 16)) (.ref (cv 16)) = some true) (kt_NoPlace_ValueError_true : PySem.W.kitOne K (.ref (cv 11)) (.type "ValueError") = some true) (kt_NoText_ValueError_true : PySem.W.kitOne K (.ref (cv 16)) (.type "ValueError") = some true) (mg_NoPlace : mg "NoPlace" = some (.ref (cv 11))) (mg_NoText : mg "NoText" = some (.ref (cv 16))) : FnHAt P w K mg base "_law_refused" 1 (Fz_law_refused cv) :=
 fnHAt (k := 0) F scz_law_refused hm hb fun cdv A outer s H hr => (pds_cons (pd_set 1 scz_law_refused.nd rfl (by first | exact Or.inl rfl | exact Or.inr rfl) (pd_F (pdf_lst (pda_cons (pd_instX (v := .ref (cv 11)) (fun _ h => h) (pd_var 0) (pe_glob rfl mg_NoPlace rfl) (tab_cons ec_NoPlace ki_NoPlace_NoPlace_true (tab_cons ec_NoText ki_NoText_NoPlace_false tab_nil)) rfl b_isinstance) (pda_cons (pd_instX (v := .ref (cv 16)) (fun _ h => h) (pd_var 0) (pe_glob rfl mg_NoText rfl) (tab_cons ec_NoPlace ki_NoPlace_NoText_false (tab_cons ec_NoText ki_NoText_NoText_true tab_nil)) rfl b_isinstance) pda_nil))))) (pds_cons (pd_if (PDW.pt (pdw_or (pdt_cmp (op_neD hr.units) (pd_lm PySem.F.slot_list_count PySem.F.type_list_count (mt_countD hr.units) (pd_var 1) (pda_cons pd_bl pda_nil)) pd_int) (pdw_or1 (pdt_not (pdt_val (pd_instX (v := .ty "ValueError") (fun _ h => h) (pd_var 0) (pe_bltn rfl b_ValueError PyProof.Rows.Boot.«ValueError» rfl) (tab_cons ec_NoPlace kt_NoPlace_ValueError_true (tab_cons ec_NoText kt_NoText_ValueError_true tab_nil)) rfl b_isinstance)))))) (pds_one (pd_ret (pd_tup (pda_cons pd_str (pda_cons (pd_neg pd_int) pda_nil))))) pds_nil) (pds_one (pd_ret (pd_tup (pda_cons pd_str (pda_cons (pd_lm PySem.F.slot_list_index PySem.F.type_list_index (mt_indexD hr.units) (pd_var 1) (pda_cons pd_bl pda_nil)) pda_nil)))))))
theorem okz_law_told {f : Addr} {fd : FuncData} (F : Fun K "_law_told" "_law_told" sz_law_told f fd) (hm : mg "_law_told" = some (.ref f)) (hb : Binds K fd ["_law_text"] []) (ek_BookError : ExcK K (cv 10)) (mg_BookError : mg "BookError" = some (.ref (cv 10))) (sb_NoPlace_BookError : PySem.W.subIn K (.ref (cv 11)) (.ref (cv 10)) = some true) (sb_NoText_BookError : PySem.W.subIn K (.ref (cv 16)) (.ref (cv 10)) = some true) (hz_law_refused : FnHAt P w K mg base "_law_refused" 1 (Fz_law_refused cv)) (hzread_ring : FnX P w K mg base "read_ring" 5 (Fzread_ring cv)) : FnAt P w K mg base "_law_told" 6 (Fz_law_told cv) :=
 fnAt (k:=5) F scz_law_told hm hb fun cdv A outer s H E hr => (pds_one (pd_tryAs 1 rfl rfl scz_law_told.nd rfl rfl rfl mg_BookError ek_BookError (List.forall_mem_cons.mpr ⟨sb_NoPlace_BookError, (List.forall_mem_cons.mpr ⟨sb_NoText_BookError, (fun _ h => absurd h List.not_mem_nil)⟩)⟩) (fun pn E' EX' hx => (pds_one (pd_ret (pd_fnX hzread_ring hx hr (by decide) rfl (pda_cons (pd_var 0) pda_nil))))) (fun pn ea => (pds_one (pd_ret (pd_fnH hz_law_refused (RoomH.of hr _) (by decide) rfl (pda_cons (pd_var 1) pda_nil)))))))
theorem okzRing_sizes {f : Addr} {fd : FuncData} (F : Fun K "sizes" "Ring.sizes" szRing_sizes f fd) (hm : Meth K (cv 5) "sizes" f) (hb : Binds K fd ["self"] []) (b_len : mg "len" = none) (cl_Ring : Cls K (cv 5)) (na_Ring_made : NoAttr K (cv 5) "made") (na_Ring_row : NoAttr K (cv 5) "row") : MtAt P w K mg base (cv 5) "sizes" 1 (FzRing_sizes cv) :=
 mtAt (k:=0) F sczRing_sizes hm hb fun cdv A outer s H E hr => (pds_one (pd_ret (pd_tup (pda_cons (pd_fld (pd_var 0) cl_Ring na_Ring_made) (pda_cons (pd_op op_subD (pd_callB call_lenD rfl b_len PySem.boot_len (pda_cons (pd_fld (pd_var 0) cl_Ring na_Ring_row) pda_nil)) (pd_fld (pd_var 0) cl_Ring na_Ring_made)) pda_nil)))))
noncomputable abbrev Nzlaw : List Str := ["_law_script", "_law_ring", "_law_k", "_law_text", "_law_word", "_law_new", "_law_place_here", "_law_sign", "_law_spoilt", "_law_told_here", "_law_odd", "_law_known"]
theorem okzlaw_p1 (hzRing___init__ : MkAt P w K mg base "Ring" (cv 5) 1 (FzRing___init__ cv)) (fA : Addr) (cdv : Value) (A : Around) (outer : List Env) (s : Shared) (H : Hp) (E : XK) (hr : Room 6 (A.deeper (PyProof.Rows.envOfC "law" (defScope szlaw) s.heap.objs.size fA cdv))) : PDs (cxOf CX0 P w K mg base Nzlaw "law" (defScope szlaw) fA cdv A outer s H E).nox EX0 stzlaw_p1 (Pzlaw_p1 cv) := (pd_set 1 sczlaw.nd rfl (by first | exact Or.inl rfl | exact Or.inr rfl) (pd_mk0 hzRing___init__ hr (by decide) rfl))
theorem okzlaw_p2 (b_range : mg "range" = none) (hz_law_drawn : FnAt P w K mg base "_law_drawn" 2 Fz_law_drawn) (hz_law_step : FnX P w K mg base "_law_step" 5 (Fz_law_step cv)) (fA : Addr) (cdv : Value) (A : Around) (outer : List Env) (s : Shared) (H : Hp) (E : XK) (hr : Room 6 (A.deeper (PyProof.Rows.envOfC "law" (defScope szlaw) s.heap.objs.size fA cdv))) : PDs (cxOf CX0 P w K mg base Nzlaw "law" (defScope szlaw) fA cdv A outer s H E).nox EX0 stzlaw_p2 (Pzlaw_p2 cv) := (pd_for PassesOwn.never rfl (pid_range1 rfl b_range (pda_cons (pd_fn hz_law_drawn hr (by decide) rfl (pda_cons (pd_var 0) (pda_cons pd_int (pda_cons pd_int pda_nil)))) pda_nil)) (pgd_name 2 sczlaw.nd rfl (by first | exact Or.inl rfl | exact Or.inr rfl)) (pds_one (pd_expr (pd_fnX hz_law_step xt_nox hr (by decide) rfl (pda_cons (pd_var 0) (pda_cons (pd_op op_addD pd_int (pd_op op_mul2D pd_int (pd_var 2))) (pda_cons (pd_var 1) pda_nil)))))))
theorem okzlaw_p3  (fA : Addr) (cdv : Value) (A : Around) (outer : List Env) (s : Shared) (H : Hp) (E : XK) (hr : Room 6 (A.deeper (PyProof.Rows.envOfC "law" (defScope szlaw) s.heap.objs.size fA cdv))) : PDs (cxOf CX0 P w K mg base Nzlaw "law" (defScope szlaw) fA cdv A outer s H E).nox EX0 stzlaw_p3 Pzlaw_p3 := (pd_set 3 sczlaw.nd rfl (by first | exact Or.inl rfl | exact Or.inr rfl) pd_str)
theorem okzlaw_p4 (cl_Ring : Cls K (cv 5)) (hzRing_find : MtX P w K mg base (cv 5) "find" 1 (FzRing_find cv)) (hzRing_words : MtAt P w K mg base (cv 5) "words" 1 (FzRing_words cv)) (fA : Addr) (cdv : Value) (A : Around) (outer : List Env) (s : Shared) (H : Hp) (E : XK) (hr : Room 6 (A.deeper (PyProof.Rows.envOfC "law" (defScope szlaw) s.heap.objs.size fA cdv))) : PDs (cxOf CX0 P w K mg base Nzlaw "law" (defScope szlaw) fA cdv A outer s H E).nox EX0 stzlaw_p4 (Pzlaw_p4 cv) := (pd_for PassesOwn.never rfl (pid_seq (pd_mt0 hzRing_words cl_Ring hr (by decide) (pd_var 1))) (pgd_name 4 sczlaw.nd rfl (by first | exact Or.inl rfl | exact Or.inr rfl)) (pds_one (pd_set 3 sczlaw.nd rfl (by first | exact Or.inl rfl | exact Or.inr rfl) (pd_op op_addD (pd_op op_addD (pd_op op_addD (pd_op op_addD (pd_var 3) (pd_var 4)) pd_str) (pd_join pd_str (pd_mtX hzRing_find xt_nox cl_Ring hr (by decide) (pd_var 1) (pda_cons (pd_var 4) pda_nil)))) pd_str))))
theorem okzlaw_p5 (hzring_text : FnX P w K mg base "ring_text" 3 (Fzring_text cv)) (fA : Addr) (cdv : Value) (A : Around) (outer : List Env) (s : Shared) (H : Hp) (E : XK) (hr : Room 6 (A.deeper (PyProof.Rows.envOfC "law" (defScope szlaw) s.heap.objs.size fA cdv))) : PDs (cxOf CX0 P w K mg base Nzlaw "law" (defScope szlaw) fA cdv A outer s H E).nox EX0 stzlaw_p5 (Pzlaw_p5 cv) := (pd_if (pdt_cmp (op_neD hr.units) (pd_fnX hzring_text xt_nox hr (by decide) rfl (pda_cons (pd_var 1) pda_nil)) (pd_var 3)) (pds_one (pd_ret pd_bl)) pds_nil)
theorem okzlaw_p6 (hz_law_told : FnAt P w K mg base "_law_told" 6 (Fz_law_told cv)) (fA : Addr) (cdv : Value) (A : Around) (outer : List Env) (s : Shared) (H : Hp) (E : XK) (hr : Room 6 (A.deeper (PyProof.Rows.envOfC "law" (defScope szlaw) s.heap.objs.size fA cdv))) : PDs (cxOf CX0 P w K mg base Nzlaw "law" (defScope szlaw) fA cdv A outer s H E).nox EX0 stzlaw_p6 (Pzlaw_p6 cv) := (pd_set 5 sczlaw.nd rfl (by first | exact Or.inl rfl | exact Or.inr rfl) (pd_fn hz_law_told hr (by decide) rfl (pda_cons (pd_var 3) pda_nil)))
theorem okzlaw_p7 (cl_Ring : Cls K (cv 5)) (hzRing_words : MtAt P w K mg base (cv 5) "words" 1 (FzRing_words cv)) (fA : Addr) (cdv : Value) (A : Around) (outer : List Env) (s : Shared) (H : Hp) (E : XK) (hr : Room 6 (A.deeper (PyProof.Rows.envOfC "law" (defScope szlaw) s.heap.objs.size fA cdv))) : PDs (cxOf CX0 P w K mg base Nzlaw "law" (defScope szlaw) fA cdv A outer s H E).nox EX0 stzlaw_p7 (Pzlaw_p7 cv) := (pd_if (pdt_cmp (op_neD hr.units) (pd_mt0 hzRing_words cl_Ring hr (by decide) (pd_var 5)) (pd_mt0 hzRing_words cl_Ring hr (by decide) (pd_var 1))) (pds_one (pd_ret pd_bl)) pds_nil)
theorem okzlaw_p8 (cl_Ring : Cls K (cv 5)) (hzRing_find : MtX P w K mg base (cv 5) "find" 1 (FzRing_find cv)) (hzRing_words : MtAt P w K mg base (cv 5) "words" 1 (FzRing_words cv)) (fA : Addr) (cdv : Value) (A : Around) (outer : List Env) (s : Shared) (H : Hp) (E : XK) (hr : Room 6 (A.deeper (PyProof.Rows.envOfC "law" (defScope szlaw) s.heap.objs.size fA cdv))) : PDs (cxOf CX0 P w K mg base Nzlaw "law" (defScope szlaw) fA cdv A outer s H E).nox EX0 stzlaw_p8 (Pzlaw_p8 cv) := (pd_if (pdt_cmp (op_neD hr.units) (pd_F (pdf_lc rfl ⟨Blk.of (N := ["_law_word", "_law_new"]) (caps := [5]) (nT := 1) (by show blkB (defScope szlaw) _ Nzlaw _ _ _ = true; decide +kernel), fun _ _ _ _ => (pgd_name 0 (by show (["_law_word", "_law_new"] : List Str).Nodup; decide +kernel) rfl (by first | exact Or.inl rfl | exact Or.inr rfl)), fun _ _ _ _ => pts_nil, fun _ _ _ _ => (pd_mtX hzRing_find xt_comp cl_Ring hr (by decide) (pd_var 1) (pda_cons (pd_var 0) pda_nil))⟩ (pid_seq (pd_mt0 hzRing_words cl_Ring hr (by decide) (pd_var 5))))) (pd_F (pdf_lc rfl ⟨Blk.of (N := ["_law_word", "_law_ring"]) (caps := [1]) (nT := 1) (by show blkB (defScope szlaw) _ Nzlaw _ _ _ = true; decide +kernel), fun _ _ _ _ => (pgd_name 0 (by show (["_law_word", "_law_ring"] : List Str).Nodup; decide +kernel) rfl (by first | exact Or.inl rfl | exact Or.inr rfl)), fun _ _ _ _ => pts_nil, fun _ _ _ _ => (pd_mtX hzRing_find xt_comp cl_Ring hr (by decide) (pd_var 1) (pda_cons (pd_var 0) pda_nil))⟩ (pid_seq (pd_mt0 hzRing_words cl_Ring hr (by decide) (pd_var 1)))))) (pds_one (pd_ret pd_bl)) pds_nil)
theorem okzlaw_p9 (cl_Ring : Cls K (cv 5)) (hzRing_sizes : MtAt P w K mg base (cv 5) "sizes" 1 (FzRing_sizes cv)) (fA : Addr) (cdv : Value) (A : Around) (outer : List Env) (s : Shared) (H : Hp) (E : XK) (hr : Room 6 (A.deeper (PyProof.Rows.envOfC "law" (defScope szlaw) s.heap.objs.size fA cdv))) : PDs (cxOf CX0 P w K mg base Nzlaw "law" (defScope szlaw) fA cdv A outer s H E).nox EX0 stzlaw_p9 (Pzlaw_p9 cv) := (pd_if (pdt_cmp (op_neD hr.units) (pd_mt0 hzRing_sizes cl_Ring hr (by decide) (pd_var 5)) (pd_tup (pda_cons pd_int (pda_cons pd_int pda_nil)))) (pds_one (pd_ret pd_bl)) pds_nil)
theorem okzlaw_p11 (b_len : mg "len" = none) (hz_law_drawn : FnAt P w K mg base "_law_drawn" 2 Fz_law_drawn) (fA : Addr) (cdv : Value) (A : Around) (outer : List Env) (s : Shared) (H : Hp) (E : XK) (hr : Room 6 (A.deeper (PyProof.Rows.envOfC "law" (defScope szlaw) s.heap.objs.size fA cdv))) : PDs (cxOf CX0 P w K mg base Nzlaw "law" (defScope szlaw) fA cdv A outer s H E).nox EX0 stzlaw_p11 Pzlaw_p11 := (pd_set 6 sczlaw.nd rfl (by first | exact Or.inl rfl | exact Or.inr rfl) (pd_fn hz_law_drawn hr (by decide) rfl (pda_cons (pd_var 0) (pda_cons (pd_op op_addD pd_int (pd_op op_mul2D pd_int (pd_var 2))) (pda_cons (pd_op op_addD (pd_callB call_lenD rfl b_len PySem.boot_len (pda_cons (pd_var 3) pda_nil)) pd_int) pda_nil)))))
theorem okzlaw_p12 (hz_law_drawn : FnAt P w K mg base "_law_drawn" 2 Fz_law_drawn) (fA : Addr) (cdv : Value) (A : Around) (outer : List Env) (s : Shared) (H : Hp) (E : XK) (hr : Room 6 (A.deeper (PyProof.Rows.envOfC "law" (defScope szlaw) s.heap.objs.size fA cdv))) : PDs (cxOf CX0 P w K mg base Nzlaw "law" (defScope szlaw) fA cdv A outer s H E).nox EX0 stzlaw_p12 Pzlaw_p12 := (pd_set 7 sczlaw.nd rfl (by first | exact Or.inl rfl | exact Or.inr rfl) (pd_ix (pd_F (pdf_lst (pda_cons pd_str (pda_cons pd_str (pda_cons pd_str (pda_cons pd_str (pda_cons pd_str (pda_cons pd_str (pda_cons pd_str (pda_cons pd_str pda_nil)))))))))) (pd_fn hz_law_drawn hr (by decide) rfl (pda_cons (pd_var 0) (pda_cons (pd_op op_addD pd_int (pd_op op_mul2D pd_int (pd_var 2))) (pda_cons pd_int pda_nil))))))
theorem okzlaw_p13 (hz_law_drawn : FnAt P w K mg base "_law_drawn" 2 Fz_law_drawn) (fA : Addr) (cdv : Value) (A : Around) (outer : List Env) (s : Shared) (H : Hp) (E : XK) (hr : Room 6 (A.deeper (PyProof.Rows.envOfC "law" (defScope szlaw) s.heap.objs.size fA cdv))) : PDs (cxOf CX0 P w K mg base Nzlaw "law" (defScope szlaw) fA cdv A outer s H E).nox EX0 stzlaw_p13 Pzlaw_p13 := (pd_set 8 sczlaw.nd rfl (by first | exact Or.inl rfl | exact Or.inr rfl) (pd_op op_addD (pd_op op_addD (pd_slice sl_S (pd_var 3) pdo_none (pdo_some (pd_var 6))) (pd_var 7)) (pd_slice sl_S (pd_var 3) (pdo_some (pd_op op_addD (pd_var 6) (pd_fn hz_law_drawn hr (by decide) rfl (pda_cons (pd_var 0) (pda_cons (pd_op op_addD pd_int (pd_op op_mul2D pd_int (pd_var 2))) (pda_cons pd_int pda_nil)))))) pdo_none)))
theorem okzlaw_p14 (hz_law_told : FnAt P w K mg base "_law_told" 6 (Fz_law_told cv)) (fA : Addr) (cdv : Value) (A : Around) (outer : List Env) (s : Shared) (H : Hp) (E : XK) (hr : Room 6 (A.deeper (PyProof.Rows.envOfC "law" (defScope szlaw) s.heap.objs.size fA cdv))) : PDs (cxOf CX0 P w K mg base Nzlaw "law" (defScope szlaw) fA cdv A outer s H E).nox EX0 stzlaw_p14 (Pzlaw_p14 cv) := (pd_set 9 sczlaw.nd rfl (by first | exact Or.inl rfl | exact Or.inr rfl) (pd_fn hz_law_told hr (by decide) rfl (pda_cons (pd_var 8) pda_nil)))
theorem okzlaw_p15 (b_isinstance : mg "isinstance" = none) (b_tuple : mg "tuple" = none) (cl_Ring : Cls K (cv 5)) (it_Ring_tuple : InsT K (cv 5) "tuple") (hzring_text : FnX P w K mg base "ring_text" 3 (Fzring_text cv)) (fA : Addr) (cdv : Value) (A : Around) (outer : List Env) (s : Shared) (H : Hp) (E : XK) (hr : Room 6 (A.deeper (PyProof.Rows.envOfC "law" (defScope szlaw) s.heap.objs.size fA cdv))) : PDs (cxOf CX0 P w K mg base Nzlaw "law" (defScope szlaw) fA cdv A outer s H E).nox EX0 stzlaw_p15 (Pzlaw_p15 cv) := (pd_if (pdt_val (pd_instI (T := "tuple") (by decide) cl_Ring it_Ring_tuple (pd_var 9) rfl b_isinstance rfl b_tuple PyProof.Rows.boot_tuple)) (pds_one (pd_if (PDW.pt (pdw_or (pdt_cmp (op_neD hr.units) (pd_var 9) (pd_tup (pda_cons pd_str (pda_cons pd_int pda_nil)))) (pdw_or1 (pdt_cmp (op_eqD hr.units) (pd_var 8) (pd_var 3))))) (pds_one (pd_ret pd_bl)) pds_nil)) (pds_one (pd_if (pdt_cmp (op_neD hr.units) (pd_fnX hzring_text xt_nox hr (by decide) rfl (pda_cons (pd_var 9) pda_nil)) (pd_var 8)) (pds_one (pd_ret pd_bl)) pds_nil)))
theorem okzlaw_p10 (b_isinstance : mg "isinstance" = none) (b_len : mg "len" = none) (b_range : mg "range" = none) (b_tuple : mg "tuple" = none) (cl_Ring : Cls K (cv 5)) (it_Ring_tuple : InsT K (cv 5) "tuple") (hz_law_drawn : FnAt P w K mg base "_law_drawn" 2 Fz_law_drawn) (hz_law_told : FnAt P w K mg base "_law_told" 6 (Fz_law_told cv)) (hzring_text : FnX P w K mg base "ring_text" 3 (Fzring_text cv)) (fA : Addr) (cdv : Value) (A : Around) (outer : List Env) (s : Shared) (H : Hp) (E : XK) (hr : Room 6 (A.deeper (PyProof.Rows.envOfC "law" (defScope szlaw) s.heap.objs.size fA cdv))) : PDs (cxOf CX0 P w K mg base Nzlaw "law" (defScope szlaw) fA cdv A outer s H E).nox EX0 stzlaw_p10 (Pzlaw_p10 cv) := (pd_for PassesOwn.never rfl (pid_range1 rfl b_range (pda_cons pd_int pda_nil)) (pgd_name 2 sczlaw.nd rfl (by first | exact Or.inl rfl | exact Or.inr rfl)) (show PDS _ _ [stzlaw_p11, stzlaw_p12, stzlaw_p13, stzlaw_p14, stzlaw_p15] _ from (pds_cons (okzlaw_p11 b_len hz_law_drawn fA cdv A outer s H E hr) (pds_cons (okzlaw_p12 hz_law_drawn fA cdv A outer s H E hr) (pds_cons (okzlaw_p13 hz_law_drawn fA cdv A outer s H E hr) (pds_cons (okzlaw_p14 hz_law_told fA cdv A outer s H E hr) (pds_one (okzlaw_p15 b_isinstance b_tuple cl_Ring it_Ring_tuple hzring_text fA cdv A outer s H E hr))))))))
theorem okzlaw_p16  (fA : Addr) (cdv : Value) (A : Around) (outer : List Env) (s : Shared) (H : Hp) (E : XK) (hr : Room 6 (A.deeper (PyProof.Rows.envOfC "law" (defScope szlaw) s.heap.objs.size fA cdv))) : PDs (cxOf CX0 P w K mg base Nzlaw "law" (defScope szlaw) fA cdv A outer s H E).nox EX0 stzlaw_p16 Pzlaw_p16 := (pd_set 10 sczlaw.nd rfl (by first | exact Or.inl rfl | exact Or.inr rfl) (pd_F (pdf_lst (pda_cons pd_str (pda_cons pd_str (pda_cons pd_str (pda_cons pd_str (pda_cons pd_str (pda_cons pd_str (pda_cons pd_str (pda_cons pd_str (pda_cons pd_str (pda_cons pd_str pda_nil)))))))))))))
theorem okzlaw_p17  (fA : Addr) (cdv : Value) (A : Around) (outer : List Env) (s : Shared) (H : Hp) (E : XK) (hr : Room 6 (A.deeper (PyProof.Rows.envOfC "law" (defScope szlaw) s.heap.objs.size fA cdv))) : PDs (cxOf CX0 P w K mg base Nzlaw "law" (defScope szlaw) fA cdv A outer s H E).nox EX0 stzlaw_p17 Pzlaw_p17 := (pd_set 10 sczlaw.nd rfl (by first | exact Or.inl rfl | exact Or.inr rfl) (pd_F (pdf_op op_catL (pd_var 10) (pd_F (pdf_lst (pda_cons pd_str (pda_cons pd_str (pda_cons pd_str (pda_cons pd_str (pda_cons pd_str pda_nil))))))))))
theorem okzlaw_p18 (hz_law_told : FnAt P w K mg base "_law_told" 6 (Fz_law_told cv)) (fA : Addr) (cdv : Value) (A : Around) (outer : List Env) (s : Shared) (H : Hp) (E : XK) (hr : Room 6 (A.deeper (PyProof.Rows.envOfC "law" (defScope szlaw) s.heap.objs.size fA cdv))) : PDs (cxOf CX0 P w K mg base Nzlaw "law" (defScope szlaw) fA cdv A outer s H E).nox EX0 stzlaw_p18 (Pzlaw_p18 cv) := (pd_if (pdt_cmp (op_neD hr.units) (pd_F (pdf_lc rfl ⟨Blk.of (N := ["_law_bad"]) (caps := []) (nT := 1) (by show blkB (defScope szlaw) _ Nzlaw _ _ _ = true; decide +kernel), fun _ _ _ _ => (pgd_name 0 (by show (["_law_bad"] : List Str).Nodup; decide +kernel) rfl (by first | exact Or.inl rfl | exact Or.inr rfl)), fun _ _ _ _ => pts_one (pdt_cmp (op_neD hr.units) (pd_fn hz_law_told hr (by decide) rfl (pda_cons (pd_var 0) pda_nil)) (pd_tup (pda_cons pd_str (pda_cons pd_int pda_nil)))), fun _ _ _ _ => (pd_var 0)⟩ (pid_seq (pd_var 10)))) (pd_F (pdf_lst pda_nil))) (pds_one (pd_ret pd_bl)) pds_nil)
theorem okzlaw_p19 (hz_law_told : FnAt P w K mg base "_law_told" 6 (Fz_law_told cv)) (fA : Addr) (cdv : Value) (A : Around) (outer : List Env) (s : Shared) (H : Hp) (E : XK) (hr : Room 6 (A.deeper (PyProof.Rows.envOfC "law" (defScope szlaw) s.heap.objs.size fA cdv))) : PDs (cxOf CX0 P w K mg base Nzlaw "law" (defScope szlaw) fA cdv A outer s H E).nox EX0 stzlaw_p19 (Pzlaw_p19 cv) := (pd_set 11 sczlaw.nd rfl (by first | exact Or.inl rfl | exact Or.inr rfl) (pd_fn hz_law_told hr (by decide) rfl (pda_cons pd_str pda_nil)))
theorem okzlaw_p20 (cl_Ring : Cls K (cv 5)) (hzRing_find : MtX P w K mg base (cv 5) "find" 1 (FzRing_find cv)) (hzRing_words : MtAt P w K mg base (cv 5) "words" 1 (FzRing_words cv)) (hz_law_told : FnAt P w K mg base "_law_told" 6 (Fz_law_told cv)) (fA : Addr) (cdv : Value) (A : Around) (outer : List Env) (s : Shared) (H : Hp) (E : XK) (hr : Room 6 (A.deeper (PyProof.Rows.envOfC "law" (defScope szlaw) s.heap.objs.size fA cdv))) : PDs (cxOf CX0 P w K mg base Nzlaw "law" (defScope szlaw) fA cdv A outer s H E).nox EX0 stzlaw_p20 (Pzlaw_p20 cv) := (pd_ret (pd_and (pd_cmp (op_eqD hr.units) (pd_mtX hzRing_find xt_nox cl_Ring hr (by decide) (pd_var 11) (pda_cons pd_str pda_nil)) (pd_tup pda_nil)) (pd_and (pd_cmp (op_eqD hr.units) (pd_mtX hzRing_find xt_nox cl_Ring hr (by decide) (pd_var 11) (pda_cons pd_str pda_nil)) (pd_tup (pda_cons pd_str (pda_cons pd_str pda_nil)))) (pd_one (pd_cmp (op_eqD hr.units) (pd_mt0 hzRing_words cl_Ring hr (by decide) (pd_fn hz_law_told hr (by decide) rfl (pda_cons pd_str pda_nil))) (pd_F (pdf_lst pda_nil)))))))
theorem okzlaw {f : Addr} {fd : FuncData} (F : Fun K "law" "law" szlaw f fd) (b_isinstance : mg "isinstance" = none) (b_len : mg "len" = none) (b_range : mg "range" = none) (b_tuple : mg "tuple" = none) (cl_Ring : Cls K (cv 5)) (it_Ring_tuple : InsT K (cv 5) "tuple") (hzRing___init__ : MkAt P w K mg base "Ring" (cv 5) 1 (FzRing___init__ cv)) (hzRing_find : MtX P w K mg base (cv 5) "find" 1 (FzRing_find cv)) (hzRing_sizes : MtAt P w K mg base (cv 5) "sizes" 1 (FzRing_sizes cv)) (hzRing_words : MtAt P w K mg base (cv 5) "words" 1 (FzRing_words cv)) (hz_law_drawn : FnAt P w K mg base "_law_drawn" 2 Fz_law_drawn) (hz_law_step : FnX P w K mg base "_law_step" 5 (Fz_law_step cv)) (hz_law_told : FnAt P w K mg base "_law_told" 6 (Fz_law_told cv)) (hzring_text : FnX P w K mg base "ring_text" 3 (Fzring_text cv)) : FnOk P w K mg base CX0 7 f fd ["_law_script"] (spD K (Fzlaw cv)) :=
 fnD (k:=6) F sczlaw fun cdv A outer s H E hr => (show PDS _ _ [stzlaw_p1, stzlaw_p2, stzlaw_p3, stzlaw_p4, stzlaw_p5, stzlaw_p6, stzlaw_p7, stzlaw_p8, stzlaw_p9, stzlaw_p10, stzlaw_p16, stzlaw_p17, stzlaw_p18, stzlaw_p19, stzlaw_p20] _ from (pds_cons (okzlaw_p1 hzRing___init__ f cdv A outer s H E hr) (pds_cons (okzlaw_p2 b_range hz_law_drawn hz_law_step f cdv A outer s H E hr) (pds_cons (okzlaw_p3  f cdv A outer s H E hr) (pds_cons (okzlaw_p4 cl_Ring hzRing_find hzRing_words f cdv A outer s H E hr) (pds_cons (okzlaw_p5 hzring_text f cdv A outer s H E hr) (pds_cons (okzlaw_p6 hz_law_told f cdv A outer s H E hr) (pds_cons (okzlaw_p7 cl_Ring hzRing_words f cdv A outer s H E hr) (pds_cons (okzlaw_p8 cl_Ring hzRing_find hzRing_words f cdv A outer s H E hr) (pds_cons (okzlaw_p9 cl_Ring hzRing_sizes f cdv A outer s H E hr) (pds_cons (okzlaw_p10 b_isinstance b_len b_range b_tuple cl_Ring it_Ring_tuple hz_law_drawn hz_law_told hzring_text f cdv A outer s H E hr) (pds_cons (okzlaw_p16  f cdv A outer s H E hr) (pds_cons (okzlaw_p17  f cdv A outer s H E hr) (pds_cons (okzlaw_p18 hz_law_told f cdv A outer s H E hr) (pds_cons (okzlaw_p19 hz_law_told f cdv A outer s H E hr) (pds_one (okzlaw_p20 cl_Ring hzRing_find hzRing_words hz_law_told f cdv A outer s H E hr)))))))))))))))))
end
end K72
end
section
set_option maxHeartbeats 2000000
namespace K72
open PySem L2 DL
noncomputable def cellV (ns : List Int) (k : Int) : Int:=if ns = [] then 7 * k else ns.getD (k % ns.length).toNat 0 + 6553 * (k / ns.length)
theorem eq_scr_nil (xs : List D) (st : Sto) : eqD (.scr xs) (.lst []) st = .ok (.bl xs.isEmpty) st:=by
 cases xs <;> rfl
theorem len_scr (xs : List D) (st : Sto) : lenD [.scr xs] st = .ok (.int xs.length) st:=rfl
theorem ix_scr (ns : List Int) (k : Int) (st : Sto) (h0 : 0 ≤ k) (h1 : k < ns.length) : ixD (.scr (ns.map .int)) (.int k) st = .ok (.int (ns.getD k.toNat 0)) st:=by
 have e : L2.atI (ns.map D.int) k = some (.int (ns.getD k.toNat 0)):=by
  unfold L2.atI L2.ixN
  rw [if_pos h0, if_pos (by rw [List.length_map]; exact h1)]
  have hk : k.toNat < ns.length:=by omega
  simp [List.getElem?_map, List.getElem?_eq_getElem hk]
 simp [ixD, itemsOf, seqL, e]
theorem cell_eq (ns : List Int) (hl : ns.length ≤ 63) (k : Int) (st : Sto) : Fz_law_cell [.scr (ns.map .int), .int k] st = .ok (.int (cellV ns k)) st:=by
 unfold Fz_law_cell gz_law_cell cellV
 by_cases h : ns = []
 ·subst h
  have e1:=mul2_int _ _ st (mulOk_l 7 k (by decide) (by decide))
  have e2:=eq_scr_nil [] st
  simp [e1, e2]
 ·have hp : 0 < ns.length:=List.length_pos_iff.mpr h
  have h1 : (0 : Int) < (ns.length : Int):=by omega
  have h2 : 0 ≤ k % (ns.length : Int):=Int.emod_nonneg _ (by omega)
  have h3 : k % (ns.length : Int) < ns.length:=Int.emod_lt_of_pos _ h1
  have e0:=eq_scr_nil (ns.map .int) st
  have e1:=len_scr (ns.map .int) st
  have e2:=mod_int k _ st h1
  have e3:=fdiv_int k _ st h1 (by omega : (ns.length : Int) < 1073741824)
  have e4:=ix_scr ns _ st h2 h3
  have e5:=mul2_int _ _ st (mulOk_l 6553 (k / ns.length) (by decide) (by decide))
  rw [List.length_map] at e1
  simp [e0, e1, e2, e3, e4, e5, h]
noncomputable def mixA (c k : Int) : Int:=(c % 2147483563 * 69069 + 104723 * (k + 1)) % 2147483563
noncomputable def mixB (a : Int) : Int:=(a * a + a / 3) % 2147483399
noncomputable def mixC (b m : Int) : Int:=(b * b + b / 7) % 2147483647 / 11 % m
noncomputable def drawnV (ns : List Int) (k m : Int) : Int:=mixC (mixB (mixA (cellV ns k) k)) m
theorem drawn_eq (ns : List Int) (hl : ns.length ≤ 63) (k m : Int) (hm : 0 < m) (st : Sto) : Fz_law_drawn [.scr (ns.map .int), .int k, .int m] st = .ok (.int (drawnV ns k m)) st:=by
 have a1 : 0 ≤ mixA (cellV ns k) k:=Int.emod_nonneg _ (by decide)
 have a2 : mixA (cellV ns k) k < 2147483563:=Int.emod_lt_of_pos _ (by decide)
 have b1 : 0 ≤ mixB (mixA (cellV ns k) k):=Int.emod_nonneg _ (by decide)
 have b2 : mixB (mixA (cellV ns k) k) < 2147483399:=Int.emod_lt_of_pos _ (by decide)
 have c0 : 0 ≤ cellV ns k % 2147483563:=Int.emod_nonneg _ (by decide)
 have c1 : cellV ns k % 2147483563 < 2147483563:=Int.emod_lt_of_pos _ (by decide)
 have e1 : mul2D (.int (cellV ns k % 2147483563)) (.int 69069) st = .ok (.int (cellV ns k % 2147483563 * 69069)) st:=mul2_int _ _ _ (mulOk_r _ _ (by decide) (by decide))
 have e2 : mul2D (.int 104723) (.int (k + 1)) st = .ok (.int (104723 * (k + 1))) st:=mul2_int _ _ _ (mulOk_l _ _ (by decide) (by decide))
 have e3 : mul2D (.int (mixA (cellV ns k) k)) (.int (mixA (cellV ns k) k)) st = .ok (.int (mixA (cellV ns k) k * mixA (cellV ns k) k)) st:=mul2_int _ _ _ (mulOk_l _ _ (by omega) (by omega))
 have e4 : mul2D (.int (mixB (mixA (cellV ns k) k))) (.int (mixB (mixA (cellV ns k) k))) st = .ok (.int (mixB (mixA (cellV ns k) k) * mixB (mixA (cellV ns k) k))) st:=mul2_int _ _ _ (mulOk_l _ _ (by omega) (by omega))
 have hA : (cellV ns k % 2147483563 * 69069 + 104723 * (k + 1)) % 2147483563 = mixA (cellV ns k) k:=rfl
 have hB : (mixA (cellV ns k) k * mixA (cellV ns k) k + mixA (cellV ns k) k / 3) % 2147483399 = mixB (mixA (cellV ns k) k):=rfl
 have e0:=cell_eq ns hl k st
 have m1:=fun i => mod_int i 2147483563 st (by decide)
 have m2:=fun i => mod_int i 2147483399 st (by decide)
 have m3:=fun i => mod_int i 2147483647 st (by decide)
 have m4:=fun i => mod_int i m st hm
 have d1:=fun i => fdiv_int i 3 st (by decide) (by decide)
 have d2:=fun i => fdiv_int i 7 st (by decide) (by decide)
 have d3:=fun i => fdiv_int i 11 st (by decide) (by decide)
 unfold Fz_law_drawn gz_law_drawn
 simp [e0, e1, e2, e3, e4, m1, m2, m3, m4, d1, d2, d3, hA, hB]
 rfl
theorem drawn_lo (ns : List Int) (k m : Int) (hm : 0 < m) : 0 ≤ drawnV ns k m:=Int.emod_nonneg _ (by omega)
theorem drawn_hi (ns : List Int) (k m : Int) (hm : 0 < m) : drawnV ns k m < m:=Int.emod_lt_of_pos _ hm
noncomputable def letter (i : Nat) : Str:=⟨#[97 + i]⟩
theorem ix_abc (i : Int) (st : Sto) (h0 : 0 ≤ i) (h1 : i < 3) : ixD (.str "abc") (.int i) st = .ok (.str (letter i.toNat)) st := by
 have : i = 0 ∨ i = 1 ∨ i = 2:=by omega
 rcases this with rfl | rfl | rfl <;> rfl
noncomputable def placeV (ns : List Int) (at_ : Int) : List Str:=(List.range (drawnV ns at_ 4).toNat).map fun (i : Nat) => letter (drawnV ns (at_ + 1 + (i : Int)) 3).toNat
theorem placeV_len (ns : List Int) (at_ : Int) : (placeV ns at_).length ≤ 3:=by
 have:=drawn_hi ns at_ 4 (by decide)
 simp only [placeV, List.length_map, List.length_range]
 omega
theorem placeV_mem (ns : List Int) (at_ : Int) : ∀ x ∈ placeV ns at_, x = letter 0 ∨ x = letter 1 ∨ x = letter 2:=by
 intro x hx
 obtain ⟨i, _, rfl⟩:=List.mem_map.mp hx
 have h1:=drawn_lo ns (at_ + 1 + (i : Int)) 3 (by decide)
 have h2:=drawn_hi ns (at_ + 1 + (i : Int)) 3 (by decide)
 have : (drawnV ns (at_ + 1 + (i : Int)) 3).toNat = 0 ∨ (drawnV ns (at_ + 1 + (i : Int)) 3).toNat = 1 ∨ (drawnV ns (at_ + 1 + (i : Int)) 3).toNat = 2:=by omega
 rcases this with h | h | h <;> rw [h] <;> simp
theorem place_eq (ns : List Int) (hl : ns.length ≤ 63) (at_ : Int) (st : Sto) : Fz_law_place [.scr (ns.map .int), .int at_] st = .ok (pl (placeV ns at_)) st:=by
 have e1:=drawn_eq ns hl at_ 4 (by decide) st
 have h1:=drawn_lo ns at_ 4 (by decide)
 have h2:=drawn_hi ns at_ 4 (by decide)
 have e2 : compD (fun _ => True) (tgName 0) dTrue Ez_law_place_1
   ((List.range (drawnV ns at_ 4).toNat).map (fun (i : Nat) => D.int (0 + i))) [none, some (.scr (ns.map .int)), some (.int at_)] st [] = .ok ((placeV ns at_).map .str) st:=by
  rw [compD_map (fun ρ => ∃ a, ρ = [a, some (.scr (ns.map .int)), some (.int at_)]) (fun d => match d with | .int i => .str (letter (drawnV ns (at_ + 1 + i) 3).toNat) | _ => .non) trivial _ _ _ ⟨_, rfl⟩ (by simp [small]; omega)]
  ·simp [placeV, List.map_map, Function.comp_def]
  ·rintro x hx ρ ⟨a, rfl⟩
   obtain ⟨i, _, rfl⟩:=List.mem_map.mp hx
   refine ⟨_, rfl, ⟨_, rfl⟩, ?_⟩
   have e3:=drawn_eq ns hl (at_ + 1 + (0 + (i : Int))) 3 (by decide) st
   have e4:=ix_abc (drawnV ns (at_ + 1 + (0 + (i : Int))) 3) st (drawn_lo _ _ _ (by decide)) (drawn_hi _ _ _ (by decide))
   simp only [Int.zero_add] at e3 e4
   unfold Ez_law_place_1
   simp [e3, e4]
 have h3 : rngOk (drawnV ns at_ 4) = true:=rngOk_of (by omega) (by omega)
 unfold Fz_law_place gz_law_place
 simp only [Int.zero_add] at e2
 simp [e1, e2, h3, capEv, tuple_lst, dRng1]
 rfl
noncomputable def up : Str := ".."
noncomputable def stay : Str := "."
theorem getL {st : Sto} {xs : List D} {i : Nat} (h : st[i]? = some (.lst xs)) : itemsOf st (.res i) = some xs:=by simp [itemsOf, seqL, h]
theorem len_res {st : Sto} {xs : List D} {i : Nat} (h : st[i]? = some (.lst xs)) : lenD [.res i] st = .ok (.int xs.length) st:=by simp [lenD, getL h]
theorem at_last (st : Sto) (s : S) : (st ++ [s])[st.length]? = some s:=by simp
theorem eq_res_nil {st : Sto} {xs : List D} {i : Nat} (h : st[i]? = some (.lst xs)) : eqD (.res i) (.lst []) st = .ok (.bl xs.isEmpty) st:=by
 have e : eqN st depth (.res i) (.lst []) = some xs.isEmpty:=by
  show eqN st (49 + 1) (.res i) (.lst []) = _
  unfold eqN
  simp only [kd, h]
  cases xs <;> rfl
 simp [eqD, e]
theorem strsOf_map : ∀ ws : List Str, strsOf (ws.map D.str) = some ws
 | [] => rfl
 | w :: ws => by simp [strsOf, strsOf_map ws]
noncomputable def textV : List Str → Str
 | [] => ""
 | w :: ws => "/" ++ w ++ textV ws
theorem join_text : ∀ ws : List Str, ws ≠ [] → ("/" : Str) ++ PySem.Txt.join "/" ws = textV ws
 | [], h => absurd rfl h
 | [w], _ => by
  show ("/" : Str) ++ Builtin.Str.glued "/" [w] = _
  rw [StrLaws.glued_eq_join]
  show ("/" : Str) ++ w = ("/" : Str) ++ w ++ ""
  exact (Str.append_right_empty (x := ("/" : Str) ++ w) rfl).symm
 | w :: v :: ws, _ => by
  have ih:=join_text (v :: ws) (by simp)
  have e : PySem.Txt.join "/" (w :: v :: ws) = w ++ "/" ++ PySem.Txt.join "/" (v :: ws) := by
   show Builtin.Str.glued "/" (w :: v :: ws) = w ++ "/" ++ Builtin.Str.glued "/" (v :: ws)
   rw [StrLaws.glued_eq_join, StrLaws.glued_eq_join]
   rfl
  rw [e]
  show _ = ("/" : Str) ++ w ++ textV (v :: ws)
  rw [← ih]
  simp only [Str.append_assoc]
theorem len_app (a b : Str) : (a ++ b).length = a.length + b.length:=by
 show (a.cps ++ b.cps).size = a.cps.size + b.cps.size
 exact Array.size_append
theorem textV_len : ∀ (ws : List Str), (∀ w ∈ ws, w.length = 1) → (textV ws).length = 2 * ws.length
 | [], _ => rfl
 | w :: ws, h => by
  show (("/" : Str) ++ w ++ textV ws).length = _
  rw [len_app, len_app, textV_len ws fun x hx => h x (List.mem_cons_of_mem _ hx), h w List.mem_cons_self]
  have : ("/" : Str).length = 1 := rfl
  simp only [List.length_cons]
  omega
theorem sum_len : ∀ (ws : List Str), (∀ w ∈ ws, w.length = 1) → (ws.map (·.length)).sum = ws.length
 | [], _ => rfl
 | w :: ws, h => by
  rw [List.map_cons, List.sum_cons, sum_len ws fun x hx => h x (List.mem_cons_of_mem _ hx), h w List.mem_cons_self, List.length_cons]
  omega
theorem seq_nx {g g' : DS} {ρ ρ' : Ev} {st st' : Sto} (h : g ρ st = .nx ρ' st') : sSeq g g' ρ st = g' ρ' st':=by simp [h]
theorem letter_len (i : Nat) : (letter i).length = 1:=rfl
noncomputable abbrev Row:=List Str × Int
noncomputable def rowD (r : Row) : D:=.tup [pl r.1, .int r.2]
noncomputable def bk (m : Int) (i : Nat) (s : Int) : List (Str × D) := [("most", .int m), ("rows", .res i), ("spot", .int s)]
structure BookAt (cv : Nat → Addr) (st : Sto) (b i : Nat) (m : Int) (rows : List Row) (s : Nat) : Prop where
 ob : st[b]? = some (.ins (cv 0) (bk m i s))
 rw : st[i]? = some (.lst (rows.map rowD))
 lt : s < rows.length
 le : rows.length ≤ 100
structure Chg (st st' : Sto) (b i i' : Nat) : Prop where
 fr : ∀ j x, st[j]? = some x → j ≠ b → j ≠ i → st'[j]? = some x
 nw : i' = i ∨ st.length ≤ i'
 le : st.length ≤ st'.length
section
variable {cv : Nat → Addr} {st : Sto} {b i : Nat} {m : Int} {rows : List Row} {s : Nat}
theorem BookAt.ne (B : BookAt cv st b i m rows s) : b ≠ i:=by
 intro e
 have h1:=B.ob
 rw [e, B.rw] at h1
 cases h1
theorem BookAt.ins (B : BookAt cv st b i m rows s) : insAt (cv 0) st (.res b) = some (b, bk m i s):=by
 simp [insAt, B.ob]
theorem BookAt.items (B : BookAt cv st b i m rows s) : itemsOf st (.res i) = some (rows.map rowD):=getL B.rw
theorem BookAt.ix (B : BookAt cv st b i m rows s) {k : Int} {j : Nat} {r : Row} (hk : k = j) (hr : rows[j]? = some r) : ixD (.res i) (.int k) st = .ok (rowD r) st:=by
 subst hk
 have e : L2.atI (rows.map rowD) (j : Int) = some (rowD r):=atI_nat (by rw [List.getElem?_map, hr]; rfl)
 simp [ixD, B.items, e]
theorem BookAt.len (B : BookAt cv st b i m rows s) : lenD [.res i] st = .ok (.int rows.length) st:=by
 have:=len_res B.rw
 rw [List.length_map] at this
 exact this
end
theorem run_rt {N n : Nat} {g : DS} {ds : List D} {st st' : Sto} {d : D} (hl : ds.length = n) (h : g (ds.map some ++ List.replicate (N - n) none) st = .rt d st') : runF N n g ds st = .ok d st':=by
 rw [z_runF, if_pos hl, h]
section
variable {cv : Nat → Addr} {st : Sto} {b i : Nat} {m : Int} {rows : List Row} {s : Nat}
theorem BookAt.app (B : BookAt cv st b i m rows s) (t : Sto) : BookAt cv (st ++ t) b i m rows s :=
 ⟨by rw [List.getElem?_append_left (List.getElem?_eq_some_iff.mp B.ob).1]; exact B.ob, by rw [List.getElem?_append_left (List.getElem?_eq_some_iff.mp B.rw).1]; exact B.rw, B.lt, B.le⟩
theorem set_last (st : Sto) (x y : S) : (st ++ [x]).set st.length y = st ++ [y]:=by simp
end
theorem neD_int (x y : Int) (st : Sto) : neD (.int x) (.int y) st = .ok (.bl (!decide (x = y))) st:=by
 rw [neD_nice rfl rfl]
 congr 3
 exact decide_eq_decide.mpr (by rw [D.int.injEq])
theorem loop_off {chk : Sto → Prop} {t : TgD} {g : DS} (P : Nat → Ev → Sto → Prop) (hc : ∀ j ρ st, P j ρ st → chk st) : ∀ (xs : List D) (n : Nat), (∀ j x, xs[j]? = some x → ∀ ρ st, P (n + j) ρ st → ∃ ρ1 ρ2 st2, t x ρ = some ρ1 ∧ g ρ1 st = .nx ρ2 st2 ∧ P (n + j + 1) ρ2 st2) →
  ∀ ρ st, P n ρ st → ∃ ρ2 st2, loopD chk t g xs ρ st = .nx ρ2 st2 ∧ P (n + xs.length) ρ2 st2
 | [], n, _, ρ, st, h => ⟨ρ, st, loop_nil (hc n ρ st h), h⟩
 | x :: xs, n, hx, ρ, st, h => by
  obtain ⟨ρ1, ρ2, st2, e1, e2, h2⟩:=hx 0 x rfl ρ st h
  obtain ⟨ρ3, st3, e3, h3⟩:=loop_off P hc xs (n + 1) (fun j y hy ρ st hp => by
   have q : n + 1 + j = n + (j + 1):=by omega
   rw [q] at hp
   obtain ⟨r1, r2, s2, k1, k2, k3⟩:=hx (j + 1) y (by simpa using hy) ρ st hp
   exact ⟨r1, r2, s2, k1, k2, by rw [q]; exact k3⟩) ρ2 st2 h2
  refine ⟨ρ3, st3, (loop_nx (hc n ρ st h) e1 e2).trans e3, ?_⟩
  have q : n + (x :: xs).length = n + 1 + xs.length:=by simp; omega
  rw [q]
  exact h3
theorem loop_rng {chk : Sto → Prop} {t : TgD} {g : DS} {f : Nat → D} (P : Nat → Ev → Sto → Prop) (hc : ∀ j ρ st, P j ρ st → chk st) (n : Nat) (step : ∀ j, j < n → ∀ ρ st, P j ρ st → ∃ ρ1 ρ2 st2, t (f j) ρ = some ρ1 ∧ g ρ1 st = .nx ρ2 st2 ∧ P (j + 1) ρ2 st2) (ρ : Ev) (st : Sto) (h : P 0 ρ st) :
  ∃ ρ2 st2, loopD chk t g ((List.range n).map f) ρ st = .nx ρ2 st2 ∧ P n ρ2 st2:=by
 obtain ⟨ρ2, st2, e, h2⟩:=loop_off P hc ((List.range n).map f) 0 (fun j x hx ρ st hp => by
  rw [Nat.zero_add] at hp ⊢
  have hj : j < n:=by
   have:=(List.getElem?_eq_some_iff.mp hx).1
   simpa using this
  rw [List.getElem?_map, List.getElem?_range hj] at hx
  simp only [Option.map_some, Option.some.injEq] at hx
  rw [← hx]
  exact step j hj ρ st hp) ρ st h
 refine ⟨ρ2, st2, e, ?_⟩
 simpa using h2
structure BD (cv : Nat → Addr) (st : Sto) (b i u : Nat) (m : Int) (rows : List Row) (s : Nat) (ds : List D) : Prop where
 bk : BookAt cv st b i m rows s
 ub : u ≠ b
 ui : u ≠ i
 du : st[u]? = some (.lst ds)
section
variable {cv : Nat → Addr} {st st' : Sto} {b i i' u : Nat} {m : Int} {rows rows' : List Row} {s s' : Nat} {ds : List D}
theorem BD.step (X : BD cv st b i u m rows s ds) (C : Chg st st' b i i') (B : BookAt cv st' b i' m rows' s') : BD cv st' b i' u m rows' s' ds:=by
 refine ⟨B, X.ub, ?_, C.fr _ _ X.du X.ub X.ui⟩
 have hu : u < st.length:=(List.getElem?_eq_some_iff.mp X.du).1
 rcases C.nw with h | h
 ·rw [h]; exact X.ui
 ·omega
end
theorem ix_res {st : Sto} {ds : List D} {u : Nat} (h : st[u]? = some (.lst ds)) {k : Int} {j : Nat} {d : D} (hk : k = j) (hd : ds[j]? = some d) : ixD (.res u) (.int k) st = .ok d st:=by
 subst hk
 have e : L2.atI ds (j : Int) = some d:=atI_nat hd
 simp [ixD, getL h, e]
noncomputable abbrev R0 : Row:=([], 0)
theorem seq_go {g g' : DS} {ρ ρ' : Ev} {st st' : Sto} (h : g ρ st = .nx ρ' st') (h2 : ∃ st2, g' ρ' st' = .rt (.bl true) st2) : ∃ st2, sSeq g g' ρ st = .rt (.bl true) st2:=by
 obtain ⟨st2, e⟩:=h2
 exact ⟨st2, (seq_nx h).trans e⟩
theorem sif_no {t : DT} {g : DS} {ρ : Ev} {st st' : Sto} (h : t ρ st = .ok false st') : sIf t g sNext ρ st = .nx ρ st':=by simp [h]
theorem sif_t {t : DT} {g g' : DS} {ρ : Ev} {st st' : Sto} (h : t ρ st = .ok true st') : sIf t g g' ρ st = g ρ st':=by simp [h]
theorem sif_f {t : DT} {g g' : DS} {ρ : Ev} {st st' : Sto} (h : t ρ st = .ok false st') : sIf t g g' ρ st = g' ρ st':=by simp [h]
theorem ne_same {a : D} (h : nice depth a = true) (st : Sto) : neD a a st = .ok (.bl false) st:=by
 rw [neD_nice h h]
 simp
theorem tst_ne {f f' : DE} {ρ : Ev} {st st1 st2 : Sto} {a : D} (h : nice depth a = true) (h1 : f ρ st = .ok a st1) (h2 : f' ρ st1 = .ok a st2) : dB (dBin neD f f') ρ st = .ok false st2:=by
 simp [h1, h2, ne_same h]
theorem tst_or {t t' : DT} {ρ : Ev} {st st1 st2 : Sto} (h : t ρ st = .ok false st1) (h' : t' ρ st1 = .ok false st2) : dOr t t' ρ st = .ok false st2:=by simp [h, h']
noncomputable abbrev PStep:=Str × List Str × List Str
noncomputable def psD (s : PStep) : D:=.tup [.str s.1, pl s.2.1, pl s.2.2]
noncomputable abbrev Sh:=List (Str × List Str)
noncomputable def shD (x : Str × List Str) : D × D:=(.str x.1, pl x.2)
noncomputable def valS : Sh → Str → Option (List Str)
 | [], _ => none
 | x :: r, n => if x.1 = n then some x.2 else valS r n
noncomputable def putS (sh : Sh) (n : Str) (p : List Str) : Sh:=if (valS sh n).isSome = true then sh.map (fun x => if x.1 = n then (x.1, p) else x) else sh ++ [(n, p)]
theorem key_str (n m : Str) : (keyD (.str n) = keyD (.str m)) ↔ n = m:=by
 simp [keyD]
theorem valS_D (n : Str) : ∀ sh : Sh, valD keyD (sh.map shD) (.str n) = (valS sh n).map pl
 | [] => rfl
 | x :: r => by
  rw [List.map_cons, valD, valS]
  by_cases e : x.1 = n
  ·rw [if_pos (show keyD (shD x).1 = keyD (.str n) from (key_str _ _).mpr e), if_pos e]
   rfl
  ·rw [if_neg (show ¬ keyD (shD x).1 = keyD (.str n) from fun h => e ((key_str _ _).mp h)), if_neg e]
   exact valS_D n r
theorem putS_D (sh : Sh) (n : Str) (p : List Str) : putD keyD (sh.map shD) (.str n) (pl p) = (putS sh n p).map shD:=by
 unfold putD putS
 rw [valD_has, valS_D]
 cases h : valS sh n with
 | none => simp [shD]
 | some q =>
  simp only [Option.map_some, Option.isSome_some, if_true, List.map_map]
  refine List.map_congr_left fun x _ => ?_
  by_cases e : x.1 = n
  ·have e' : keyD (shD x).1 = keyD (.str n):=(key_str _ _).mpr e
   simp [e, e']
   show ((D.str x.1 : D), pl p) = (.str n, pl p)
   rw [e]
  ·have e' : ¬ keyD (shD x).1 = keyD (.str n):=fun h => e ((key_str _ _).mp h)
   simp [e, e']
theorem valS_map (n m : Str) (p : List Str) : ∀ sh : Sh, valS (sh.map fun x => if x.1 = n then (x.1, p) else x) m = (valS sh m).map fun y => if m = n then p else y
 | [] => rfl
 | x :: r => by
  rw [List.map_cons, valS, valS]
  by_cases e : x.1 = n
  ·rw [if_pos e]
   by_cases e2 : x.1 = m
   ·rw [if_pos e2, if_pos e2, Option.map_some, if_pos (e2.symm.trans e)]
   ·rw [if_neg e2, if_neg e2]; exact valS_map n m p r
  ·rw [if_neg e]
   by_cases e2 : x.1 = m
   ·rw [if_pos e2, if_pos e2, Option.map_some, if_neg (fun h => e (e2.trans h))]
   ·rw [if_neg e2, if_neg e2]; exact valS_map n m p r
theorem valS_snoc (n m : Str) (p : List Str) : ∀ sh : Sh, valS sh n = none → valS (sh ++ [(n, p)]) m = if m = n then some p else valS sh m
 | [], _ => by
  show (if n = m then some p else none) = _
  by_cases e : n = m
  ·rw [if_pos e, if_pos e.symm]
  ·rw [if_neg e, if_neg (Ne.symm e)]; rfl
 | x :: r, h => by
  rw [valS] at h
  by_cases e : x.1 = n
  ·rw [if_pos e] at h; cases h
  ·rw [if_neg e] at h
   rw [List.cons_append, valS, valS, valS_snoc n m p r h]
   by_cases e2 : x.1 = m
   ·rw [if_pos e2, if_pos e2, if_neg (fun z => e (e2.trans z))]
   ·rw [if_neg e2, if_neg e2]
theorem valS_put (sh : Sh) (n m : Str) (p : List Str) : valS (putS sh n p) m = if m = n then some p else valS sh m:=by
 unfold putS
 cases h : valS sh n with
 | none => simp only [Option.isSome_none, Bool.false_eq_true, if_false]; exact valS_snoc n m p sh h
 | some q =>
  simp only [Option.isSome_some, if_true]
  rw [valS_map]
  by_cases e : m = n
  ·rw [if_pos e, e, h, Option.map_some, if_pos rfl]
  ·rw [if_neg e]
   cases valS sh m with
   | none => rfl
   | some y => rw [Option.map_some, if_neg e]
theorem putS_len (sh : Sh) (n : Str) (p : List Str) : (putS sh n p).length ≤ sh.length + 1:=by
 unfold putS
 split <;> simp
noncomputable def pn (d i : Nat) (k : Int) : List (Str × D) := [("shown", .res d), ("row", .res i), ("made", .int k)]
structure PanesAt (cv : Nat → Addr) (st : Sto) (b d i : Nat) (sh : Sh) (row : List PStep) (k : Nat) : Prop where
 ob : st[b]? = some (.ins (cv 3) (pn d i k))
 dc : st[d]? = some (.dct (sh.map shD))
 rw : st[i]? = some (.lst (row.map psD))
 le : k ≤ row.length
 rl : row.length ≤ 100
 sl : sh.length ≤ 100
structure ChgP (st st' : Sto) (b d i i' : Nat) : Prop where
 fr : ∀ j x, st[j]? = some x → j ≠ b → j ≠ d → st'[j]? = some x
 nw : i' = i ∨ st.length ≤ i'
 le : st.length ≤ st'.length
theorem ChgP.refl (st : Sto) (b d i : Nat) : ChgP st st b d i i:=⟨fun _ _ h _ _ => h, .inl rfl, Nat.le_refl _⟩
theorem ChgP.trans {st st1 st2 : Sto} {b d i i1 i2 : Nat} (x : ChgP st st1 b d i i1) (y : ChgP st1 st2 b d i1 i2) : ChgP st st2 b d i i2:=by
 have h1:=x.le
 have h2:=y.le
 refine ⟨fun j z hz hb hd => y.fr j z (x.fr j z hz hb hd) hb hd, ?_, by omega⟩
 rcases y.nw with e | e
 ·rw [e]; exact x.nw
 ·exact .inr (by omega)
section
variable {cv : Nat → Addr} {st : Sto} {b d i : Nat} {sh : Sh} {row : List PStep} {k : Nat}
theorem PanesAt.bd (B : PanesAt cv st b d i sh row k) : b ≠ d:=by
 intro e
 have h1:=B.ob
 rw [e, B.dc] at h1
 cases h1
theorem PanesAt.bi (B : PanesAt cv st b d i sh row k) : b ≠ i:=by
 intro e
 have h1:=B.ob
 rw [e, B.rw] at h1
 cases h1
theorem PanesAt.di (B : PanesAt cv st b d i sh row k) : d ≠ i:=by
 intro e
 have h1:=B.dc
 rw [e, B.rw] at h1
 cases h1
theorem PanesAt.ins (B : PanesAt cv st b d i sh row k) : insAt (cv 3) st (.res b) = some (b, pn d i k):=by
 simp [insAt, B.ob]
theorem PanesAt.items (B : PanesAt cv st b d i sh row k) : itemsOf st (.res i) = some (row.map psD):=getL B.rw
theorem PanesAt.look (B : PanesAt cv st b d i sh row k) (n : Str) : dAt st (.res d) (.str n) = some ((valS sh n).map pl):=by
 simp [dAt, B.dc, keyD, valS_D]
theorem PanesAt.put (B : PanesAt cv st b d i sh row k) (n : Str) (p : List Str) : dPutAt st (.res d) (.str n) (pl p) = some (st.set d (.dct ((putS sh n p).map shD))):=by
 have h : sh.length < small:=by have:=B.sl; exact Nat.lt_of_le_of_lt this (by decide)
 simp [dPutAt, B.dc, keyD, putS_D, h]
theorem PanesAt.setD (B : PanesAt cv st b d i sh row k) {sh' : Sh} (hl : sh'.length ≤ 100) : PanesAt cv (st.set d (.dct (sh'.map shD))) b d i sh' row k:=by
 have hd : d < st.length:=(List.getElem?_eq_some_iff.mp B.dc).1
 exact ⟨by rw [List.getElem?_set_ne (Ne.symm B.bd)]; exact B.ob, List.getElem?_set_self hd, by rw [List.getElem?_set_ne B.di]; exact B.rw, B.le, B.rl, hl⟩
theorem PanesAt.setK (B : PanesAt cv st b d i sh row k) {j : Nat} (hj : j ≤ row.length) : PanesAt cv (st.set b (.ins (cv 3) (pn d i j))) b d i sh row j:=by
 have hb : b < st.length:=(List.getElem?_eq_some_iff.mp B.ob).1
 exact ⟨List.getElem?_set_self hb, by rw [List.getElem?_set_ne B.bd]; exact B.dc, by rw [List.getElem?_set_ne B.bi]; exact B.rw, hj, B.rl, B.sl⟩
theorem chgP_d (st : Sto) (b d i : Nat) (x : S) : ChgP st (st.set d x) b d i i:=⟨fun j y h _ h1 => by rw [List.getElem?_set_ne (Ne.symm h1)]; exact h, .inl rfl, by simp⟩
theorem chgP_b (st : Sto) (b d i : Nat) (x : S) : ChgP st (st.set b x) b d i i:=⟨fun j y h h1 _ => by rw [List.getElem?_set_ne (Ne.symm h1)]; exact h, .inl rfl, by simp⟩
theorem PanesAt.ix (B : PanesAt cv st b d i sh row k) {z : Int} {j : Nat} {s : PStep} (hk : z = j) (hr : row[j]? = some s) : ixD (.res i) (.int z) st = .ok (psD s) st:=by
 subst hk
 have e : L2.atI (row.map psD) (j : Int) = some (psD s):=atI_nat (by rw [List.getElem?_map, hr]; rfl)
 simp [ixD, B.items, e]
theorem PanesAt.len (B : PanesAt cv st b d i sh row k) : lenD [.res i] st = .ok (.int row.length) st:=by
 have:=len_res B.rw
 rw [List.length_map] at this
 exact this
end
theorem PanesAt.app {cv : Nat → Addr} {st : Sto} {b d i : Nat} {sh : Sh} {row : List PStep} {k : Nat} (B : PanesAt cv st b d i sh row k) (t : Sto) : PanesAt cv (st ++ t) b d i sh row k :=
  ⟨by rw [List.getElem?_append_left (List.getElem?_eq_some_iff.mp B.ob).1]; exact B.ob, by rw [List.getElem?_append_left (List.getElem?_eq_some_iff.mp B.dc).1]; exact B.dc,
   by rw [List.getElem?_append_left (List.getElem?_eq_some_iff.mp B.rw).1]; exact B.rw, B.le, B.rl, B.sl⟩
theorem chgP_app (st t : Sto) (b d i i' : Nat) (h : i' = i ∨ st.length ≤ i') : ChgP st (st ++ t) b d i i' :=
 ⟨fun j x hx _ _ => by rw [List.getElem?_append_left (List.getElem?_eq_some_iff.mp hx).1]; exact hx, h, by simp⟩
section
variable {cv : Nat → Addr} {st : Sto} {b d i : Nat} {sh : Sh} {row : List PStep} {k : Nat}
end
theorem compD_fm {α : Type} (g : α → D) (p : α → Bool) (h : α → D) {chk : Sto → Prop} {t : TgD} {cond : DT} {fe : DE} {st : Sto} (IE : Ev → Prop) (hc : chk st) : ∀ (xs : List α) (ρ : Ev) (acc : List D), IE ρ → acc.length + xs.length ≤ small →
  (∀ x ∈ xs, ∀ ρ, IE ρ → ∃ ρ1, t (g x) ρ = some ρ1 ∧ IE ρ1 ∧ cond ρ1 st = .ok (p x) st ∧ (p x = true → fe ρ1 st = .ok (h x) st)) → compD chk t cond fe (xs.map g) ρ st acc = .ok (acc ++ (xs.filter p).map h) st
 | [], ρ, acc, _, _, _ => by simp [compD, hc]
 | x :: xs, ρ, acc, hI, hl, hx => by
  obtain ⟨ρ1, e1, h1, e2, e3⟩:=hx x List.mem_cons_self ρ hI
  rw [List.map_cons]
  unfold compD
  rw [if_pos ⟨hc, by simp at hl; omega⟩, e1]
  dsimp only
  rw [e2]
  cases hp : p x with
  | true =>
   dsimp only
   rw [e3 hp]
   dsimp only
   rw [compD_fm g p h IE hc xs ρ1 (acc ++ [h x]) h1 (by simp at hl ⊢; omega) fun y hy => hx y (List.mem_cons_of_mem _ hy)]
   simp [hp]
  | false =>
   dsimp only
   rw [compD_fm g p h IE hc xs ρ1 acc h1 (by simp at hl ⊢; omega) fun y hy => hx y (List.mem_cons_of_mem _ hy)]
   simp [hp]
theorem compD_mm {α : Type} (g : α → D) (h : α → D) {chk : Sto → Prop} {t : TgD} {fe : DE} {st : Sto} (IE : Ev → Prop) (hc : chk st) (xs : List α) (ρ : Ev) (acc : List D) (hI : IE ρ) (hl : acc.length + xs.length ≤ small)
  (hx : ∀ x ∈ xs, ∀ ρ, IE ρ → ∃ ρ1, t (g x) ρ = some ρ1 ∧ IE ρ1 ∧ fe ρ1 st = .ok (h x) st) : compD chk t dTrue fe (xs.map g) ρ st acc = .ok (acc ++ xs.map h) st:=by
 rw [compD_fm g (fun _ => true) h IE hc xs ρ acc hI hl fun x hm ρ hi => ?_]
 ·rw [List.filter_eq_self.mpr fun _ _ => rfl]
 ·obtain ⟨ρ1, e1, e2, e3⟩:=hx x hm ρ hi
  exact ⟨ρ1, e1, e2, rfl, fun _ => e3⟩
theorem nice_L {α : Type} (f : α → D) (h : ∀ x, nice 49 (f x) = true) (L : List α) : nice depth (.lst (L.map f)) = true:=by
 show nice (49 + 1) _ = true
 unfold nice
 rw [niceL_all]
 intro y hy
 obtain ⟨x, _, rfl⟩:=List.mem_map.mp hy
 exact h x
theorem lenL (xs : List D) (st : Sto) : lenD [.lst xs] st = .ok (.int xs.length) st:=rfl
theorem two_ne' {st : Sto} {i j : Nat} {x y : S} (h1 : st[i]? = some x) (h2 : st[j]? = some y) (h : x ≠ y) : i ≠ j:=by
 rintro rfl
 rw [h1] at h2
 exact h (Option.some.inj h2)
theorem runX_rt {N n : Nat} {g : DS} {ds : List D} {st st' : Sto} {d : D} (hl : ds.length = n) (h : g (ds.map some ++ List.replicate (N - n) none) st = .rt d st') : runX N n g ds st = .ok d st':=by
 rw [z_runX, if_pos hl, h]
theorem append_ok {fo fa : DE} {ρ : Ev} {st : Sto} {u : Nat} {xs : List D} {v : D} (h1 : fo ρ st = .ok (.res u) st) (h2 : st[u]? = some (.lst xs)) (h3 : fa ρ st = .ok v st) (hl : xs.length < small) : dAppend fo fa ρ st = .ok .non (st.set u (.lst (xs ++ [v]))):=by
 unfold dAppend
 simp [h1, h2, h3, hl]
noncomputable def dropS (sh : Sh) (n : Str) : Sh:=sh.filter fun x => decide (x.1 ≠ n)
theorem dropS_D (sh : Sh) (n : Str) : dropD keyD (sh.map shD) (.str n) = (dropS sh n).map shD:=by
 unfold dropD dropS
 induction sh with
 | nil => rfl
 | cons x r ih =>
  rw [List.map_cons, List.filter_cons, List.filter_cons, ih]
  by_cases e : x.1 = n
  ·have e' : keyD (shD x).1 = keyD (.str n):=(key_str _ _).mpr e
   rw [if_neg (by simp [e']), if_neg (by simp [e])]
  ·have e' : ¬ keyD (shD x).1 = keyD (.str n):=fun h => e ((key_str _ _).mp h)
   rw [if_pos (by simpa using e'), if_pos (by simpa using e), List.map_cons]
theorem valS_drop_ne {n m : Str} (h : m ≠ n) : ∀ sh : Sh, valS (dropS sh n) m = valS sh m
 | [] => rfl
 | x :: r => by
  have ih:=valS_drop_ne h r
  unfold dropS at ih ⊢
  rw [List.filter_cons]
  by_cases e : x.1 = n
  ·rw [if_neg (by simp [e]), ih, valS, if_neg (fun z => h (z.symm.trans e))]
  ·rw [if_pos (by simpa using e), valS, valS, ih]
theorem valS_drop_same (n : Str) : ∀ sh : Sh, valS (dropS sh n) n = none
 | [] => rfl
 | x :: r => by
  have ih:=valS_drop_same n r
  unfold dropS at ih ⊢
  rw [List.filter_cons]
  by_cases e : x.1 = n
  ·rw [if_neg (by simp [e])]; exact ih
  ·rw [if_pos (by simpa using e), valS, if_neg e]; exact ih
theorem valS_mem {n : Str} {q : List Str} : ∀ {sh : Sh}, valS sh n = some q → n ∈ sh.map (·.1)
 | [], h => by cases h
 | x :: r, h => by
  rw [valS] at h
  by_cases e : x.1 = n
  ·exact List.mem_map.mpr ⟨x, List.mem_cons_self, e⟩
  ·rw [if_neg e] at h
   rw [List.map_cons]
   exact List.mem_cons_of_mem _ (valS_mem h)
theorem dropS_keys (sh : Sh) (n : Str) : (dropS sh n).map (·.1) = (sh.map (·.1)).filter fun m => decide (m ≠ n):=by
 unfold dropS
 rw [List.filter_map]
 rfl
section
variable {cv : Nat → Addr} {st : Sto} {b d i : Nat} {sh : Sh} {row : List PStep} {k : Nat}
end
theorem eq_kd {st : Sto} {a b : D} {X : List D} (ha : kd st a = .lst X) (hb : kd st b = .lst X) (hn : ∀ x ∈ X, nice 49 x = true) : eqN st depth a b = some true:=by
 show eqN st (49 + 1) a b = _
 unfold eqN
 rw [ha, hb]
 show eqItems (eqN st 49) X X = _
 rw [eqItems_nice X X fun x hx y hy => eqN_nice st 49 x y (hn x hx) (hn y hy)]
 simp
theorem ne_kd {st : Sto} {a b : D} {X : List D} (ha : kd st a = .lst X) (hb : kd st b = .lst X) (hn : ∀ x ∈ X, nice 49 x = true) : neD a b st = .ok (.bl false) st:=by
 unfold neD
 rw [eq_kd ha hb hn]
 rfl
noncomputable def ud (a b : List Str) : Bool:=decide (a.take b.length = b)
theorem under_ud (a b : List Str) (st : Sto) : Fzis_under [pl a, pl b] st = .ok (.bl (ud a b)) st:=by
 have e1:=len_pl b st
 have e2:=cut_pl a none (some (b.length : Int)) st
 rw [cutL_to] at e2
 have e3:=eqD_pl (a.take b.length) b st
 unfold Fzis_under gzis_under ud
 simp [e1, e2, e3]
theorem key_val {n : Str} : ∀ {sh : Sh}, n ∈ sh.map (·.1) → ∃ q, valS sh n = some q
 | [], h => by simp at h
 | x :: r, h => by
  rw [valS]
  by_cases e : x.1 = n
  ·exact ⟨x.2, by rw [if_pos e]⟩
  ·rw [if_neg e]
   rw [List.map_cons, List.mem_cons] at h
   rcases h with h | h
   ·exact absurd h.symm e
   ·exact key_val h
theorem runX_exc {N n : Nat} {g : DS} {ds : List D} {st st' : Sto} {c : Addr} (hl : ds.length = n) (h : g (ds.map some ++ List.replicate (N - n) none) st = .exc c st') : runX N n g ds st = .exc c st':=by
 rw [z_runX, if_pos hl, h]
theorem seq_exc {g g' : DS} {ρ : Ev} {st st' : Sto} {c : Addr} (h : g ρ st = .exc c st') : sSeq g g' ρ st = .exc c st':=by simp [h]
noncomputable abbrev RCh:=Str × Option (List Str) × Option (List Str)
noncomputable def opl : Option (List Str) → D
 | none => .non
 | some p => pl p
noncomputable def chD (c : RCh) : D:=.tup [.str c.1, opl c.2.1, opl c.2.2]
noncomputable abbrev RStep:=Str × List RCh
noncomputable def rsD (s : RStep) : D:=.tup [.str s.1, .tup (s.2.map chD)]
noncomputable def rn (d i : Nat) (k : Int) : List (Str × D) := [("kept", .res d), ("row", .res i), ("made", .int k)]
theorem rn_kept (d i : Nat) (k : Int) : (rn d i k).lookup ("kept" : Str) = some (.res d) := rfl
theorem rn_row (d i : Nat) (k : Int) : (rn d i k).lookup ("row" : Str) = some (.res i) := rfl
theorem rn_made (d i : Nat) (k : Int) : (rn d i k).lookup ("made" : Str) = some (.int k) := rfl
theorem rn_keep (d i : Nat) (k : Int) : (rn d i k).lookup ("keep" : Str) = none := rfl
theorem rn_find (d i : Nat) (k : Int) : (rn d i k).lookup ("find" : Str) = none := rfl
theorem rn_lose (d i : Nat) (k : Int) : (rn d i k).lookup ("lose" : Str) = none := rfl
theorem rn_words (d i : Nat) (k : Int) : (rn d i k).lookup ("words" : Str) = none := rfl
theorem rn_wu (d i : Nat) (k : Int) : (rn d i k).lookup ("words_under" : Str) = none := rfl
theorem rn_shift (d i : Nat) (k : Int) : (rn d i k).lookup ("shift" : Str) = none := rfl
theorem rn_forth (d i : Nat) (k : Int) : (rn d i k).lookup ("forth" : Str) = none := rfl
theorem rn_sizes (d i : Nat) (k : Int) : (rn d i k).lookup ("sizes" : Str) = none := rfl
theorem rn_ms (d i : Nat) (k : Int) : (rn d i k).lookup ("make_step" : Str) = none := rfl
theorem rn_put (d i : Nat) (k : Int) : (rn d i k).lookup ("put" : Str) = none := rfl
theorem rn_put_row (d i j : Nat) (k : Int) : putFD ("row" : Str) (.res j) (rn d i k) = rn d j k := rfl
theorem rn_put_made (d i : Nat) (k l : Int) : putFD ("made" : Str) (.int l) (rn d i k) = rn d i l := rfl
theorem rn_put_kept (d e i : Nat) (k : Int) : putFD ("kept" : Str) (.res e) (rn d i k) = rn e i k := rfl
theorem rn_len (d i : Nat) (k : Int) : (rn d i k).length < 900:=by show 3 < 900; decide
structure RingAt (cv : Nat → Addr) (st : Sto) (b d i : Nat) (sh : Sh) (row : List RStep) (k : Nat) : Prop where
 ob : st[b]? = some (.ins (cv 5) (rn d i k))
 dc : st[d]? = some (.dct (sh.map shD))
 rw : st[i]? = some (.lst (row.map rsD))
 le : k ≤ row.length
 rl : row.length ≤ 100
 sl : sh.length ≤ 50
section
variable {cv : Nat → Addr} {st : Sto} {b d i : Nat} {sh : Sh} {row : List RStep} {k : Nat}
theorem RingAt.bd (B : RingAt cv st b d i sh row k) : b ≠ d:=two_ne' B.ob B.dc (by intro h; cases h)
theorem RingAt.bi (B : RingAt cv st b d i sh row k) : b ≠ i:=two_ne' B.ob B.rw (by intro h; cases h)
theorem RingAt.di (B : RingAt cv st b d i sh row k) : d ≠ i:=two_ne' B.dc B.rw (by intro h; cases h)
theorem RingAt.ins (B : RingAt cv st b d i sh row k) : insAt (cv 5) st (.res b) = some (b, rn d i k):=by
 simp [insAt, B.ob]
theorem RingAt.items (B : RingAt cv st b d i sh row k) : itemsOf st (.res i) = some (row.map rsD):=getL B.rw
theorem RingAt.look (B : RingAt cv st b d i sh row k) (n : Str) : dAt st (.res d) (.str n) = some ((valS sh n).map pl):=by
 simp [dAt, B.dc, keyD, valS_D]
theorem RingAt.isd (B : RingAt cv st b d i sh row k) : isDct st (.res d) = true:=by
 simp [isDct, B.dc]
theorem RingAt.put1 (B : RingAt cv st b d i sh row k) (n : Str) (p : List Str) : dPutAt st (.res d) (.str n) (pl p) = some (st.set d (.dct ((putS sh n p).map shD))):=by
 have h : sh.length < small:=by have:=B.sl; exact Nat.lt_of_le_of_lt this (by decide)
 simp [dPutAt, B.dc, keyD, putS_D, h]
theorem RingAt.setD (B : RingAt cv st b d i sh row k) {sh' : Sh} (hl : sh'.length ≤ 50) : RingAt cv (st.set d (.dct (sh'.map shD))) b d i sh' row k:=by
 have hd : d < st.length:=(List.getElem?_eq_some_iff.mp B.dc).1
 exact ⟨by rw [List.getElem?_set_ne (Ne.symm B.bd)]; exact B.ob, List.getElem?_set_self hd, by rw [List.getElem?_set_ne B.di]; exact B.rw, B.le, B.rl, hl⟩
theorem RingAt.setK (B : RingAt cv st b d i sh row k) {j : Nat} (hj : j ≤ row.length) : RingAt cv (st.set b (.ins (cv 5) (rn d i j))) b d i sh row j:=by
 have hb : b < st.length:=(List.getElem?_eq_some_iff.mp B.ob).1
 exact ⟨List.getElem?_set_self hb, by rw [List.getElem?_set_ne B.bd]; exact B.dc, by rw [List.getElem?_set_ne B.bi]; exact B.rw, hj, B.rl, B.sl⟩
theorem RingAt.app (B : RingAt cv st b d i sh row k) (t : Sto) : RingAt cv (st ++ t) b d i sh row k :=
  ⟨by rw [List.getElem?_append_left (List.getElem?_eq_some_iff.mp B.ob).1]; exact B.ob, by rw [List.getElem?_append_left (List.getElem?_eq_some_iff.mp B.dc).1]; exact B.dc,
   by rw [List.getElem?_append_left (List.getElem?_eq_some_iff.mp B.rw).1]; exact B.rw, B.le, B.rl, B.sl⟩
theorem RingAt.frame (B : RingAt cv st b d i sh row k) {st' : Sto} (h1 : ∀ x, st[b]? = some x → st'[b]? = some x) (h2 : ∀ x, st[d]? = some x → st'[d]? = some x) (h3 : ∀ x, st[i]? = some x → st'[i]? = some x) : RingAt cv st' b d i sh row k :=
 ⟨h1 _ B.ob, h2 _ B.dc, h3 _ B.rw, B.le, B.rl, B.sl⟩
theorem RingAt.len (B : RingAt cv st b d i sh row k) : lenD [.res i] st = .ok (.int row.length) st:=by
 have:=len_res B.rw
 rw [List.length_map] at this
 exact this
theorem RingAt.ix (B : RingAt cv st b d i sh row k) {z : Int} {j : Nat} {s : RStep} (hk : z = j) (hr : row[j]? = some s) : ixD (.res i) (.int z) st = .ok (rsD s) st:=by
 subst hk
 have e : L2.atI (row.map rsD) (j : Int) = some (rsD s):=atI_nat (by rw [List.getElem?_map, hr]; rfl)
 simp [ixD, B.items, e]
theorem rs0 (s : RStep) (st : Sto) : ixD (rsD s) (.int 0) st = .ok (.str s.1) st:=rfl
theorem rs1 (s : RStep) (st : Sto) : ixD (rsD s) (.int 1) st = .ok (.tup (s.2.map chD)) st:=rfl
theorem RingAt.find (B : RingAt cv st b d i sh row k) {n : Str} {p : List Str} (h : valS sh n = some p) : FzRing_find cv [.res b, .str n] st = .ok (pl p) st:=by
 have e1:=B.look n
 rw [h] at e1
 unfold FzRing_find gzRing_find
 simp [z_fld, B.ins, rn_kept, notInDd, z_getDd, e1]
noncomputable def ap1 (sh : Sh) (w : Str) : Option (List Str) → Sh
 | none => dropS sh w
 | some p => putS sh w p
noncomputable def ok1 (sh : Sh) (w : Str) (o : Option (List Str)) : Prop:=o = none → ∃ q, valS sh w = some q
theorem ap1_len (sh : Sh) (w : Str) (o : Option (List Str)) : (ap1 sh w o).length ≤ sh.length + 1:=by
 cases o with
 | none => exact Nat.le_succ_of_le (List.length_filter_le _ _)
 | some p => exact putS_len sh w p
theorem is_pl (p : List Str) (st : Sto) : isD (pl p) .non st = .ok (.bl false) st:=rfl
theorem is_no (st : Sto) : isD .non .non st = .ok (.bl true) st:=rfl
theorem RingAt.put (B : RingAt cv st b d i sh row k) {w : Str} {o : Option (List Str)} (h : ok1 sh w o) (hl : sh.length < 50) : ∃ st', FzRing_put cv [.res b, .str w, opl o] st = .ok .non st' ∧ RingAt cv st' b d i (ap1 sh w o) row k ∧ ChgP st st' b d i i:=by
 have hlen:=ap1_len sh w o
 refine ⟨_, ?_, B.setD (sh':=ap1 sh w o) (by omega), chgP_d _ _ _ _ _⟩
 cases o with
 | none =>
  obtain ⟨q, hq⟩:=h rfl
  have e1 : valD keyD (sh.map shD) (.str w) = some (pl q):=by rw [valS_D, hq]; rfl
  have e2 : keyD (.str w) = some (.inr w):=rfl
  have e3:=is_no st
  unfold FzRing_put gzRing_put
  simp [opl, e3, z_dPopD, z_fld, B.ins, rn_kept, B.dc, e1, e2, dropS_D, ap1]
 | some p =>
  have e1:=B.put1 w p
  have e3:=is_pl p st
  unfold FzRing_put gzRing_put
  simp [opl, e3, z_sPutD, z_fld, B.ins, rn_kept, e1, ap1]
end
noncomputable def apF (sh : Sh) : List RCh → Sh
 | [] => sh
 | c :: cs => apF (ap1 sh c.1 c.2.2) cs
noncomputable def okF (sh : Sh) : List RCh → Prop
 | [] => True
 | c :: cs => ok1 sh c.1 c.2.2 ∧ okF (ap1 sh c.1 c.2.2) cs
theorem RingAt.loopF {cv : Nat → Addr} {b d i : Nat} {row : List RStep} {k : Nat} (c1 : Option D) {chk : Sto → Prop} (hc : ∀ st, chk st) : ∀ (cs : List RCh) (st : Sto) (sh : Sh) (c2 c3 c4 : Option D), RingAt cv st b d i sh row k → okF sh cs → sh.length + cs.length ≤ 50 →
  ∃ st' d2 d3 d4, loopD chk (tgTup [2, 3, 4]) (BzRing_forth_1 cv) (cs.map chD) [some (.res b), c1, c2, c3, c4] st = .nx [some (.res b), c1, d2, d3, d4] st' ∧ RingAt cv st' b d i (apF sh cs) row k ∧ ChgP st st' b d i i
 | [], st, sh, c2, c3, c4, B, _, _ => ⟨st, c2, c3, c4, loop_nil (hc st), B, ChgP.refl _ _ _ _⟩
 | c :: cs, st, sh, c2, c3, c4, B, ho, hl => by
  rw [List.length_cons] at hl
  obtain ⟨st1, e1, B1, C1⟩:=B.put ho.1 (by omega)
  have hlen:=ap1_len sh c.1 c.2.2
  obtain ⟨st2, d2, d3, d4, e2, B2, C2⟩:=RingAt.loopF c1 hc cs st1 (ap1 sh c.1 c.2.2) (some (.str c.1)) (some (opl c.2.1)) (some (opl c.2.2)) B1 ho.2 (by omega)
  refine ⟨st2, d2, d3, d4, ?_, B2, C1.trans C2⟩
  rw [List.map_cons]
  refine (loop_nx (ρ1:=[some (.res b), c1, some (.str c.1), some (opl c.2.1), some (opl c.2.2)]) (ρ2:=[some (.res b), c1, some (.str c.1), some (opl c.2.1), some (opl c.2.2)]) (st2:=st1) (hc st) rfl ?_).trans e2
  unfold BzRing_forth_1
  simp [z_meth, B.ins, rn_put, e1]
section
variable {cv : Nat → Addr} {st : Sto} {b d i : Nat} {sh : Sh} {row : List RStep} {k : Nat}
theorem RingAt.forth (B : RingAt cv st b d i sh row k) {s : RStep} (hs : row[k]? = some s) (ho : okF sh s.2) (hl : sh.length + s.2.length ≤ 50) :
  ∃ st', FzRing_forth cv [.res b] st = .ok (.str s.1) st' ∧ RingAt cv st' b d i (apF sh s.2) row (k + 1) ∧ ChgP st st' b d i i:=by
 have hk : k < row.length:=(List.getElem?_eq_some_iff.mp hs).1
 have B1:=B.setK (j:=k + 1) (by omega)
 have e1:=B.ix (z:=(k : Int)) rfl hs
 have ek : ((k + 1 : Nat) : Int) = (k : Int) + 1:=by omega
 rw [ek] at B1
 have e0 : eqD (.int k) (.int row.length) st = .ok (.bl false) st:=by
  rw [eqD_nice rfl rfl]
  have : ¬ (D.int (k : Int) = D.int row.length):=by rw [D.int.injEq]; omega
  simp [this]
 obtain ⟨st', d2, d3, d4, e2, B2, C2⟩:=RingAt.loopF (some (rsD s)) (chk:=fun st => itemsOf st (.tup (s.2.map chD)) = some (s.2.map chD)) (fun _ => rfl) s.2 _ sh none none none B1 ho hl
 refine ⟨st', ?_, B2, (chgP_b _ b d _ _).trans C2⟩
 unfold FzRing_forth
 refine runX_rt rfl ?_
 show gzRing_forth cv [some (.res b), none, none, none, none] st = _
 unfold gzRing_forth
 refine (seq_nx (st':=st) (ρ':=[some (.res b), none, none, none, none]) (sif_no ?_)).trans ?_
 ·simp [z_fld, B.ins, rn_made, rn_row, B.len, e0]
 refine (seq_nx (st':=st) (ρ':=[some (.res b), some (rsD s), none, none, none]) ?_).trans ?_
 ·simp [z_fld, B.ins, rn_made, rn_row, e1]
 refine (seq_nx (st':=st.set b (.ins (cv 5) (rn d i ((k : Int) + 1)))) (ρ':=[some (.res b), some (rsD s), none, none, none]) ?_).trans ?_
 ·simp [z_sFldAdd, B.ins, rn_made, rn_len, rn_put_made]
 refine (seq_nx (st':=st') (ρ':=[some (.res b), some (rsD s), d2, d3, d4]) ?_).trans ?_
 ·rw [z_sFor]
  have hi : itemsOf (st.set b (.ins (cv 5) (rn d i ((k : Int) + 1)))) (.tup (s.2.map chD)) = some (s.2.map chD):=rfl
  simp only [z_seq, z_bin, z_var, z_C, List.getElem?_cons_succ, List.getElem?_cons_zero, z_bind_ok, rs1, hi, z_to_ok]
  exact e2
 ·simp [rs0]
theorem RingAt.make_step (B : RingAt cv st b d i sh row k) (nm : Str) {cs : List RCh} {dd : D} (hi : itemsOf st dd = some (cs.map chD)) (ho : okF sh cs) (hl : sh.length + cs.length ≤ 50) (hk : k < 100) :
  ∃ st' i', FzRing_make_step cv [.res b, .str nm, dd] st = .ok .non st' ∧ RingAt cv st' b d i' (apF sh cs) (row.take k ++ [(nm, cs)]) (k + 1) ∧ ChgP st st' b d i i':=by
 have hb : b < st.length:=(List.getElem?_eq_some_iff.mp B.ob).1
 have hd : d < st.length:=(List.getElem?_eq_some_iff.mp B.dc).1
 have hle:=B.le
 obtain ⟨T, hT⟩ : ∃ T, T = (row.take k).map rsD:=⟨_, rfl⟩
 obtain ⟨T2, hT2⟩ : ∃ T2, T2 = (row.take k ++ [(nm, cs)]).map rsD:=⟨_, rfl⟩
 have e1 : cutF (.res i) none (some (k : Int)) st = .ok T st:=by
  rw [hT]
  simp only [cutF, seqL, B.rw, cutL_to, List.map_take]
 have e2 : catL (.lst T) (.lst [rsD (nm, cs)]) st = .ok T2 st:=by
  have hs : T.length + [rsD (nm, cs)].length ≤ small:=by
   rw [hT, List.length_map, List.length_take]
   exact small_ge (by simp; omega)
  simp only [catL, ownL, if_pos hs]
  rw [hT2, List.map_append, ← hT]
  rfl
 have e3 : tupleD [dd] st = .ok (.tup (cs.map chD)) st:=by simp only [tupleD, hi]
 have q2 : (2 : Nat) ≤ small:=by decide
 have q1 : (1 : Nat) ≤ small:=by decide
 have et : D.tup [.str nm, .tup (cs.map chD)] = rsD (nm, cs):=rfl
 have B1:=B.app [S.lst T2]
 have len1 : (row.take k ++ [(nm, cs)]).length = k + 1:=by simp; omega
 have B2 : RingAt cv ((st ++ [S.lst T2]).set b (.ins (cv 5) (rn d st.length k))) b d st.length sh (row.take k ++ [(nm, cs)]) k:=by
  refine ⟨List.getElem?_set_self (by simp; omega), ?_, ?_, by omega, by omega, B.sl⟩
  ·rw [List.getElem?_set_ne B.bd]; exact B1.dc
  ·rw [List.getElem?_set_ne (by omega), ← hT2]; exact at_last _ _
 have hs : (row.take k ++ [(nm, cs)])[k]? = some (nm, cs):=by
  rw [List.getElem?_append_right (by rw [List.length_take]; omega), List.length_take, Nat.min_eq_left hle, Nat.sub_self]
  rfl
 obtain ⟨st', e4, B3, C3⟩:=B2.forth hs ho hl
 refine ⟨st', st.length, ?_, B3, (chgP_app st [S.lst T2] b d i st.length (.inr (Nat.le_refl _))).trans ((chgP_b _ b d _ _).trans C3)⟩
 have i2:=B2.ins
 generalize hcs : cs.map chD = CD at *
 unfold FzRing_make_step gzRing_make_step
 simp [z_meth, z_fld, z_sFldF, B.ins, B1.ins, rn_row, rn_made, e1, e3, q2, q1, et, e2, rn_len, rn_put_row, i2, rn_forth, e4]
theorem RingAt.keep (B : RingAt cv st b d i sh row k) (w : Str) (p : List Str) (hl : sh.length < 50) (hk : k < 100) :
  ∃ st' i', FzRing_keep cv [.res b, .str w, pl p] st = .ok (opl (valS sh w)) st' ∧ RingAt cv st' b d i' (putS sh w p) (row.take k ++ [(("keep" : Str), [(w, valS sh w, some p)])]) (k + 1) ∧ ChgP st st' b d i i' := by
 obtain ⟨st', i', e, B', C⟩ := B.make_step "keep" (cs := [(w, valS sh w, some p)]) (dd := .lst [chD (w, valS sh w, some p)]) rfl ⟨fun h => by (first | cases h | exact absurd h (by simp)), trivial⟩ (by simp; omega) hk
 refine ⟨st', i', ?_, B', C⟩
 have e1:=B.look w
 have q3 : (3 : Nat) ≤ small:=by decide
 have q1 : (1 : Nat) ≤ small:=by decide
 have eg : ((valS sh w).map pl).getD .non = opl (valS sh w):=by cases valS sh w <;> rfl
 have et : D.tup [.str w, opl (valS sh w), pl p] = chD (w, valS sh w, some p):=rfl
 unfold FzRing_keep gzRing_keep
 generalize opl (valS sh w) = o at *
 simp [z_meth, z_fld, z_dGet1, B.ins, rn_kept, B.isd, e1, eg, q3, q1, et, rn_ms, e]
theorem RingAt.lose (B : RingAt cv st b d i sh row k) {w : Str} {q : List Str} (h : valS sh w = some q) (hl : sh.length < 50) (hk : k < 100) :
  ∃ st' i', FzRing_lose cv [.res b, .str w] st = .ok (pl q) st' ∧ RingAt cv st' b d i' (dropS sh w) (row.take k ++ [(("lose" : Str), [(w, some q, none)])]) (k + 1) ∧ ChgP st st' b d i i' := by
 obtain ⟨st', i', e, B', C⟩ := B.make_step "lose" (cs := [(w, some q, none)]) (dd := .lst [chD (w, some q, none)]) rfl ⟨fun _ => ⟨q, h⟩, trivial⟩ (by simp; omega) hk
 refine ⟨st', i', ?_, B', C⟩
 have e1:=B.find h
 have q3 : (3 : Nat) ≤ small:=by decide
 have q1 : (1 : Nat) ≤ small:=by decide
 have et : D.tup [.str w, pl q, .non] = chD (w, some q, none):=rfl
 unfold FzRing_lose gzRing_lose
 simp [z_meth, B.ins, rn_find, e1, q3, q1, et, rn_ms, e]
noncomputable abbrev wsV (sh : Sh) : List Str:=SO.srtS (sh.map (·.1))
theorem RingAt.words (B : RingAt cv st b d i sh row k) : FzRing_words cv [.res b] st = .ok (.res st.length) (st ++ [.lst ((wsV sh).map D.str)]):=by
 have hs : sh.length < 64:=by have:=B.sl; omega
 have e1 : sortDF [.res d] st = .ok ((wsV sh).map D.str) st:=by
  have e0 : (sh.map shD).map (·.1) = (sh.map (·.1)).map D.str:=by
   rw [List.map_map, List.map_map]; rfl
  unfold sortDF
  simp only [B.dc, e0, strsD_map, List.length_map, if_pos hs]
 unfold FzRing_words gzRing_words sRetF
 simp [z_fld, B.ins, rn_kept, e1]
theorem ws_mem {sh : Sh} {n : Str} (h : n ∈ wsV sh) : ∃ q, valS sh n = some q:=key_val ((SO.srtS_perm (sh.map (·.1))).mem_iff.mp h)
theorem ws_len (sh : Sh) : (wsV sh).length = sh.length:=by
 unfold wsV
 rw [(SO.srtS_perm (sh.map (·.1))).length_eq, List.length_map]
noncomputable def wuV (sh : Sh) (p : List Str) : List Str:=(wsV sh).filter fun n => ud ((valS sh n).getD []) p
theorem RingAt.words_under (B : RingAt cv st b d i sh row k) (p : List Str) : FzRing_words_under cv [.res b, pl p] st = .ok (.res (st.length + 1)) (st ++ [.lst ((wsV sh).map D.str), .lst ((wuV sh p).map D.str)]):=by
 have e1:=B.words
 obtain ⟨W, hW⟩ : ∃ W, W = (wsV sh).map D.str:=⟨_, rfl⟩
 rw [← hW] at e1
 have B1:=B.app [S.lst W]
 have hat : (st ++ [S.lst W])[st.length]? = some (.lst W):=at_last _ _
 have hi : itemsOf (st ++ [S.lst W]) (.res st.length) = some W:=getL hat
 have hsl:=B.sl
 have c1 : compD (fun s => itemsOf s (.res st.length) = some W) (tgName 0) (CzRing_words_under_1 cv) EzRing_words_under_1 W [none, some (pl p), some (.res b)] (st ++ [S.lst W]) [] = .ok ((wuV sh p).map D.str) (st ++ [S.lst W]):=by
  have:=compD_fm (chk:=fun s => itemsOf s (.res st.length) = some W) (t:=tgName 0) (cond:=CzRing_words_under_1 cv) (fe:=EzRing_words_under_1) D.str (fun n => ud ((valS sh n).getD []) p) D.str (fun ρ => ∃ a, ρ = [a, some (pl p), some (.res b)]) hi (wsV sh) [none, some (pl p), some (.res b)] [] ⟨_, rfl⟩ (by have:=ws_len sh; simp only [List.length_nil, Nat.zero_add]; exact small_ge (by omega)) ?_
  ·rw [← hW] at this
   exact this
  ·rintro n hn ρ ⟨a, rfl⟩
   obtain ⟨q, hq⟩:=ws_mem hn
   have e2:=B1.look n
   rw [hq] at e2
   have e3:=under_ud q p (st ++ [S.lst W])
   refine ⟨[some (.str n), some (pl p), some (.res b)], rfl, ⟨_, rfl⟩, ?_, fun _ => rfl⟩
   unfold CzRing_words_under_1
   rw [hq]
   simp [z_getDd, z_fld, B1.ins, rn_kept, e2, e3]
 rw [← hW]
 unfold FzRing_words_under gzRing_words_under sRetF
 simp [z_meth, B.ins, rn_words, e1, hi, capEv, c1]
end
theorem set_same {s : Sto} {c : Nat} {x : S} (h : s[c]? = some x) : s.set c x = s:=by
 refine List.ext_getElem? fun j => ?_
 by_cases e : c = j
 ·subst e
  rw [List.getElem?_set_self (List.getElem?_eq_some_iff.mp h).1, h]
 ·rw [List.getElem?_set_ne e]
noncomputable def shp (old new q : List Str) : List Str:=new ++ q.drop old.length
noncomputable def shC (sh : Sh) (old new : List Str) (L : List Str) : List RCh:=L.map fun n => (n, valS sh n, some (shp old new ((valS sh n).getD [])))
theorem too_eq (p : List Str) (st : Sto) : Fzis_too_long [pl p] st = .ok (.bl (decide (p.length > 6))) st:=by
 have e1:=len_pl p st
 unfold Fzis_too_long gzis_too_long
 simp [e1, gtD, cmpD]
 omega
section
variable {cv : Nat → Addr} {b d i : Nat} {sh : Sh} {row : List RStep} {k : Nat}
theorem shift_body {s : Sto} (B : RingAt cv s b d i sh row k) (old new : List Str) (ho : old.length ≤ 20) (hnw : new.length ≤ 20) {c : Nat} {n : Str} {q : List Str} (hq : valS sh n = some q) (hq6 : q.length ≤ 20) (c5 c6 : Option D) (r : OutS)
  (h : (sSeq (sIf (dB (dCall Fzis_too_long (dCons (dVar 6) dNil))) (sRaise (cv 11) (dCons (dC (.str "a place would have too many words")) dNil)) sNext) (sExpr (dAppend (dVar 3) (dTup (dCons (dVar 4) (dCons (dVar 5) (dCons (dVar 6) dNil))))))) [some (.res b), some (pl old), some (pl new), some (.res c), some (.str n), some (pl q), some (pl (shp old new q))] s = r) :
  BzRing_shift_1 cv [some (.res b), some (pl old), some (pl new), some (.res c), some (.str n), c5, c6] s = r:=by
 have e1:=B.look n
 rw [hq] at e1
 have e2:=cut_pl q (some (old.length : Int)) none s
 rw [cutL_from] at e2
 have e3:=len_pl old s
 have e4:=add_pl new (q.drop old.length) s (by rw [List.length_drop]; exact small_ge (by omega))
 unfold BzRing_shift_1
 refine (seq_nx (st':=s) (ρ':=[some (.res b), some (pl old), some (pl new), some (.res c), some (.str n), some (pl q), c6]) ?_).trans ((seq_nx (st':=s) (ρ':=[some (.res b), some (pl old), some (pl new), some (.res c), some (.str n), some (pl q), some (pl (shp old new q))]) ?_).trans h)
 ·simp [z_getDd, z_fld, B.ins, rn_kept, e1]
 ·simp [e3, e2, e4, shp]
theorem loopS_ok (old new : List Str) (ho : old.length ≤ 20) (hnw : new.length ≤ 20) (hp : ∀ n q, valS sh n = some q → q.length ≤ 20) {c u : Nat} {UD : List D} (hcb : c ≠ b) (hcd : c ≠ d) (hci : c ≠ i) (hcu : c ≠ u) : ∀ (L : List Str) (acc : List RCh) (s : Sto) (c4 c5 c6 : Option D), (∀ n ∈ L, ∃ q, valS sh n = some q ∧ (shp old new q).length ≤ 6) → RingAt cv s b d i sh row k → s[c]? = some (.lst (acc.map chD)) → s[u]? = some (.lst UD) → acc.length + L.length ≤ 60 →
  ∃ d4 d5 d6, loopD (fun s => itemsOf s (.res u) = some UD) (tgName 4) (BzRing_shift_1 cv) (L.map D.str) [some (.res b), some (pl old), some (pl new), some (.res c), c4, c5, c6] s = .nx [some (.res b), some (pl old), some (pl new), some (.res c), d4, d5, d6] (s.set c (.lst ((acc ++ shC sh old new L).map chD)))
 | [], acc, s, c4, c5, c6, _, B, hc, hu, _ => by
  refine ⟨c4, c5, c6, ?_⟩
  have e : acc ++ shC sh old new [] = acc:=List.append_nil _
  rw [e, set_same hc]
  exact loop_nil (getL hu)
 | n :: L, acc, s, c4, c5, c6, hL, B, hc, hu, hl => by
  obtain ⟨q, hq, hs6⟩:=hL n List.mem_cons_self
  rw [List.length_cons] at hl
  have hcl : c < s.length:=(List.getElem?_eq_some_iff.mp hc).1
  have B1 : RingAt cv (s.set c (.lst ((acc ++ [(n, some q, some (shp old new q))]).map chD))) b d i sh row k :=
   B.frame (fun x hx => by rw [List.getElem?_set_ne hcb]; exact hx) (fun x hx => by rw [List.getElem?_set_ne hcd]; exact hx) (fun x hx => by rw [List.getElem?_set_ne hci]; exact hx)
  obtain ⟨d4, d5, d6, ih⟩:=loopS_ok old new ho hnw hp hcb hcd hci hcu L (acc ++ [(n, some q, some (shp old new q))]) (s.set c (.lst ((acc ++ [(n, some q, some (shp old new q))]).map chD))) (some (.str n)) (some (pl q)) (some (pl (shp old new q))) (fun m hm => hL m (List.mem_cons_of_mem _ hm)) B1 (List.getElem?_set_self hcl) (by rw [List.getElem?_set_ne hcu]; exact hu) (by simp; omega)
  refine ⟨d4, d5, d6, ?_⟩
  rw [List.map_cons]
  refine (loop_nx (ρ1:=[some (.res b), some (pl old), some (pl new), some (.res c), some (.str n), c5, c6]) (ρ2:=[some (.res b), some (pl old), some (pl new), some (.res c), some (.str n), some (pl q), some (pl (shp old new q))]) (st2:=s.set c (.lst ((acc ++ [(n, some q, some (shp old new q))]).map chD))) (getL hu) rfl ?_).trans ?_
  ·refine shift_body B old new ho hnw hq (hp n q hq) c5 c6 _ ?_
   have e1:=too_eq (shp old new q) s
   rw [decide_eq_false (by omega)] at e1
   have q3 : (3 : Nat) ≤ small:=by decide
   have hal : (acc.map chD).length < small:=by
    rw [List.length_map]
    exact Nat.lt_of_lt_of_le (by omega : acc.length < 61) (small_ge (by decide))
   have ap:=append_ok (fo:=dVar 3) (fa:=dTup (dCons (dVar 4) (dCons (dVar 5) (dCons (dVar 6) dNil)))) (ρ:=[some (.res b), some (pl old), some (pl new), some (.res c), some (.str n), some (pl q), some (pl (shp old new q))]) (st:=s) (u:=c) (v:=chD (n, some q, some (shp old new q))) rfl hc (by simp [q3]; rfl) hal
   refine (seq_nx (st':=s) (ρ':=[some (.res b), some (pl old), some (pl new), some (.res c), some (.str n), some (pl q), some (pl (shp old new q))]) (sif_no ?_)).trans ?_
   ·simp [e1]
   ·rw [z_sExpr, ap, List.map_append]
    rfl
  ·rw [ih, List.set_set]
   have e : acc ++ [(n, some q, some (shp old new q))] ++ shC sh old new L = acc ++ shC sh old new (n :: L):=by
    rw [List.append_assoc]
    congr 1
    unfold shC
    rw [List.map_cons, hq]
    rfl
   rw [e]
end
theorem shC_ok (old new : List Str) (sh0 : Sh) : ∀ (L : List Str) (sh : Sh), okF sh (shC sh0 old new L)
 | [], _ => trivial
 | n :: L, sh => ⟨fun h => by (first | cases h | exact absurd h (by simp)), shC_ok old new sh0 L _⟩
section
variable {cv : Nat → Addr} {st : Sto} {b d i : Nat} {sh : Sh} {row : List RStep} {k : Nat}
theorem wu_len (sh : Sh) (p : List Str) : (wuV sh p).length ≤ sh.length:=by
 have h:=List.length_filter_le (fun n => ud ((valS sh n).getD []) p) (wsV sh)
 rw [ws_len] at h
 exact h
theorem wu_mem {sh : Sh} {p : List Str} {n : Str} (h : n ∈ wuV sh p) : ∃ q, valS sh n = some q:=ws_mem (List.mem_filter.mp h).1
theorem RingAt.shift_pre (B : RingAt cv st b d i sh row k) (old : List Str) : ∃ c u W U, c = st.length ∧ u = st.length + 1 + 1 ∧ W = (wsV sh).map D.str ∧ U = (wuV sh old).map D.str ∧
  FzRing_words_under cv [.res b, pl old] (st ++ [.lst []]) = .ok (.res u) (st ++ [S.lst []] ++ [S.lst W, S.lst U]) ∧ RingAt cv (st ++ [S.lst []] ++ [S.lst W, S.lst U]) b d i sh row k ∧ (st ++ [S.lst []] ++ [S.lst W, S.lst U])[c]? = some (.lst (([] : List RCh).map chD)) ∧ (st ++ [S.lst []] ++ [S.lst W, S.lst U])[u]? = some (.lst U) ∧ c ≠ b ∧ c ≠ d ∧ c ≠ i ∧ c ≠ u:=by
 have hb : b < st.length:=(List.getElem?_eq_some_iff.mp B.ob).1
 have hd : d < st.length:=(List.getElem?_eq_some_iff.mp B.dc).1
 have hi : i < st.length:=(List.getElem?_eq_some_iff.mp B.rw).1
 have B1:=B.app [S.lst []]
 have e1:=B1.words_under old
 have hl : (st ++ [S.lst []]).length + 1 = st.length + 1 + 1:=by simp
 rw [hl] at e1
 refine ⟨_, _, _, _, rfl, rfl, rfl, rfl, e1, B1.app _, ?_, ?_, by omega, by omega, by omega, by omega⟩
 ·simp
 ·rw [List.getElem?_append_right (by simp)]
  simp
theorem RingAt.shift (B : RingAt cv st b d i sh row k) (old new : List Str) (ho : old.length ≤ 20) (hnw : new.length ≤ 20) (hp : ∀ n q, valS sh n = some q → q.length ≤ 20) (h6 : ∀ n ∈ wuV sh old, ∀ q, valS sh n = some q → (shp old new q).length ≤ 6) (hl : sh.length ≤ 20) (hk : k < 100) :
  ∃ st' i', FzRing_shift cv [.res b, pl old, pl new] st = .ok (.int (wuV sh old).length) st' ∧ RingAt cv st' b d i' (apF sh (shC sh old new (wuV sh old))) (row.take k ++ [(("shift" : Str), shC sh old new (wuV sh old))]) (k + 1) ∧ ChgP st st' b d i i' := by
 obtain ⟨c, u, W, U, hc, hu, hW, hU, e1, B1, hc1, hu1, cb, cd, ci, cu⟩:=B.shift_pre old
 obtain ⟨d4, d5, d6, e2⟩:=loopS_ok old new ho hnw hp cb cd ci cu (wuV sh old) [] _ none none none (fun n hn => by obtain ⟨q, hq⟩:=wu_mem hn; exact ⟨q, hq, h6 n hn q hq⟩) B1 hc1 hu1 (by have:=wu_len sh old; simp; omega)
 obtain ⟨cs, hcs⟩ : ∃ cs, cs = shC sh old new (wuV sh old):=⟨_, rfl⟩
 rw [List.nil_append, ← hcs] at e2
 have hcl : cs.length = (wuV sh old).length:=by rw [hcs]; simp [shC]
 have C1 : ChgP st (st ++ [S.lst []] ++ [S.lst W, S.lst U]) b d i i:=by
  rw [List.append_assoc]
  exact chgP_app st _ b d i i (.inl rfl)
 have hst : c < (st ++ [S.lst []] ++ [S.lst W, S.lst U]).length:=(List.getElem?_eq_some_iff.mp hc1).1
 generalize st ++ [S.lst []] ++ [S.lst W, S.lst U] = s1 at *
 have B2 : RingAt cv (s1.set c (.lst (cs.map chD))) b d i sh row k:=B1.frame (fun x hx => by rw [List.getElem?_set_ne cb]; exact hx) (fun x hx => by rw [List.getElem?_set_ne cd]; exact hx) (fun x hx => by rw [List.getElem?_set_ne ci]; exact hx)
 have hc2 : (s1.set c (.lst (cs.map chD)))[c]? = some (.lst (cs.map chD)):=List.getElem?_set_self hst
 have C2 : ChgP st (s1.set c (.lst (cs.map chD))) b d i i:=by
  refine ⟨fun j x hx h1 h2 => ?_, .inl rfl, by rw [List.length_set]; exact C1.le⟩
  have hj : j < st.length:=(List.getElem?_eq_some_iff.mp hx).1
  rw [List.getElem?_set_ne (by omega)]
  exact C1.fr j x hx h1 h2
 obtain ⟨st', i', e3, B3, C3⟩ := B2.make_step "shift" (cs := cs) (dd := .res c) (getL hc2) (by rw [hcs]; exact shC_ok old new sh _ _) (by have := wu_len sh old; omega) hk
 have hc3 : st'[c]? = some (.lst (cs.map chD)):=C3.fr c _ hc2 cb cd
 have l3:=len_res hc3
 rw [List.length_map, hcl] at l3
 refine ⟨st', i', ?_, by rw [← hcs]; exact B3, C2.trans C3⟩
 have hi1 : itemsOf s1 (.res u) = some U:=getL hu1
 unfold FzRing_shift
 refine runX_rt rfl ?_
 show gzRing_shift cv [some (.res b), some (pl old), some (pl new), none, none, none, none] st = _
 unfold gzRing_shift
 refine (seq_nx (st':=st ++ [.lst []]) (ρ':=[some (.res b), some (pl old), some (pl new), some (.res c), none, none, none]) ?_).trans ?_
 ·rw [hc]
  simp
 have B0:=B.app [S.lst []]
 refine (seq_nx (st':=s1.set c (.lst (cs.map chD))) (ρ':=[some (.res b), some (pl old), some (pl new), some (.res c), d4, d5, d6]) ?_).trans ?_
 ·rw [z_sFor]
  simp only [z_seq, z_meth, z_cons, z_nil, z_var, List.getElem?_cons_succ, List.getElem?_cons_zero, z_bind_ok, B0.ins, rn_wu, if_true, e1, hi1, z_to_ok]
  rw [hU]
  rw [hU] at e2
  exact e2
 refine (seq_nx (st':=st') (ρ':=[some (.res b), some (pl old), some (pl new), some (.res c), d4, d5, d6]) ?_).trans ?_
 ·simp [z_meth, B2.ins, rn_ms, e3]
 ·simp [l3]
end
theorem make_ring {cv : Nat → Addr} (st : Sto) : FzRing___init__ cv [.res st.length] (st ++ [.ins (cv 5) []]) = .ok .non (st ++ [.ins (cv 5) (rn (st.length + 1) (st.length + 2) 0), .dct [], .lst []]):=by
 have i1 : ∀ fs, insAt (cv 5) (st ++ [.ins (cv 5) fs]) (.res st.length) = some (st.length, fs):=fun fs => by simp [insAt]
 have i2 : ∀ fs x, insAt (cv 5) (st ++ [.ins (cv 5) fs, x]) (.res st.length) = some (st.length, fs):=fun fs x => by simp [insAt]
 have i3 : ∀ fs x y, insAt (cv 5) (st ++ [.ins (cv 5) fs, x, y]) (.res st.length) = some (st.length, fs):=fun fs x y => by simp [insAt]
 have p1 : putFD ("kept" : Str) (.res (st.length + 1)) [] = [(("kept" : Str), D.res (st.length + 1))] := rfl
 have p2 : putFD ("row" : Str) (.res (st.length + 2)) [(("kept" : Str), D.res (st.length + 1))] = [(("kept" : Str), D.res (st.length + 1)), (("row" : Str), D.res (st.length + 2))] := rfl
 have p3 : putFD ("made" : Str) (.int 0) [(("kept" : Str), D.res (st.length + 1)), (("row" : Str), D.res (st.length + 2))] = rn (st.length + 1) (st.length + 2) 0 := rfl
 have q0 : (0 : Nat) ≤ small:=by decide
 unfold FzRing___init__ gzRing___init__
 simp [z_sFldS, z_sFldF, i1, i2, i3, p1, p2, p3, q0]
theorem ring_new {cv : Nat → Addr} (st : Sto) : RingAt cv (st ++ [.ins (cv 5) (rn (st.length + 1) (st.length + 2) 0), .dct [], .lst []]) st.length (st.length + 1) (st.length + 2) [] [] 0 :=
 ⟨by simp, by simp, by simp, Nat.le_refl _, Nat.zero_le _, Nat.zero_le _⟩
theorem eqD_int' (x y : Int) (st : Sto) : eqD (.int x) (.int y) st = .ok (.bl (decide (x = y))) st:=by
 rw [eqD_nice rfl rfl]
 congr 2
 exact decide_eq_decide.mpr (by rw [D.int.injEq])
noncomputable abbrev W3 : List Str := ["a", "bo", "cccc"]
structure RI (sh : Sh) : Prop where
 nd : (sh.map (·.1)).Nodup
 ks : ∀ n q, valS sh n = some q → n ∈ W3
 pl : ∀ n q, valS sh n = some q → q.length ≤ 6
theorem nd_put {sh : Sh} (h : (sh.map (·.1)).Nodup) (n : Str) (p : List Str) : ((putS sh n p).map (·.1)).Nodup:=by
 cases hv : valS sh n with
 | some q =>
  have e : (putS sh n p).map (·.1) = sh.map (·.1):=by
   unfold putS
   simp only [hv, Option.isSome_some, if_true, List.map_map]
   refine List.map_congr_left fun x _ => ?_
   by_cases e : x.1 = n <;> simp [e]
  rw [e]
  exact h
 | none =>
  have e : putS sh n p = sh ++ [(n, p)]:=by
   unfold putS
   simp [hv]
  rw [e, List.map_append, List.nodup_append]
  refine ⟨h, by simp, ?_⟩
  intro a ha b hb
  simp at hb
  subst hb
  rintro rfl
  obtain ⟨q, hq⟩:=key_val ha
  rw [hv] at hq
  cases hq
theorem nd_drop {sh : Sh} (h : (sh.map (·.1)).Nodup) (n : Str) : ((dropS sh n).map (·.1)).Nodup:=by
 rw [dropS_keys]
 exact h.sublist List.filter_sublist
theorem nd_ap1 {sh : Sh} (h : (sh.map (·.1)).Nodup) (n : Str) (o : Option (List Str)) : ((ap1 sh n o).map (·.1)).Nodup:=by
 cases o with
 | none => exact nd_drop h n
 | some p => exact nd_put h n p
theorem val_ap1 (sh : Sh) (n m : Str) (o : Option (List Str)) : valS (ap1 sh n o) m = if m = n then o else valS sh m:=by
 cases o with
 | none =>
  by_cases e : m = n
  ·rw [if_pos e, e]
   exact valS_drop_same n sh
  ·rw [if_neg e]
   exact valS_drop_ne e sh
 | some p => exact valS_put sh n m p
theorem mem_keys {sh : Sh} {n : Str} : n ∈ sh.map (·.1) ↔ ∃ q, valS sh n = some q:=⟨key_val, fun ⟨q, hq⟩ => valS_mem hq⟩
theorem ws_ext {sh sh' : Sh} (h1 : (sh.map (·.1)).Nodup) (h2 : (sh'.map (·.1)).Nodup) (h : ∀ n, (valS sh n).isSome = (valS sh' n).isSome) : wsV sh = wsV sh':=by
 have hp : (sh.map (·.1)).Perm (sh'.map (·.1)):=by
  refine (List.perm_ext_iff_of_nodup h1 h2).mpr fun n => ?_
  rw [mem_keys, mem_keys, ← Option.isSome_iff_exists, ← Option.isSome_iff_exists, h n]
 unfold wsV
 refine List.Perm.eq_of_pairwise (le:=fun a b => SO.tleB a b = true) (fun a b _ _ h1 h2 => ?_) (SO.srtS_pw _) (SO.srtS_pw _) ((SO.srtS_perm _).trans (hp.trans (SO.srtS_perm _).symm))
 simp only [SO.tleB, decide_eq_true_eq] at h1 h2
 exact SO.str_cps (List.le_antisymm h1 h2)
theorem nodup_len : ∀ {l m : List Str}, l.Nodup → (∀ x ∈ l, x ∈ m) → l.length ≤ m.length
 | [], m, _, _ => Nat.zero_le _
 | a :: l, m, h, hs => by
  have ha:=hs a List.mem_cons_self
  have h2:=nodup_len (m:=m.erase a) (List.nodup_cons.mp h).2 (fun x hx => (List.mem_erase_of_ne (by rintro rfl; exact (List.nodup_cons.mp h).1 hx)).mpr (hs x (List.mem_cons_of_mem _ hx)))
  rw [List.length_erase_of_mem ha] at h2
  have:=List.length_pos_of_mem ha
  rw [List.length_cons]
  omega
theorem RI.len {sh : Sh} (h : RI sh) : sh.length ≤ 3:=by
 have h1 : (sh.map (·.1)).length ≤ W3.length:=by
  refine nodup_len h.nd fun n hn => ?_
  obtain ⟨q, hq⟩:=key_val hn
  exact h.ks n q hq
 rw [List.length_map] at h1
 exact h1
theorem RI.ap {sh : Sh} (h : RI sh) (cs : List RCh) (hk : ∀ c ∈ cs, c.1 ∈ W3) (hp : ∀ c ∈ cs, ∀ q, c.2.2 = some q → q.length ≤ 6) : RI (apF sh cs):=by
 induction cs generalizing sh with
 | nil => exact h
 | cons c cs ih =>
  refine ih (sh:=ap1 sh c.1 c.2.2) ⟨nd_ap1 h.nd _ _, fun n q hq => ?_, fun n q hq => ?_⟩ (fun x hx => hk x (List.mem_cons_of_mem _ hx)) (fun x hx => hp x (List.mem_cons_of_mem _ hx))
  ·rw [val_ap1] at hq
   by_cases e : n = c.1
   ·rw [e]
    exact hk c List.mem_cons_self
   ·rw [if_neg e] at hq
    exact h.ks n q hq
  ·rw [val_ap1] at hq
   by_cases e : n = c.1
   ·rw [if_pos e] at hq
    exact hp c List.mem_cons_self q hq
   ·rw [if_neg e] at hq
    exact h.pl n q hq
noncomputable def lensV (sh : Sh) : List Int:=(wsV sh).map fun n => (((valS sh n).getD []).length : Int)
noncomputable def longV (sh : Sh) : Int:=match lensV sh ++ [0] with
 | m :: r => HT.maxI m r
 | [] => 0
theorem long_le {sh : Sh} {n : Str} {q : List Str} (hq : valS sh n = some q) : (q.length : Int) ≤ longV sh:=by
 have hm : (q.length : Int) ∈ lensV sh:=List.mem_map.mpr ⟨n, (SO.srtS_perm _).mem_iff.mpr (valS_mem hq), by rw [hq]; rfl⟩
 unfold longV
 cases hl : lensV sh with
 | nil => rw [hl] at hm; cases hm
 | cons a r =>
  rw [hl] at hm
  show _ ≤ HT.maxI a (r ++ [0])
  rcases List.mem_cons.mp hm with e | e
  ·rw [e]; exact HT.maxI_ge _ _
  ·exact HT.maxI_all _ _ _ (List.mem_append_left _ e)
noncomputable def chV (ns : List Int) (a : Int) (sh : Sh) : RStep :=
 if drawnV ns a 5 = 0 ∧ wsV sh ≠ [] then
  ("lose", [((wsV sh).getD (drawnV ns (a + 1) (wsV sh).length).toNat "", valS sh ((wsV sh).getD (drawnV ns (a + 1) (wsV sh).length).toNat ""), none)])
 else if drawnV ns a 5 = 1 ∧ longV sh < 6 then
  ("shift", shC sh ((placeV ns (a + 2)).take 1) ((placeV ns (a + 7)).take 1) (wuV sh ((placeV ns (a + 2)).take 1)))
 else ("keep", [(W3.getD (drawnV ns (a + 1) 3).toNat "", valS sh (W3.getD (drawnV ns (a + 1) 3).toNat ""), some (placeV ns (a + 12)))])
theorem W3_mem (ns : List Int) (a : Int) : W3.getD (drawnV ns a 3).toNat "" ∈ W3 := by
 have h1:=drawn_lo ns a 3 (by decide)
 have h2:=drawn_hi ns a 3 (by decide)
 have : (drawnV ns a 3).toNat = 0 ∨ (drawnV ns a 3).toNat = 1 ∨ (drawnV ns a 3).toNat = 2:=by omega
 rcases this with e | e | e <;> rw [e] <;> simp [W3]
theorem ws_at {sh : Sh} {z : Int} (h0 : 0 ≤ z) (h1 : z < (wsV sh).length) : (wsV sh).getD z.toNat "" ∈ wsV sh := by
 rw [List.getD_eq_getElem?_getD, List.getElem?_eq_getElem (by omega)]
 exact List.getElem_mem _
theorem shp6 {sh : Sh} (h6 : longV sh < 6) {n : Str} {q old new : List Str} (hq : valS sh n = some q) (hn : new.length ≤ 1) : (shp old new q).length ≤ 6:=by
 have:=long_le hq
 unfold shp
 rw [List.length_append, List.length_drop]
 omega
theorem take1 (p : List Str) : (p.take 1).length ≤ 1:=by rw [List.length_take]; omega
theorem RI.step {sh : Sh} (h : RI sh) (ns : List Int) (a : Int) : RI (apF sh (chV ns a sh).2):=by
 unfold chV
 split
 ·rename_i hc
  refine h.ap _ (fun c hc' => ?_) (fun c hc' q hq => ?_)
  ·have e:=List.mem_singleton.mp hc'
   have hpos : (0 : Int) < (wsV sh).length:=by
    have:=List.length_pos_iff.mpr hc.2
    omega
   obtain ⟨q, hq⟩:=ws_mem (ws_at (drawn_lo ns (a + 1) (wsV sh).length hpos) (drawn_hi ns (a + 1) (wsV sh).length hpos))
   rw [e]
   exact h.ks _ q hq
  ·rw [List.mem_singleton.mp hc'] at hq
   cases hq
 ·split
  ·rename_i hc
   refine h.ap _ (fun c hc' => ?_) (fun c hc' q hq => ?_)
   ·obtain ⟨n, hn, rfl⟩:=List.mem_map.mp hc'
    obtain ⟨q, hq⟩:=wu_mem hn
    exact h.ks n q hq
   ·obtain ⟨n, hn, rfl⟩:=List.mem_map.mp hc'
    obtain ⟨q', hq'⟩:=wu_mem hn
    have hq2 : some (shp _ _ ((valS sh n).getD [])) = some q:=hq
    rw [hq'] at hq2
    rw [← Option.some.inj hq2]
    exact shp6 hc.2 hq' (take1 _)
  ·refine h.ap _ (fun c hc' => ?_) (fun c hc' q hq => ?_)
   ·rw [List.mem_singleton.mp hc']
    exact W3_mem ns _
   ·rw [List.mem_singleton.mp hc'] at hq
    have:=placeV_len ns (a + 12)
    rw [← Option.some.inj hq]
    omega
theorem ix_W3 (z : Int) (h0 : 0 ≤ z) (h1 : z < 3) (st : Sto) : ixD (.lst [.str "a", .str "bo", .str "cccc"]) (.int z) st = .ok (.str (W3.getD z.toNat "")) st := by
 have : z = 0 ∨ z = 1 ∨ z = 2:=by omega
 rcases this with rfl | rfl | rfl <;> rfl
noncomputable abbrev ES (ns : List Int) (a : Int) (b : Nat) (c3 c4 c5 c6 c7 : Option D) : Ev:=[some (.scr (ns.map .int)), some (.int a), some (.res b), c3, c4, c5, c6, c7]
theorem step_eq {cv : Nat → Addr} {st : Sto} {b d i : Nat} {sh : Sh} {row : List RStep} {k : Nat} (ns : List Int) (hl : ns.length ≤ 63) (a : Int) (B : RingAt cv st b d i sh row k) (h : RI sh) (hk : k < 90) :
  ∃ st' i', Fz_law_step cv [.scr (ns.map .int), .int a, .res b] st = .ok .non st' ∧ RingAt cv st' b d i' (apF sh (chV ns a sh).2) (row.take k ++ [chV ns a sh]) (k + 1) ∧ ChgP st st' b d i i':=by
 have hsl:=h.len
 have d1:=drawn_eq ns hl a 5 (by decide) st
 have e1:=B.words
 obtain ⟨W, hW⟩ : ∃ W, W = (wsV sh).map D.str:=⟨_, rfl⟩
 rw [← hW] at e1
 have B1:=B.app [S.lst W]
 have C1 : ChgP st (st ++ [S.lst W]) b d i i:=chgP_app st _ b d i i (.inl rfl)
 obtain ⟨u, hu⟩ : ∃ u, u = st.length:=⟨_, rfl⟩
 rw [← hu] at e1
 have hat : (st ++ [S.lst W])[u]? = some (.lst W):=by rw [hu]; exact at_last _ _
 generalize st ++ [S.lst W] = s1 at *
 have hiW : itemsOf s1 (.res u) = some W:=getL hat
 have p1:=place_eq ns hl (a + 2) s1
 have p2:=place_eq ns hl (a + 7) s1
 have p3:=place_eq ns hl (a + 12) s1
 have ct : ∀ p : List Str, cutT (pl p) none (some 1) s1 = .ok (pl (p.take 1)) s1:=fun p => by
  have:=cut_pl p none (some 1) s1
  rw [show (1 : Int) = ((1 : Nat) : Int) from rfl, cutL_to] at this
  exact this
 have hwl:=ws_len sh
 have c1 : compD (fun s => itemsOf s (.res u) = some W) (tgName 0) dTrue (Ez_law_step_1 cv) W [none, some (.res b)] s1 [] = .ok ((lensV sh).map D.int) s1:=by
  have:=compD_mm (chk:=fun s => itemsOf s (.res u) = some W) (t:=tgName 0) (fe:=Ez_law_step_1 cv) D.str (fun n => D.int (((valS sh n).getD []).length : Int)) (fun ρ => ∃ x, ρ = [x, some (.res b)]) hiW (wsV sh) [none, some (.res b)] [] ⟨_, rfl⟩ (by simp only [List.length_nil, Nat.zero_add]; exact small_ge (by omega)) ?_
  ·rw [← hW] at this
   rw [this]
   unfold lensV
   rw [List.map_map]
   rfl
  ·rintro n hn ρ ⟨x, rfl⟩
   obtain ⟨q, hq⟩:=ws_mem hn
   refine ⟨[some (.str n), some (.res b)], rfl, ⟨_, rfl⟩, ?_⟩
   have e2:=B1.find hq
   have e3:=len_pl q s1
   unfold Ez_law_step_1
   rw [hq]
   simp [z_meth, B1.ins, rn_find, e2, e3]
 have c2 : catL (.lst ((lensV sh).map D.int)) (.lst [.int 0]) s1 = .ok ((lensV sh ++ [0]).map D.int) s1:=by
  have hs : ((lensV sh).map D.int).length + [D.int 0].length ≤ small:=by
   unfold lensV
   rw [List.length_map, List.length_map]
   exact small_ge (by simp only [List.length_cons, List.length_nil]; omega)
  simp only [catL, ownL, if_pos hs]
  rw [List.map_append]
  rfl
 have c3 : maxLD [.lst ((lensV sh ++ [0]).map D.int)] s1 = .ok (.int (longV sh)) s1:=by
  unfold maxLD
  have hq : seqL s1 (.lst ((lensV sh ++ [0]).map D.int)) = some ((lensV sh ++ [0]).map D.int):=rfl
  simp only [hq, intsD_map]
  unfold longV
  cases hls : lensV sh with
  | nil => rfl
  | cons x r => rfl
 have hpre : ∀ (r : OutS), (sIf (dAnd (dB (dBin eqD (dVar 3) (dC (.int 0)))) (dB (dBin neD (dVar 4) (dF (dLst dNil))))) (sExpr (dMeth (cv 5) "lose" (FzRing_lose cv) (dVar 2) (dCons (dBin ixD (dVar 4) (dCall Fz_law_drawn (dCons (dVar 0) (dCons (dBin addD (dVar 1) (dC (.int 1))) (dCons (dCall lenD (dCons (dVar 4) dNil)) dNil))))) dNil))) (sIf (dAnd (dB (dBin eqD (dVar 3) (dC (.int 1)))) (dB (dBin ltD (dVar 7) (dC (.int 6))))) (sExpr (dMeth (cv 5) "shift" (FzRing_shift cv) (dVar 2) (dCons (dVar 5) (dCons (dVar 6) dNil)))) (sExpr (dMeth (cv 5) "keep" (FzRing_keep cv) (dVar 2) (dCons (dBin ixD (dF (dLst (dCons (dC (.str "a")) (dCons (dC (.str "bo")) (dCons (dC (.str "cccc")) dNil))))) (dCall Fz_law_drawn (dCons (dVar 0) (dCons (dBin addD (dVar 1) (dC (.int 1))) (dCons (dC (.int 3)) dNil))))) (dCons (dCall Fz_law_place (dCons (dVar 0) (dCons (dBin addD (dVar 1) (dC (.int 12))) dNil))) dNil)))))) (ES ns a b (some (.int (drawnV ns a 5))) (some (.res u)) (some (pl ((placeV ns (a + 2)).take 1))) (some (pl ((placeV ns (a + 7)).take 1))) (some (.int (longV sh)))) s1 = r → gz_law_step cv (ES ns a b none none none none none) st = r := by
  intro r hr
  unfold gz_law_step
  refine (seq_nx (st':=st) (ρ':=ES ns a b (some (.int (drawnV ns a 5))) none none none none) ?_).trans ?_
  ·simp [d1]
  refine (seq_nx (st':=s1) (ρ':=ES ns a b (some (.int (drawnV ns a 5))) (some (.res u)) none none none) ?_).trans ?_
  ·simp [z_meth, B.ins, rn_words, e1]
  refine (seq_nx (st':=s1) (ρ':=ES ns a b (some (.int (drawnV ns a 5))) (some (.res u)) (some (pl ((placeV ns (a + 2)).take 1))) (some (pl ((placeV ns (a + 7)).take 1))) none) ?_).trans ?_
  ·simp [z_sPar, addD_int, p1, p2, ct]
  refine (seq_nx (st':=s1) (ρ':=ES ns a b (some (.int (drawnV ns a 5))) (some (.res u)) (some (pl ((placeV ns (a + 2)).take 1))) (some (pl ((placeV ns (a + 7)).take 1))) (some (.int (longV sh)))) ?_).trans hr
  ·have q1 : (1 : Nat) ≤ small:=by decide
   generalize (lensV sh).map D.int = LL at c1 c2
   generalize (lensV sh ++ [0]).map D.int = LM at c2 c3
   simp [hiW, capEv, c1, q1, c2, c3]
 have fin : ∀ st', gz_law_step cv (ES ns a b none none none none none) st = .nx (ES ns a b (some (.int (drawnV ns a 5))) (some (.res u)) (some (pl ((placeV ns (a + 2)).take 1))) (some (pl ((placeV ns (a + 7)).take 1))) (some (.int (longV sh)))) st' → Fz_law_step cv [.scr (ns.map .int), .int a, .res b] st = .ok .non st':=by
  intro st' hg
  unfold Fz_law_step
  rw [z_runX, if_pos (show ([.scr (ns.map .int), .int a, .res b] : List D).length = 3 from rfl)]
  have : gz_law_step cv (([.scr (ns.map .int), .int a, .res b] : List D).map some ++ List.replicate (8 - 3) none) st = _:=hg
  rw [this]
 have en : neD (.res u) (.lst []) s1 = .ok (.bl (!decide (wsV sh = []))) s1:=by
  have e0:=eq_res_nil hat
  have e2 : W.isEmpty = decide (wsV sh = []):=by
   rw [hW]
   cases wsV sh <;> simp
  unfold neD
  unfold eqD at e0
  cases hq : eqN s1 depth (.res u) (.lst []) with
  | none => rw [hq] at e0; cases e0
  | some x =>
   rw [hq] at e0
   injection e0 with e0 _
   injection e0 with e0
   rw [e0, e2]
 by_cases hlose : drawnV ns a 5 = 0 ∧ wsV sh ≠ []
 ·have hpos : (0 : Int) < (wsV sh).length:=by
   have:=List.length_pos_iff.mpr hlose.2
   omega
  have z0:=drawn_lo ns (a + 1) (wsV sh).length hpos
  have z1:=drawn_hi ns (a + 1) (wsV sh).length hpos
  have dz:=drawn_eq ns hl (a + 1) (wsV sh).length hpos s1
  obtain ⟨w, hw⟩ : ∃ w, w = (wsV sh).getD (drawnV ns (a + 1) (wsV sh).length).toNat "" := ⟨_, rfl⟩
  obtain ⟨q, hq⟩:=ws_mem (ws_at z0 z1)
  rw [← hw] at hq
  have hch : chV ns a sh = (("lose" : Str), [(w, some q, none)]) := by
   unfold chV
   rw [if_pos hlose, ← hw, hq]
  obtain ⟨st', i', e2, B2, C2⟩:=B1.lose hq (by omega) (by omega)
  refine ⟨st', i', fin st' (hpre _ ?_), by rw [hch]; exact B2, C1.trans C2⟩
  have lw:=len_res hat
  rw [show W.length = (wsV sh).length by rw [hW, List.length_map]] at lw
  have ix : ixD (.res u) (.int (drawnV ns (a + 1) (wsV sh).length)) s1 = .ok (.str w) s1:=by
   refine ix_res hat (j:=(drawnV ns (a + 1) (wsV sh).length).toNat) (by omega) ?_
   rw [hW, List.getElem?_map, List.getElem?_eq_getElem (by omega), hw, List.getD_eq_getElem?_getD, List.getElem?_eq_getElem (by omega)]
   rfl
  have e0:=hlose.1
  have hne : ¬ wsV sh = []:=hlose.2
  rw [sif_t (st':=s1) (by simp [eqD_int', e0, en, hne])]
  simp [z_meth, B1.ins, rn_lose, addD_int, lw, dz, ix, e2]
 ·have t1 : (dAnd (dB (dBin eqD (dVar 3) (dC (.int 0)))) (dB (dBin neD (dVar 4) (dF (dLst dNil))))) (ES ns a b (some (.int (drawnV ns a 5))) (some (.res u)) (some (pl ((placeV ns (a + 2)).take 1))) (some (pl ((placeV ns (a + 7)).take 1))) (some (.int (longV sh)))) s1 = .ok false s1:=by
   by_cases h0 : drawnV ns a 5 = 0
   ·have hne : wsV sh = []:=Classical.byContradiction fun z => hlose ⟨h0, z⟩
    simp [eqD_int', h0, en, hne]
   ·simp [eqD_int', h0]
  by_cases hsh : drawnV ns a 5 = 1 ∧ longV sh < 6
  ·have hch : chV ns a sh = (("shift" : Str), shC sh ((placeV ns (a + 2)).take 1) ((placeV ns (a + 7)).take 1) (wuV sh ((placeV ns (a + 2)).take 1))) := by
    unfold chV
    rw [if_neg hlose, if_pos hsh]
   obtain ⟨st', i', e2, B2, C2⟩:=B1.shift ((placeV ns (a + 2)).take 1) ((placeV ns (a + 7)).take 1) (by have:=take1 (placeV ns (a + 2)); omega) (by have:=take1 (placeV ns (a + 7)); omega) (fun n q hq => by have:=h.pl n q hq; omega) (fun n hn q hq => shp6 hsh.2 hq (take1 _)) (by omega) (by omega)
   refine ⟨st', i', fin st' (hpre _ ?_), by rw [hch]; exact B2, C1.trans C2⟩
   have e0:=hsh.1
   have e6:=hsh.2
   rw [sif_f t1, sif_t (st':=s1) (by simp [eqD_int', e0, ltD, cmpD, e6])]
   simp [z_meth, B1.ins, rn_shift, e2]
  ·have hch : chV ns a sh = (("keep" : Str), [(W3.getD (drawnV ns (a + 1) 3).toNat "", valS sh (W3.getD (drawnV ns (a + 1) 3).toNat ""), some (placeV ns (a + 12)))]) := by
    unfold chV
    rw [if_neg hlose, if_neg hsh]
   have dz:=drawn_eq ns hl (a + 1) 3 (by decide) s1
   have ix:=ix_W3 _ (drawn_lo ns (a + 1) 3 (by decide)) (drawn_hi ns (a + 1) 3 (by decide)) s1
   obtain ⟨w, hw⟩ : ∃ w, w = W3.getD (drawnV ns (a + 1) 3).toNat "" := ⟨_, rfl⟩
   rw [← hw] at hch ix
   obtain ⟨st', i', e2, B2, C2⟩:=B1.keep w (placeV ns (a + 12)) (by omega) (by omega)
   refine ⟨st', i', fin st' (hpre _ ?_), by rw [hch]; exact B2, C1.trans C2⟩
   have q3 : (3 : Nat) ≤ small:=by decide
   have t2 : (dAnd (dB (dBin eqD (dVar 3) (dC (.int 1)))) (dB (dBin ltD (dVar 7) (dC (.int 6))))) (ES ns a b (some (.int (drawnV ns a 5))) (some (.res u)) (some (pl ((placeV ns (a + 2)).take 1))) (some (pl ((placeV ns (a + 7)).take 1))) (some (.int (longV sh)))) s1 = .ok false s1:=by
    by_cases h0 : drawnV ns a 5 = 1
    ·have h6 : ¬ longV sh < 6:=fun z => hsh ⟨h0, z⟩
     simp [eqD_int', h0, ltD, cmpD, h6]
    ·simp [eqD_int', h0]
   rw [sif_f t1, sif_f t2]
   simp [z_meth, B1.ins, rn_keep, q3, addD_int, dz, ix, p3, e2]
theorem nice_plF {α : Type} (L : List α) (f : α → List Str) : nice depth (.lst (L.map fun n => pl (f n))) = true:=nice_L _ (fun n => nice_pl 47 (f n)) L
theorem strs49 (L : List Str) : ∀ x ∈ L.map D.str, nice 49 x = true:=by
 intro x hx
 obtain ⟨s, _, rfl⟩:=List.mem_map.mp hx
 rfl
theorem kd_at {st : Sto} {u : Nat} {X : List D} (h : st[u]? = some (.lst X)) : kd st (.res u) = .lst X:=by simp [kd, h]
theorem ne_lists {f f' : DE} {ρ : Ev} {st st1 st2 : Sto} {a b : D} {L : List Str} (h1 : f ρ st = .ok a st1) (h2 : f' ρ st1 = .ok b st2) (ka : kd st2 a = .lst (L.map D.str)) (kb : kd st2 b = .lst (L.map D.str)) : dB (dBin neD f f') ρ st = .ok false st2:=by
 have:=ne_kd ka kb (strs49 L)
 simp [h1, h2, this]
noncomputable abbrev Mp:=Str → Option (List Str)
noncomputable def upM (μ : Mp) (n : Str) (o : Option (List Str)) : Mp:=fun m => if m = n then o else μ m
noncomputable def apM (μ : Mp) : List RCh → Mp
 | [] => μ
 | c :: cs => apM (upM μ c.1 c.2.2) cs
noncomputable def mu (row : List RStep) : Mp:=row.foldl (fun μ s => apM μ s.2) fun _ => none
theorem letter_ok : ∀ (i : Nat) (hi : i < 3) (st : Sto), Fzis_letter [.str (letter i)] st = .ok (.bl true) st
 | 0, _, st => rfl
 | 1, _, st => rfl
 | 2, _, st => rfl
theorem all_true (n : Nat) (st : Sto) : allD [.lst (List.replicate n (.bl true))] st = .ok (.bl true) st:=by
 have e : ∀ n, blsOf (List.replicate n (.bl true)) = some (List.replicate n true):=by
  intro n
  induction n with
  | zero => rfl
  | succ n ih => simp [List.replicate_succ, blsOf, ih]
 simp [allD, e]
theorem len_letter (i : Nat) (st : Sto) : lenD [.str (letter i)] st = .ok (.int 1) st:=by
 show (if (letter i).length ≤ small then Out.ok (D.int (letter i).length) st else .bad) = _
 rw [if_pos (by rw [letter_len]; exact small_ge (by omega)), letter_len]
 rfl
theorem word_ok (i : Nat) (hi : i < 3) (st : Sto) : Fzis_word [.str (letter i)] st = .ok (.bl true) st:=by
 have e1:=len_letter i st
 have e2 : signs (letter i) = [letter i]:=rfl
 have e3 : (letter i).cps.all (· < 128) = true:=by
  match i, hi with
  | 0, _ => decide +kernel
  | 1, _ => decide +kernel
  | 2, _ => decide +kernel
 have e4 : compD (fun _ => True) (tgName 0) dTrue Ezis_word_1 [.str (letter i)] [none] st [] = .ok [.bl true] st:=by
  rw [compD_map (fun ρ => ∃ a, ρ = [a]) (fun _ => .bl true) trivial _ _ _ ⟨_, rfl⟩ (by simp [small])]
  ·rfl
  ·rintro x hx ρ ⟨a, rfl⟩
   have e : x = .str (letter i):=by simpa using hx
   subst e
   refine ⟨_, rfl, ⟨_, rfl⟩, ?_⟩
   unfold Ezis_word_1
   simp [letter_ok i hi st]
 have e5 : allD [.lst [.bl true]] st = .ok (.bl true) st:=all_true 1 st
 have e6 : dSigns (dVar 0) [some (.str (letter i))] st = .ok ([.str (letter i)], fun _ => True) st:=by
  show (if (letter i).cps.all (· < 128) = true then Out.ok ((signs (letter i)).map D.str, fun _ => True) st else .bad) = _
  rw [if_pos e3]
  rfl
 unfold Fzis_word gzis_word
 simp [tyName, subTy, e1, leX, e6, capEv, e4, e5]
theorem isplace_ok (ws : List Str) (hw : ∀ w ∈ ws, w = letter 0 ∨ w = letter 1 ∨ w = letter 2) (hl : ws.length ≤ 6) (st : Sto) : Fzis_place [pl ws] st = .ok (.bl true) st:=by
 have e1:=len_pl ws st
 have e2:=items_pl ws st
 have e4 : compD (fun st => itemsOf st (pl ws) = some (ws.map D.str)) (tgName 0) dTrue Ezis_place_1 (ws.map D.str) [none] st [] = .ok (List.replicate ws.length (.bl true)) st:=by
  rw [compD_map (fun ρ => ∃ a, ρ = [a]) (fun _ => .bl true) e2 _ _ _ ⟨_, rfl⟩ (by simp [small]; omega)]
  ·rw [List.map_map, List.nil_append]
   congr 1
   exact List.eq_replicate_iff.mpr ⟨by simp, fun b hb => by obtain ⟨_, _, rfl⟩:=List.mem_map.mp hb; rfl⟩
  ·rintro x hx ρ ⟨a, rfl⟩
   obtain ⟨w, hm, rfl⟩:=List.mem_map.mp hx
   refine ⟨_, rfl, ⟨_, rfl⟩, ?_⟩
   unfold Ezis_place_1
   rcases hw w hm with rfl | rfl | rfl
   ·simp [word_ok 0 (by decide) st]
   ·simp [word_ok 1 (by decide) st]
   ·simp [word_ok 2 (by decide) st]
 have e5:=all_true ws.length st
 have e6 : Fzis_too_long [pl ws] st = .ok (.bl false) st:=by
  have h66 : ¬ (6 : Int) < (ws.length : Int):=by omega
  unfold Fzis_too_long gzis_too_long
  simp [e1, gtD, cmpD, h66]
 have e7 : tyName (pl ws) = some "tuple" := rfl
 unfold Fzis_place gzis_place
 simp [e7, subTy, e1, e2, e6, capEv, e4, e5]
noncomputable abbrev sl : Str := "/"
noncomputable abbrev nl : Str := "\n"
noncomputable abbrev mk : Str := ">"
noncomputable def cq (x : Str) : List Nat:=x.cps.toList
theorem cq_app (a b : Str) : cq (a ++ b) = cq a ++ cq b:=by
 show (a.cps ++ b.cps).toList = _
 simp [cq]
theorem cq_inj {a b : Str} (h : cq a = cq b) : a = b:=by
 cases a; cases b
 simp only [cq] at h
 rw [Array.toList_inj.mp h]
theorem cut_uniq {c : Nat} : ∀ {a b x y : List Nat}, c ∉ a → c ∉ b → a ++ c :: x = b ++ c :: y → a = b ∧ x = y
 | [], [], _, _, _, _, e => by simpa using e
 | [], b :: bs, _, _, _, h2, e => by
  simp at e
  exact absurd (by rw [e.1]; exact List.mem_cons_self) h2
 | a :: as, [], _, _, h1, _, e => by
  simp at e
  exact absurd (by rw [← e.1]; exact List.mem_cons_self) h1
 | a :: as, b :: bs, x, y, h1, h2, e => by
  simp only [List.cons_append, List.cons.injEq] at e
  obtain ⟨e1, e2⟩:=cut_uniq (fun h => h1 (List.mem_cons_of_mem _ h)) (fun h => h2 (List.mem_cons_of_mem _ h)) e.2
  rw [e.1, e1, e2]
  exact ⟨rfl, rfl⟩
theorem jn_cons (z a b : Str) (r : List Str) : Str.join z (a :: b :: r) = a ++ z ++ Str.join z (b :: r):=rfl
theorem join_uniq {c : Nat} : ∀ (P Q : List Str), P ≠ [] → Q ≠ [] → (∀ x ∈ P, c ∉ cq x) → (∀ x ∈ Q, c ∉ cq x) → Str.join ⟨#[c]⟩ P = Str.join ⟨#[c]⟩ Q → P = Q
 | [], _, h, _, _, _, _ => absurd rfl h
 | _, [], _, h, _, _, _ => absurd rfl h
 | [a], [b], _, _, _, _, e => by
  have : a = b:=e
  rw [this]
 | [a], b :: b' :: s, _, _, hP, _, e => by
  have e' : a = b ++ ⟨#[c]⟩ ++ Str.join ⟨#[c]⟩ (b' :: s):=e
  refine absurd ?_ (hP a List.mem_cons_self)
  rw [e', cq_app, cq_app]
  simp [cq]
 | a :: a' :: r, [b], _, _, _, hQ, e => by
  have e' : a ++ ⟨#[c]⟩ ++ Str.join ⟨#[c]⟩ (a' :: r) = b:=e
  refine absurd ?_ (hQ b List.mem_cons_self)
  rw [← e', cq_app, cq_app]
  simp [cq]
 | a :: a' :: r, b :: b' :: s, _, _, hP, hQ, e => by
  rw [jn_cons, jn_cons] at e
  have e2:=congrArg cq e
  rw [cq_app, cq_app, cq_app, cq_app] at e2
  have e3 : cq a ++ c :: cq (Str.join ⟨#[c]⟩ (a' :: r)) = cq b ++ c :: cq (Str.join ⟨#[c]⟩ (b' :: s)):=by
   simpa [cq] using e2
  obtain ⟨h1, h2⟩:=cut_uniq (hP a List.mem_cons_self) (hQ b List.mem_cons_self) e3
  rw [cq_inj h1, join_uniq (a' :: r) (b' :: s) (by simp) (by simp) (fun x hx => hP x (List.mem_cons_of_mem _ hx)) (fun x hx => hQ x (List.mem_cons_of_mem _ hx)) (cq_inj h2)]
theorem split_is {c : Nat} {x : Str} {P : List Str} (hP : P ≠ []) (hf : ∀ p ∈ P, c ∉ cq p) (hj : Str.join ⟨#[c]⟩ P = x) : Txt.split x ⟨#[c]⟩ = P:=by
 refine join_uniq (c:=c) _ _ ?_ hP (fun p hp => StrLaws.split_free x c p hp) hf ((StrLaws.join_split x _).trans hj.symm)
 intro h
 have:=PyProof.Rows.split_pos x ⟨#[c]⟩
 rw [h] at this
 simp at this
noncomputable def AW (p : List Str) : Prop:=(∀ w ∈ p, w = letter 0 ∨ w = letter 1 ∨ w = letter 2) ∧ p.length ≤ 6
theorem AW.one {p : List Str} (h : AW p) : ∀ w ∈ p, w.length = 1:=fun w hw => by rcases h.1 w hw with rfl | rfl | rfl <;> rfl
noncomputable def lineV (p : List Str) : Str:=sl ++ Txt.join sl p
theorem textV_cps : ∀ {p : List Str}, (∀ w ∈ p, w = letter 0 ∨ w = letter 1 ∨ w = letter 2) → ∀ c ∈ cq (textV p), c = 47 ∨ 97 ≤ c ∧ c ≤ 99
 | [], _, c, hc => by
  have : cq (textV []) = []:=by decide +kernel
  rw [this] at hc
  cases hc
 | w :: ws, h, c, hc => by
  rw [textV, cq_app, cq_app] at hc
  rcases List.mem_append.mp hc with hc | hc
  ·rcases List.mem_append.mp hc with hc | hc
   ·left
    have : cq ("/" : Str) = [47] := by decide +kernel
    rw [this] at hc
    simpa using hc
   ·right
    rcases h w List.mem_cons_self with rfl | rfl | rfl <;> (simp [cq, letter] at hc; omega)
  ·exact textV_cps (fun x hx => h x (List.mem_cons_of_mem _ hx)) c hc
theorem lineV_text {p : List Str} (h : p ≠ []) : lineV p = textV p:=join_text p h
theorem lineV_nil : lineV [] = sl:=by decide +kernel
theorem lineV_cps {p : List Str} (h : AW p) : ∀ c ∈ cq (lineV p), c = 47 ∨ 97 ≤ c ∧ c ≤ 99:=by
 by_cases h0 : p = []
 ·subst h0
  rw [lineV_nil]
  have : cq sl = [47]:=by decide +kernel
  rw [this]
  intro c hc
  simp at hc
  omega
 ·rw [lineV_text h0]
  exact textV_cps h.1
theorem lineV_len {p : List Str} (h : AW p) : (lineV p).length ≤ 13:=by
 by_cases h0 : p = []
 ·subst h0
  decide +kernel
 ·rw [lineV_text h0, textV_len p h.one]
  have:=h.2
  omega
theorem join_sl : ∀ (ws : List Str) (x : Str), Str.join sl (x :: ws) = x ++ textV ws
 | [], x => (Str.append_right_empty (x := x) (y := ("" : Str)) rfl).symm
 | w :: ws, x => by
  rw [jn_cons, join_sl ws w]
  show _ = x ++ (sl ++ w ++ textV ws)
  simp only [Str.append_assoc]
theorem split_line {p : List Str} (h : AW p) (h0 : p ≠ []) : Txt.split (lineV p) sl = ("" : Str) :: p := by
 have e : sl = (⟨#[47]⟩ : Str):=by decide +kernel
 have hj : Str.join sl (("" : Str) :: p) = lineV p := by
  rw [join_sl, lineV_text h0]
  exact Str.append_left_empty rfl
 have := split_is (c := 47) (x := lineV p) (P := ("" : Str) :: p) (by simp) (fun w hw hc => ?_) (by rw [← e]; exact hj)
 ·rw [e]
  exact this
 ·rcases List.mem_cons.mp hw with rfl | hw
  ·have : cq ("" : Str) = [] := by decide +kernel
   rw [this] at hc
   cases hc
  ·rcases h.1 w hw with rfl | rfl | rfl <;> simp [cq, letter] at hc
theorem ne_nice {a : D} (h : nice depth a = true) (st : Sto) : neD a a st = .ok (.bl false) st:=by
 rw [neD_nice h h]
 simp
theorem text_eq (ws : List Str) (hw : ∀ w ∈ ws, w.length = 1) (hl : ws.length ≤ 6) (st : Sto) : Fzplace_text [pl ws] st = .ok (.str (("/" : Str) ++ PySem.Txt.join "/" ws)) st := by
 have h1 : ("/" : Str).length = 1 := rfl
 have e1 : joinD (.str "/") [pl ws] st = .ok (.str (PySem.Txt.join "/" ws)) st := by
  have h2 : (ws.map (·.length)).sum + ws.length * ("/" : Str).length ≤ small := by
   rw [sum_len ws hw, h1]
   exact small_ge (by omega)
  simp only [joinD, items_pl, strsOf_map, if_pos h2]
 have h3 : ("/" : Str).length + (PySem.Txt.join "/" ws).length ≤ small := by
  rw [← len_app]
  by_cases h0 : ws = []
  ·subst h0
   exact small_ge (by decide)
  ·rw [join_text ws h0, textV_len ws hw]
   exact small_ge (by omega)
 have e2 : addD (.str "/") (.str (PySem.Txt.join "/" ws)) st = .ok (.str (("/" : Str) ++ PySem.Txt.join "/" ws)) st := by
  simp only [addD, if_pos h3]
 unfold Fzplace_text gzplace_text
 simp [e1, e2]
theorem text_ok {p : List Str} (h : AW p) (st : Sto) : Fzplace_text [pl p] st = .ok (.str (lineV p)) st:=text_eq p h.one (by have:=h.2; omega) st
theorem read_ok (cv : Nat → Addr) {p : List Str} (h : AW p) (st : Sto) : Fzread_place cv [.str (lineV p)] st = .ok (pl p) st:=by
 have e1:=isplace_ok p h.1 (by have:=h.2; omega) st
 have e2:=text_ok h st
 have n1:=ne_nice (a:=.str (lineV p)) rfl st
 have q0 : (0 : Nat) ≤ small:=Nat.zero_le _
 have hlen:=lineV_len h
 by_cases h0 : p = []
 ·subst h0
  rw [lineV_nil] at *
  have eq1 : eqD (.str sl) (.str sl) st = .ok (.bl true) st:=by rw [eqD_nice rfl rfl]; simp
  have e1' : Fzis_place [.tup []] st = .ok (.bl true) st:=e1
  have e2' : Fzplace_text [.tup []] st = .ok (.str sl) st:=e2
  unfold Fzread_place gzread_place
  simp [eq1, q0, e1', e2', n1]
  rfl
 ·have hs:=split_line h h0
  have hne : lineV p ≠ sl:=by
   intro e
   have:=congrArg Str.length e
   rw [lineV_text h0, textV_len p h.one] at this
   have h1 : sl.length = 1:=by decide +kernel
   omega
  have eq1 : eqD (.str (lineV p)) (.str sl) st = .ok (.bl false) st:=by rw [eqD_nice rfl rfl]; simp [hne]
  have hsm : (lineV p).length ≤ small:=small_ge (by omega)
  have h1 : sl.length ≠ 0:=by decide +kernel
  have s1 : splitF (.str (lineV p)) [.str sl] st = .ok ((("" : Str) :: p).map D.str) st := by
   simp only [splitF, if_pos (And.intro h1 hsm), hs]
  have c1 : cutF (.lst ((("" : Str) :: p).map D.str)) (some 1) none st = .ok (p.map D.str) st := by
   have := cutL_from ((("" : Str) :: p).map D.str) 1
   simp only [cutF, seqL]
   rw [show (1 : Int) = ((1 : Nat) : Int) from rfl, this]
   simp
  have t1 : tupleD [.lst (p.map D.str)] st = .ok (pl p) st:=by simp [tupleD, itemsOf, seqL]; rfl
  generalize (("" : Str) :: p).map D.str = Y at s1 c1
  unfold Fzread_place gzread_place dBMF
  simp [eq1, s1, c1, t1, e1, e2, n1]
noncomputable def catV : List Str → Str
 | [] => ""
 | l :: ls => l ++ nl ++ catV ls
theorem catV_app : ∀ (a b : List Str), catV (a ++ b) = catV a ++ catV b
 | [], b => (Str.append_left_empty rfl).symm
 | l :: a, b => by
  show l ++ nl ++ catV (a ++ b) = l ++ nl ++ catV a ++ catV b
  rw [catV_app a b]
  simp only [Str.append_assoc]
theorem catV_snoc (a : List Str) (l : Str) : catV (a ++ [l]) = catV a ++ l ++ nl:=by
 rw [catV_app]
 show catV a ++ (l ++ nl ++ "") = _
 rw [Str.append_right_empty (x := l ++ nl) (y := ("" : Str)) rfl]
 simp only [Str.append_assoc]
theorem join_nl : ∀ (ls : List Str), Str.join nl (ls ++ [("" : Str)]) = catV ls
 | [] => rfl
 | [l] => by
  show l ++ nl ++ "" = l ++ nl ++ ""
  rfl
 | l :: k :: ls => by
  show l ++ nl ++ Str.join nl (k :: ls ++ [("" : Str)]) = l ++ nl ++ catV (k :: ls)
  rw [← join_nl (k :: ls)]
theorem join_none : ∀ (ls : List Str), Txt.join "" (ls.map fun l => l ++ nl) = catV ls := by
 have go : ∀ (ls : List Str), Str.join "" (ls.map fun l => l ++ nl) = catV ls := by
  intro ls
  induction ls with
  | nil => rfl
  | cons l ls ih =>
   cases ls with
   | nil => exact (Str.append_right_empty (x := l ++ nl) (y := ("" : Str)) rfl).symm
   | cons k ls =>
    show l ++ nl ++ "" ++ Str.join "" ((k :: ls).map fun l => l ++ nl) = l ++ nl ++ catV (k :: ls)
    rw [ih, Str.append_right_empty (x := l ++ nl) (y := ("" : Str)) rfl]
 intro ls
 show Builtin.Str.glued "" _ = _
 rw [StrLaws.glued_eq_join]
 exact go ls
theorem split_cat {ls : List Str} (h : ∀ l ∈ ls, 10 ∉ cq l) : Txt.split (catV ls) nl = ls ++ [("" : Str)] := by
 have e : nl = (⟨#[10]⟩ : Str):=by decide +kernel
 have := split_is (c := 10) (x := catV ls) (P := ls ++ [("" : Str)]) (by simp) (fun w hw hc => ?_) (by rw [← e]; exact join_nl ls)
 ·rw [e]
  exact this
 ·rcases List.mem_append.mp hw with hw | hw
  ·exact h w hw hc
  ·rw [List.mem_singleton.mp hw] at hc
   have : cq ("" : Str) = [] := by decide +kernel
   rw [this] at hc
   cases hc
theorem ends_cat (a : List Str) (l : Str) : Txt.endswith (catV (a ++ [l])) nl = true:=by
 rw [catV_snoc, PySem.W.KAf.ends_right (Nat.le_refl _)]
 decide +kernel
theorem addS {a b : Str} (h : a.length + b.length ≤ 1000) (st : Sto) : addD (.str a) (.str b) st = .ok (.str (a ++ b)) st:=by
 simp only [addD, if_pos (small_ge h)]
noncomputable abbrev spc : Str := " "
noncomputable abbrev W4 : List Str := ["a", "bo", "cccc", "zz"]
theorem cutL_m1 (xs : List D) : cutL xs none (some (-1)) = xs.dropLast:=by
 unfold cutL HT.sIx
 simp only [show (-1 : Int) < 0 by decide, if_true, List.drop_zero, Nat.sub_zero]
 rw [List.dropLast_eq_take]
 congr 1
 omega
structure TX (sh : Sh) : Prop where
 nd : (sh.map (·.1)).Nodup
 ks : ∀ n q, valS sh n = some q → n ∈ W4
 aw : ∀ n q, valS sh n = some q → AW q
theorem W4_cases {P : Str → Prop} (h1 : P "a") (h2 : P "bo") (h3 : P "cccc") (h4 : P "zz") : ∀ n ∈ W4, P n := by
 intro n hn
 rcases List.mem_cons.mp hn with rfl | hn
 ·exact h1
 rcases List.mem_cons.mp hn with rfl | hn
 ·exact h2
 rcases List.mem_cons.mp hn with rfl | hn
 ·exact h3
 rcases List.mem_cons.mp hn with rfl | hn
 ·exact h4
 cases hn
theorem W4_len : ∀ n ∈ W4, n.length ≤ 4:=W4_cases (by decide +kernel) (by decide +kernel) (by decide +kernel) (by decide +kernel)
theorem W4_nl : ∀ n ∈ W4, 10 ∉ cq n:=W4_cases (by decide +kernel) (by decide +kernel) (by decide +kernel) (by decide +kernel)
theorem W4_sp : ∀ n ∈ W4, 32 ∉ cq n:=W4_cases (by decide +kernel) (by decide +kernel) (by decide +kernel) (by decide +kernel)
theorem TX.len {sh : Sh} (h : TX sh) : sh.length ≤ 4:=by
 have:=nodup_len h.nd (m:=W4) (fun x hx => by
  obtain ⟨q, hq⟩:=key_val hx
  exact h.ks x q hq)
 rw [List.length_map] at this
 exact this
theorem TX.ext {sh sh' : Sh} (h : TX sh) (hn : (sh'.map (·.1)).Nodup) (hv : ∀ n, valS sh' n = valS sh n) : TX sh' :=
 ⟨hn, fun n q hq => h.ks n q (by rw [← hv]; exact hq), fun n q hq => h.aw n q (by rw [← hv]; exact hq)⟩
noncomputable def rlV (n : Str) (p : List Str) : Str:=n ++ spc ++ lineV p
noncomputable def lsV (sh : Sh) : List Str:=(wsV sh).map fun n => rlV n ((valS sh n).getD [])
noncomputable def txV (sh : Sh) : Str:=catV (lsV sh)
theorem txV_ext {sh sh' : Sh} (h1 : (sh'.map (·.1)).Nodup) (h2 : (sh.map (·.1)).Nodup) (hv : ∀ n, valS sh' n = valS sh n) : txV sh' = txV sh:=by
 have hf : valS sh' = valS sh:=funext hv
 have hw : wsV sh' = wsV sh:=ws_ext h1 h2 fun n => by rw [hv]
 unfold txV lsV
 rw [hw, hf]
theorem rlV_len {n : Str} {p : List Str} (hn : n ∈ W4) (h : AW p) : (rlV n p).length ≤ 18:=by
 have h1:=W4_len n hn
 have h2:=lineV_len h
 have h3 : spc.length = 1:=by decide +kernel
 unfold rlV
 rw [len_app, len_app]
 omega
theorem rlV_nl {n : Str} {p : List Str} (hn : n ∈ W4) (h : AW p) : 10 ∉ cq (rlV n p):=by
 intro hc
 unfold rlV at hc
 rw [cq_app, cq_app] at hc
 rcases List.mem_append.mp hc with hc | hc
 ·rcases List.mem_append.mp hc with hc | hc
  ·exact W4_nl n hn hc
  ·have : cq spc = [32]:=by decide +kernel
   rw [this] at hc
   simp at hc
 ·have:=lineV_cps h 10 hc
  omega
theorem split_sp {n : Str} {p : List Str} (hn : n ∈ W4) (h : AW p) : Txt.split (rlV n p) spc = [n, lineV p]:=by
 have e : spc = (⟨#[32]⟩ : Str):=by decide +kernel
 have:=split_is (c:=32) (x:=rlV n p) (P:=[n, lineV p]) (by simp) (fun w hw hc => ?_) (by rw [← e]; rfl)
 ·rw [e]
  exact this
 ·rcases List.mem_cons.mp hw with rfl | hw
  ·exact W4_sp w hn hc
  ·rw [List.mem_singleton.mp hw] at hc
   have:=lineV_cps h 32 hc
   omega
theorem rline_ok {n : Str} {p : List Str} (hn : n ∈ W4) (h : AW p) (st : Sto) : Fzring_line [.str n, pl p] st = .ok (.str (rlV n p ++ nl)) st:=by
 have e1:=text_ok h st
 have h1:=W4_len n hn
 have h2:=lineV_len h
 have h3 : spc.length = 1:=by decide +kernel
 have h4 : nl.length = 1:=by decide +kernel
 have a1:=addS (a:=n) (b:=spc) (by omega) st
 have a2:=addS (a:=n ++ spc) (b:=lineV p) (by rw [len_app]; omega) st
 have a3:=addS (a:=n ++ spc ++ lineV p) (b:=nl) (by rw [len_app, len_app]; omega) st
 unfold Fzring_line gzring_line rlV
 simp [e1, a1, a2, a3]
theorem sum_le {k : Nat} : ∀ {ys : List Str}, (∀ y ∈ ys, y.length ≤ k) → (ys.map (·.length)).sum ≤ k * ys.length
 | [], _ => by simp
 | y :: ys, h => by
  rw [List.map_cons, List.sum_cons, List.length_cons, Nat.mul_add, Nat.mul_one]
  have:=h y List.mem_cons_self
  have:=sum_le fun z hz => h z (List.mem_cons_of_mem _ hz)
  omega
theorem catV_len {k : Nat} {ls : List Str} (h : ∀ l ∈ ls, l.length ≤ k) : (catV ls).length ≤ (k + 1) * ls.length:=by
 induction ls with
 | nil =>
  have : (catV []).length = 0:=by decide +kernel
  rw [this]
  exact Nat.zero_le _
 | cons l ls ih =>
  show (l ++ nl ++ catV ls).length ≤ _
  have h1:=h l List.mem_cons_self
  have h2:=ih fun x hx => h x (List.mem_cons_of_mem _ hx)
  have h3 : nl.length = 1:=by decide +kernel
  rw [len_app, len_app, List.length_cons, Nat.mul_add, Nat.mul_one]
  omega
theorem TX.at_ {sh : Sh} (h : TX sh) {n : Str} (hn : n ∈ wsV sh) : n ∈ W4 ∧ AW ((valS sh n).getD []):=by
 obtain ⟨q, hq⟩:=ws_mem hn
 rw [hq]
 exact ⟨h.ks n q hq, h.aw n q hq⟩
theorem TX.ls {sh : Sh} (h : TX sh) : ∀ l ∈ lsV sh, l.length ≤ 18 ∧ 10 ∉ cq l:=by
 intro l hl
 obtain ⟨n, hn, rfl⟩:=List.mem_map.mp hl
 obtain ⟨h1, h2⟩:=h.at_ hn
 exact ⟨rlV_len h1 h2, rlV_nl h1 h2⟩
theorem ls_len (sh : Sh) : (lsV sh).length = sh.length:=by
 unfold lsV
 rw [List.length_map, ws_len]
theorem TX.tlen {sh : Sh} (h : TX sh) : (txV sh).length ≤ 76:=by
 have h1:=catV_len (k:=18) (ls:=lsV sh) fun l hl => (h.ls l hl).1
 have h2:=h.len
 rw [ls_len] at h1
 show (catV (lsV sh)).length ≤ 76
 omega
theorem rtext_ok {cv : Nat → Addr} {st : Sto} {b d i : Nat} {sh : Sh} {row : List RStep} {k : Nat} (B : RingAt cv st b d i sh row k) (h : TX sh) : Fzring_text cv [.res b] st = .ok (.str (txV sh)) (st ++ [.lst ((wsV sh).map D.str)]):=by
 have e1:=B.words
 obtain ⟨W, hW⟩ : ∃ W, W = (wsV sh).map D.str:=⟨_, rfl⟩
 rw [← hW] at e1
 have B1:=B.app [S.lst W]
 have hat : (st ++ [S.lst W])[st.length]? = some (.lst W):=at_last _ _
 have hi : itemsOf (st ++ [S.lst W]) (.res st.length) = some W:=getL hat
 have hl4:=h.len
 have hwl:=ws_len sh
 have c1 : compD (fun s => itemsOf s (.res st.length) = some W) (tgName 0) dTrue (Ezring_text_1 cv) W [none, some (.res b)] (st ++ [S.lst W]) [] = .ok (((lsV sh).map fun l => l ++ nl).map D.str) (st ++ [S.lst W]):=by
  have:=compD_mm (chk:=fun s => itemsOf s (.res st.length) = some W) (t:=tgName 0) (fe:=Ezring_text_1 cv) D.str (fun n => D.str (rlV n ((valS sh n).getD []) ++ nl)) (fun ρ => ∃ a, ρ = [a, some (.res b)]) hi (wsV sh) [none, some (.res b)] [] ⟨_, rfl⟩ (by simp only [List.length_nil, Nat.zero_add]; exact small_ge (by omega)) ?_
  ·rw [← hW] at this
   rw [this]
   unfold lsV
   rw [List.map_map, List.map_map]
   rfl
  ·rintro n hn ρ ⟨a, rfl⟩
   obtain ⟨h1, h2⟩:=h.at_ hn
   obtain ⟨q, hq⟩:=ws_mem hn
   have e2:=B1.find hq
   rw [hq] at h2 ⊢
   have e3:=rline_ok h1 h2 (st ++ [S.lst W])
   refine ⟨[some (.str n), some (.res b)], rfl, ⟨_, rfl⟩, ?_⟩
   unfold Ezring_text_1
   simp only [Option.getD_some] at e3 ⊢
   simp [z_meth, B1.ins, rn_find, e2, e3]
 have j1 : joinD (.str "") [.lst (((lsV sh).map fun l => l ++ nl).map D.str)] (st ++ [S.lst W]) = .ok (.str (txV sh)) (st ++ [S.lst W]) := by
  have h2 : ((((lsV sh).map fun l => l ++ nl)).map (·.length)).sum + (((lsV sh).map fun l => l ++ nl)).length * ("" : Str).length ≤ small := by
   have h3:=sum_le (k:=19) (ys:=(lsV sh).map fun l => l ++ nl) (fun y hy => by
    obtain ⟨l, hl, rfl⟩:=List.mem_map.mp hy
    have:=(h.ls l hl).1
    have h3 : nl.length = 1:=by decide +kernel
    rw [len_app]
    omega)
   rw [List.length_map, ls_len] at h3
   have h4 : ("" : Str).length = 0 := by decide +kernel
   rw [h4, Nat.mul_zero]
   exact small_ge (by omega)
  simp only [joinD, itemsOf, seqL, strsOf_map, if_pos h2, join_none]
  rfl
 generalize ((lsV sh).map fun l => l ++ nl).map D.str = Y at c1 j1
 rw [← hW]
 unfold Fzring_text gzring_text dBM
 simp [z_meth, B.ins, rn_words, e1, hi, capEv, c1, j1]
theorem sign_ok (c : Nat) (h : c = 97 ∨ c = 98 ∨ c = 99 ∨ c = 111 ∨ c = 122) (st : Sto) : Fzis_letter [.str ⟨#[c]⟩] st = .ok (.bl true) st:=by
 rcases h with rfl | rfl | rfl | rfl | rfl <;> rfl
theorem isword_gen {n : Str} (h0 : 1 ≤ n.length) (h1 : n.length ≤ 4) (h2 : n.cps.all (· < 128) = true) (h3 : ∀ c ∈ n.cps.toList, c = 97 ∨ c = 98 ∨ c = 99 ∨ c = 111 ∨ c = 122) (st : Sto) : Fzis_word [.str n] st = .ok (.bl true) st:=by
 have e1 : lenD [.str n] st = .ok (.int n.length) st:=by
  show (if n.length ≤ small then Out.ok (D.int n.length) st else .bad) = _
  rw [if_pos (small_ge (by omega))]
 have hsl : (signs n).length ≤ 4:=by
  unfold signs
  rw [List.length_map]
  exact h1
 obtain ⟨Y, hY⟩ : ∃ Y, Y = (signs n).map D.str:=⟨_, rfl⟩
 have e4 : compD (fun _ => True) (tgName 0) dTrue Ezis_word_1 Y [none] st [] = .ok (List.replicate (signs n).length (.bl true)) st:=by
  rw [compD_map (fun ρ => ∃ a, ρ = [a]) (fun _ => .bl true) trivial _ _ _ ⟨_, rfl⟩ (by rw [hY, List.length_map]; simp only [List.length_nil, Nat.zero_add]; exact small_ge (by omega))]
  ·rw [hY, List.map_map, List.nil_append]
   congr 1
   exact List.eq_replicate_iff.mpr ⟨by simp, fun b hb => by obtain ⟨_, _, rfl⟩:=List.mem_map.mp hb; rfl⟩
  ·rintro x hx ρ ⟨a, rfl⟩
   rw [hY] at hx
   obtain ⟨s, hs, rfl⟩:=List.mem_map.mp hx
   obtain ⟨c, hc, rfl⟩:=List.mem_map.mp hs
   refine ⟨_, rfl, ⟨_, rfl⟩, ?_⟩
   unfold Ezis_word_1
   simp [sign_ok c (h3 c hc) st]
 have e5:=all_true (signs n).length st
 have e6 : dSigns (dVar 0) [some (.str n)] st = .ok (Y, fun _ => True) st:=by
  rw [hY]
  show (if n.cps.all (· < 128) = true then Out.ok ((signs n).map D.str, fun _ => True) st else .bad) = _
  rw [if_pos h2]
 generalize List.replicate (signs n).length (D.bl true) = R at e4 e5
 have k1 : (1 : Int) ≤ (n.length : Int):=by omega
 have k2 : (n.length : Int) ≤ 4:=by omega
 unfold Fzis_word gzis_word
 simp [tyName, subTy, e1, leX, e6, capEv, e4, e5, k1, k2]
theorem isword4 (st : Sto) : ∀ n ∈ W4, Fzis_word [.str n] st = .ok (.bl true) st :=
 W4_cases (isword_gen (by decide +kernel) (by decide +kernel) (by decide +kernel) (by decide +kernel) st) (isword_gen (by decide +kernel) (by decide +kernel) (by decide +kernel) (by decide +kernel) st)
  (isword_gen (by decide +kernel) (by decide +kernel) (by decide +kernel) (by decide +kernel) st) (isword_gen (by decide +kernel) (by decide +kernel) (by decide +kernel) (by decide +kernel) st)
theorem lines_ok (cv : Nat → Addr) {ls : List Str} (h : ∀ l ∈ ls, l.length ≤ 18 ∧ 10 ∉ cq l) (hl : ls.length ≤ 9) (st : Sto) : Fzlines_of cv [.str (catV ls)] st = .ok (.lst (ls.map .str)) st ∧ splitF (.str (catV ls)) [.str nl] st = .ok ((ls ++ [("" : Str)]).map D.str) st ∧ cutF (.lst ((ls ++ [("" : Str)]).map D.str)) none (some (-1)) st = .ok (ls.map D.str) st := by
 have hz:=catV_len (k:=18) (ls:=ls) fun l hl => (h l hl).1
 have hsp:=split_cat (ls:=ls) fun l hl => (h l hl).2
 have h3 : nl.length ≠ 0:=by decide +kernel
 have s1 : splitF (.str (catV ls)) [.str nl] st = .ok ((ls ++ [("" : Str)]).map D.str) st := by
  simp only [splitF, if_pos (And.intro h3 (small_ge (show (catV ls).length ≤ 1000 by omega))), hsp]
 have c1 : cutF (.lst ((ls ++ [("" : Str)]).map D.str)) none (some (-1)) st = .ok (ls.map D.str) st := by
  have e : cutL ((ls ++ [("" : Str)]).map D.str) none (some (-1)) = ((ls ++ [("" : Str)]).map D.str).dropLast := cutL_m1 _
  simp only [cutF, seqL, e]
  simp
 refine ⟨?_, s1, c1⟩
 have t0 : (dAnd (dB (dBin neD (dVar 0) (dC (.str "")))) (dNot (dB (dBM endsD (dVar 0) (dCons (dC (.str "\n")) dNil))))) [some (.str (catV ls))] st = .ok false st := by
  by_cases h0 : ls = []
  ·subst h0
   have n1 : neD (.str (catV [])) (.str ("" : Str)) st = .ok (.bl false) st := ne_nice (a := .str (catV [])) rfl st
   simp [n1]
  ·have hen : Txt.endswith (catV ls) nl = true:=by
    rw [← List.dropLast_concat_getLast h0]
    exact ends_cat _ _
   have e1 : endsD (.str (catV ls)) [.str nl] st = .ok (.bl true) st:=by simp only [endsD, hen]
   have hT : catV ls ≠ ("" : Str) := by
    intro e
    rw [e] at hen
    exact absurd hen (by decide +kernel)
   have n1 : neD (.str (catV ls)) (.str ("" : Str)) st = .ok (.bl true) st := by rw [neD_nice rfl rfl]; simp [hT]
   unfold dBM
   simp [n1, e1]
 generalize (ls ++ [("" : Str)]).map D.str = Y at s1 c1
 generalize catV ls = T at s1 t0
 unfold Fzlines_of
 refine runX_rt rfl ?_
 show gzlines_of cv [some (.str T)] st = _
 unfold gzlines_of
 refine (seq_nx (st':=st) (ρ':=[some (.str T)]) (sif_no t0)).trans ?_
 unfold dBMF
 simp [s1, c1]
theorem split2 {n : Str} {p : List Str} (hn : n ∈ W4) (h : AW p) (st : Sto) : splitF (.str (rlV n p)) [.str spc] st = .ok [.str n, .str (lineV p)] st:=by
 have h3 : spc.length ≠ 0:=by decide +kernel
 have hz:=rlV_len hn h
 simp only [splitF, if_pos (And.intro h3 (small_ge (show (rlV n p).length ≤ 1000 by omega))), split_sp hn h]
 rfl
noncomputable def rdS (val : Str → List Str) : List Str → Sh → Sh
 | [], s => s
 | n :: L, s => rdS val L (putS s n (val n))
theorem rdS_val (val : Str → List Str) (m : Str) : ∀ (L : List Str) (s : Sh), valS (rdS val L s) m = if m ∈ L then some (val m) else valS s m
 | [], s => by simp [rdS]
 | n :: L, s => by
  show valS (rdS val L (putS s n (val n))) m = _
  rw [rdS_val val m L, valS_put]
  by_cases h1 : m ∈ L
  ·rw [if_pos h1, if_pos (List.mem_cons_of_mem _ h1)]
  ·rw [if_neg h1]
   by_cases h2 : m = n
   ·subst h2
    rw [if_pos rfl, if_pos List.mem_cons_self]
   ·rw [if_neg h2, if_neg (fun h => (List.mem_cons.mp h).elim h2 h1)]
theorem rdS_nd (val : Str → List Str) : ∀ (L : List Str) {s : Sh}, (s.map (·.1)).Nodup → ((rdS val L s).map (·.1)).Nodup
 | [], _, h => h
 | n :: L, _, h => rdS_nd val L (nd_put h n (val n))
theorem put_new (st : Sto) {sh : Sh} (hl : sh.length ≤ 50) (n : Str) (p : List Str) : dPutAt (st ++ [.dct (sh.map shD)]) (.res st.length) (.str n) (pl p) = some (st ++ [.dct ((putS sh n p).map shD)]):=by
 have h : sh.length < small:=Nat.lt_of_le_of_lt hl (by decide)
 simp [dPutAt, keyD, putS_D, h, set_last]
theorem read_loop (cv : Nat → Addr) (val : Str → List Str) (T : Str) (st : Sto) {chk : Sto → Prop} (hc : ∀ st, chk st) : ∀ (L : List Str) (s : Sh) (c2 c3 : Option D), (∀ n ∈ L, n ∈ W4 ∧ AW (val n)) → s.length + L.length ≤ 50 →
  ∃ d2 d3, loopD chk (tgName 2) (Bzread_ring_1 cv) ((L.map fun n => rlV n (val n)).map D.str) [some (.str T), some (.res st.length), c2, c3, none] (st ++ [.dct (s.map shD)]) = .nx [some (.str T), some (.res st.length), d2, d3, none] (st ++ [.dct ((rdS val L s).map shD)])
 | [], s, c2, c3, _, _ => ⟨c2, c3, loop_nil (hc _)⟩
 | n :: L, s, c2, c3, h, hl => by
  rw [List.length_cons] at hl
  have hlen:=putS_len s n (val n)
  obtain ⟨d2, d3, e2⟩:=read_loop cv val T st hc L (putS s n (val n)) (some (.str (rlV n (val n)))) (some (.lst [.str n, .str (lineV (val n))])) (fun m hm => h m (List.mem_cons_of_mem _ hm)) (by omega)
  obtain ⟨hn, hp⟩:=h n List.mem_cons_self
  refine ⟨d2, d3, ?_⟩
  rw [List.map_cons, List.map_cons]
  refine (loop_nx (ρ1:=[some (.str T), some (.res st.length), some (.str (rlV n (val n))), c3, none]) (ρ2:=[some (.str T), some (.res st.length), some (.str (rlV n (val n))), some (.lst [.str n, .str (lineV (val n))]), none]) (st2:=st ++ [.dct ((putS s n (val n)).map shD)]) (hc _) rfl ?_).trans e2
  have e3:=put_new st (sh:=s) (by omega) n (val n)
  generalize st ++ [.dct (s.map shD)] = s1 at *
  have e4:=split2 hn hp s1
  have e5:=read_ok cv hp s1
  have e6:=isword4 s1 n hn
  have l2 : lenD [.lst [.str n, .str (lineV (val n))]] s1 = .ok (.int 2) s1:=rfl
  have n1 : neD (.int 2) (.int 2) s1 = .ok (.bl false) s1:=ne_nice rfl s1
  have x0 : ixD (.lst [.str n, .str (lineV (val n))]) (.int 0) s1 = .ok (.str n) s1:=rfl
  have x1 : ixD (.lst [.str n, .str (lineV (val n))]) (.int 1) s1 = .ok (.str (lineV (val n))) s1:=rfl
  generalize rlV n (val n) = R at *
  unfold Bzread_ring_1
  refine (seq_nx (st':=s1) (ρ':=[some (.str T), some (.res st.length), some (.str R), some (.lst [.str n, .str (lineV (val n))]), none]) ?_).trans ?_
  ·unfold dBMF
   simp [e4]
  refine (seq_nx (st':=s1) (ρ':=[some (.str T), some (.res st.length), some (.str R), some (.lst [.str n, .str (lineV (val n))]), none]) (sif_no (tst_or (st1:=s1) ?_ ?_))).trans ?_
  ·simp [l2, n1]
  ·simp [x0, e6]
  ·simp [z_sPutD, x0, x1, e5, e3]
theorem ring_of_eq {cv : Nat → Addr} {st : Sto} {d : Nat} {sh : Sh} (hd : st[d]? = some (.dct (sh.map shD))) : Fzring_of cv [.res d] st = .ok (.res st.length) (st ++ [S.ins (cv 5) (rn (st.length + 3) (st.length + 2) 0), .dct [], .lst [], .dct (sh.map shD)]):=by
 obtain ⟨n, hn⟩ : ∃ n, n = st.length:=⟨_, rfl⟩
 have mk:=make_ring (cv:=cv) st
 rw [← hn] at mk ⊢
 have hdl : d < st.length:=(List.getElem?_eq_some_iff.mp hd).1
 obtain ⟨s0, hs0⟩ : ∃ s0, s0 = st ++ [S.ins (cv 5) (rn (n + 1) (n + 2) 0), .dct [], .lst []]:=⟨_, rfl⟩
 have hd0 : s0[d]? = some (.dct (sh.map shD)):=by rw [hs0, List.getElem?_append_left hdl]; exact hd
 have hl0 : s0.length = n + 3:=by rw [hs0, hn]; simp
 have dd : dictD [.res d] s0 = .ok (.res (n + 3)) (s0 ++ [.dct (sh.map shD)]):=by
  unfold dictD
  simp only [hd0, hl0]
 have at0 : ∀ t : Sto, (s0 ++ t)[n]? = some (.ins (cv 5) (rn (n + 1) (n + 2) 0)):=fun t => by
  rw [hs0, List.append_assoc, List.getElem?_append_right (by omega), hn, Nat.sub_self]
  rfl
 have i0 : insAt (cv 5) (s0 ++ [.dct (sh.map shD)]) (.res n) = some (n, rn (n + 1) (n + 2) 0):=by
  simp only [insAt, at0]
  simp
 have hset : (s0 ++ [S.dct (sh.map shD)]).set n (.ins (cv 5) (rn (n + 3) (n + 2) 0)) = st ++ [S.ins (cv 5) (rn (n + 3) (n + 2) 0), .dct [], .lst [], .dct (sh.map shD)]:=by
  rw [hs0, List.append_assoc, List.set_append_right _ _ (by omega), hn, Nat.sub_self]
  rfl
 unfold Fzring_of gzring_of
 rw [← hs0] at mk
 simp [z_make, ← hn, mk, asNon, z_sFldS, dd, i0, rn_len, rn_put_kept, hset]
theorem ring_of_at {cv : Nat → Addr} (st : Sto) {sh : Sh} (hl : sh.length ≤ 50) : RingAt cv (st ++ [S.ins (cv 5) (rn (st.length + 3) (st.length + 2) 0), .dct [], .lst [], .dct (sh.map shD)]) st.length (st.length + 3) (st.length + 2) sh [] 0 :=
 ⟨by simp, by simp, by simp, Nat.le_refl _, Nat.zero_le _, hl⟩
theorem app_all (st t : Sto) : ∀ (j : Nat) (x : S), st[j]? = some x → (st ++ t)[j]? = some x:=fun j x hx => by
 rw [List.getElem?_append_left (List.getElem?_eq_some_iff.mp hx).1]; exact hx
theorem read_ring_ok (cv : Nat → Addr) {sh : Sh} (h : TX sh) (st : Sto) : ∃ st' sh', Fzread_ring cv [.str (txV sh)] st = .ok (.res (st.length + 1)) st' ∧ RingAt cv st' (st.length + 1) (st.length + 4) (st.length + 3) sh' [] 0 ∧ (∀ n, valS sh' n = valS sh n) ∧ (sh'.map (·.1)).Nodup ∧ (∀ (j : Nat) (x : S), st[j]? = some x → st'[j]? = some x):=by
 have hl4:=h.len
 have hwl:=ws_len sh
 obtain ⟨sr, hsr⟩ : ∃ sr, sr = rdS (fun n => (valS sh n).getD []) (wsV sh) []:=⟨_, rfl⟩
 have hv : ∀ n, valS sr n = valS sh n:=fun n => by
  rw [hsr, rdS_val]
  by_cases hm : n ∈ wsV sh
  ·obtain ⟨q, hq⟩:=ws_mem hm
   rw [if_pos hm, hq]
   rfl
  ·rw [if_neg hm]
   cases hq : valS sh n with
   | none => rfl
   | some q => exact absurd ((SO.srtS_perm _).mem_iff.mpr (valS_mem hq)) hm
 have hnd : (sr.map (·.1)).Nodup:=by rw [hsr]; exact rdS_nd _ _ (by simp)
 have hT:=h.ext hnd hv
 have hlr:=hT.len
 obtain ⟨ln, _, _⟩:=lines_ok cv (ls:=lsV sh) h.ls (by rw [ls_len]; omega) (st ++ [.dct []])
 obtain ⟨d2, d3, lp⟩:=read_loop cv (fun n => (valS sh n).getD []) (txV sh) st (chk:=fun _ => True) (fun _ => trivial) (wsV sh) [] none none (fun n hn => h.at_ hn) (by rw [hwl]; simp; omega)
 rw [← hsr] at lp
 have lp' : loopD (fun _ => True) (tgName 2) (Bzread_ring_1 cv) ((lsV sh).map D.str) [some (.str (txV sh)), some (.res st.length), none, none, none] (st ++ [.dct []]) = .nx [some (.str (txV sh)), some (.res st.length), d2, d3, none] (st ++ [.dct (sr.map shD)]):=lp
 have ln' : Fzlines_of cv [.str (txV sh)] (st ++ [.dct []]) = .ok (.lst ((lsV sh).map D.str)) (st ++ [.dct []]):=ln
 have tx:=txV_ext hnd h.nd hv
 obtain ⟨s1, hs1⟩ : ∃ s1, s1 = st ++ [S.dct (sr.map shD)]:=⟨_, rfl⟩
 have hl1 : s1.length = st.length + 1:=by rw [hs1]; simp
 have ro:=ring_of_eq (cv:=cv) (st:=s1) (d:=st.length) (sh:=sr) (by rw [hs1]; exact at_last _ _)
 have ra:=ring_of_at (cv:=cv) s1 (sh:=sr) (by omega)
 have al:=app_all s1 [S.ins (cv 5) (rn (s1.length + 3) (s1.length + 2) 0), .dct [], .lst [], .dct (sr.map shD)]
 generalize s1 ++ [S.ins (cv 5) (rn (s1.length + 3) (s1.length + 2) 0), .dct [], .lst [], .dct (sr.map shD)] = s2 at ro ra al
 rw [hl1] at ro ra
 have rt:=rtext_ok ra hT
 rw [tx] at rt
 have n1:=ne_nice (a:=.str (txV sh)) rfl (s2 ++ [.lst ((wsV sr).map D.str)])
 refine ⟨s2 ++ [.lst ((wsV sr).map D.str)], sr, ?_, ra.app _, hv, hnd, fun j x hx => app_all _ _ j x (al j x (by rw [hs1]; exact app_all _ _ j x hx))⟩
 generalize (lsV sh).map D.str = LD at *
 generalize txV sh = T at *
 rw [← hs1] at lp'
 have hi : ∀ s : Sto, itemsOf s (.lst LD) = some LD:=fun _ => rfl
 unfold Fzread_ring
 refine runX_rt rfl ?_
 show gzread_ring cv [some (.str T), none, none, none, none] st = _
 unfold gzread_ring
 refine (seq_nx (st':=st ++ [.dct []]) (ρ':=[some (.str T), some (.res st.length), none, none, none]) ?_).trans ?_
 ·simp [dNewK]
 refine (seq_nx (st':=s1) (ρ':=[some (.str T), some (.res st.length), d2, d3, none]) ?_).trans ?_
 ·rw [z_sFor]
  simp only [z_seq, z_call, z_cons, z_nil, z_var, List.getElem?_cons_zero, z_bind_ok, ln', hi, z_to_ok]
  exact lp'
 refine (seq_nx (st':=s2) (ρ':=[some (.str T), some (.res st.length), d2, d3, some (.res (st.length + 1))]) ?_).trans ?_
 ·simp [ro]
 refine (seq_nx (st':=s2 ++ [.lst ((wsV sr).map D.str)]) (ρ':=[some (.str T), some (.res st.length), d2, d3, some (.res (st.length + 1))]) (sif_no ?_)).trans ?_
 ·simp [rt, n1]
 ·rfl
structure Fr2 (st st' : Sto) (b d : Nat) : Prop where
 fr : ∀ j x, st[j]? = some x → j ≠ b → j ≠ d → st'[j]? = some x
 le : st.length ≤ st'.length
theorem ChgP.f2 {st st' : Sto} {b d i i' : Nat} (C : ChgP st st' b d i i') : Fr2 st st' b d:=⟨C.fr, C.le⟩
theorem Fr2.refl (st : Sto) (b d : Nat) : Fr2 st st b d:=⟨fun _ _ h _ _ => h, Nat.le_refl _⟩
theorem Fr2.trans {st st1 st2 : Sto} {b d : Nat} (x : Fr2 st st1 b d) (y : Fr2 st1 st2 b d) : Fr2 st st2 b d:=⟨fun j z h h1 h2 => y.fr j z (x.fr j z h h1 h2) h1 h2, Nat.le_trans x.le y.le⟩
noncomputable def isL (c : Nat) : Bool:=decide (97 ≤ c ∧ c ≤ 122)
noncomputable def isW (n : Str) : Bool:=decide (1 ≤ n.length ∧ n.length ≤ 4) && (cq n).all isL
noncomputable def isP (p : List Str) : Bool:=decide (p.length ≤ 6) && p.all isW
noncomputable def Asc (x : Str) : Prop:=(∀ c ∈ cq x, c < 128) ∧ x.length ≤ 200
theorem cq_len (x : Str) : (cq x).length = x.length:=by
 unfold cq
 rw [Array.length_toList]
 rfl
theorem sgn_ok {c : Nat} (st : Sto) : Fzis_letter [.str ⟨#[c]⟩] st = .ok (.bl (isL c)) st:=by
 have ea : ("a" : Str).cps.toList = [97] := by decide +kernel
 have ez : ("z" : Str).cps.toList = [122] := by decide +kernel
 have a1 : leX (.str "a") (.str ⟨#[c]⟩) st = .ok (.bl (decide (97 ≤ c))) st := by
  simp only [leX, ea]
  congr 2
  rcases Nat.lt_or_ge c 97 with h | h
  ·simp [List.cons_lt_cons_iff, h]
  ·simp [List.cons_lt_cons_iff, h, Nat.not_lt.mpr h]
 have a2 : leX (.str ⟨#[c]⟩) (.str "z") st = .ok (.bl (decide (c ≤ 122))) st := by
  simp only [leX, ez]
  congr 2
  rcases Nat.lt_or_ge 122 c with h | h
  ·simp [List.cons_lt_cons_iff, h]
  ·simp [List.cons_lt_cons_iff, h, Nat.not_lt.mpr h]
 unfold Fzis_letter gzis_letter
 by_cases h : 97 ≤ c
 ·simp [a1, a2, h, isL]
 ·simp [a1, a2, h, isL]
theorem bls_map : ∀ bs : List Bool, blsOf (bs.map D.bl) = some bs
 | [] => rfl
 | b :: bs => by
  rw [List.map_cons, blsOf, bls_map bs]
  rfl
theorem all_bls (bs : List Bool) (st : Sto) : allD [.lst (bs.map D.bl)] st = .ok (.bl (bs.all id)) st:=by
 simp only [allD, bls_map]
theorem isword_is {n : Str} (h : Asc n) (st : Sto) : Fzis_word [.str n] st = .ok (.bl (isW n)) st:=by
 have hl:=h.2
 have e1 : lenD [.str n] st = .ok (.int n.length) st:=by
  show (if n.length ≤ small then Out.ok (D.int n.length) st else .bad) = _
  rw [if_pos (small_ge (by omega))]
 have h2 : n.cps.all (· < 128) = true:=by
  rw [Array.all_eq_true']
  intro c hc
  exact decide_eq_true (h.1 c (Array.mem_toList_iff.mpr hc))
 obtain ⟨Y, hY⟩ : ∃ Y, Y = (cq n).map fun c => D.str ⟨#[c]⟩:=⟨_, rfl⟩
 have e4 : compD (fun _ => True) (tgName 0) dTrue Ezis_word_1 Y [none] st [] = .ok (((cq n).map isL).map D.bl) st:=by
  have:=compD_mm (chk:=fun _ => True) (t:=tgName 0) (fe:=Ezis_word_1) (fun c => D.str ⟨#[c]⟩) (fun c => D.bl (isL c)) (fun ρ => ∃ a, ρ = [a]) (st:=st) trivial (cq n) [none] [] ⟨_, rfl⟩ (by simp only [List.length_nil, Nat.zero_add]; rw [cq_len]; exact small_ge (by omega)) ?_
  ·rw [← hY] at this
   rw [this, List.map_map]
   rfl
  ·rintro c hc ρ ⟨a, rfl⟩
   refine ⟨_, rfl, ⟨_, rfl⟩, ?_⟩
   unfold Ezis_word_1
   simp [sgn_ok st]
 have e5:=all_bls ((cq n).map isL) st
 have ha : ((cq n).map isL).all id = (cq n).all isL:=by rw [List.all_map]; rfl
 rw [ha] at e5
 have e6 : dSigns (dVar 0) [some (.str n)] st = .ok (Y, fun _ => True) st:=by
  have : (signs n).map D.str = Y:=by
   rw [hY]
   unfold signs
   rw [List.map_map]
   rfl
  rw [← this]
  show (if n.cps.all (· < 128) = true then Out.ok ((signs n).map D.str, fun _ => True) st else .bad) = _
  rw [if_pos h2]
 generalize ((cq n).map isL).map D.bl = R at e4 e5
 unfold Fzis_word gzis_word
 by_cases k1 : (1 : Int) ≤ (n.length : Int)
 ·by_cases k2 : (n.length : Int) ≤ 4
  ·have hw : isW n = (cq n).all isL:=by
    unfold isW
    rw [decide_eq_true (by omega)]
    exact Bool.true_and _
   rw [hw]
   simp [tyName, subTy, e1, leX, e6, capEv, e4, e5, k1, k2]
  ·have hw : isW n = false:=by
    unfold isW
    rw [decide_eq_false (by omega)]
    exact Bool.false_and _
   rw [hw]
   simp [tyName, subTy, e1, leX, k1, k2]
 ·have hw : isW n = false:=by
   unfold isW
   rw [decide_eq_false (by omega)]
   exact Bool.false_and _
  rw [hw]
  simp [tyName, subTy, e1, leX, k1]
theorem isplace_is {ws : List Str} (h : ∀ w ∈ ws, Asc w) (hl : ws.length ≤ 300) (st : Sto) : Fzis_place [pl ws] st = .ok (.bl (isP ws)) st:=by
 have e1:=len_pl ws st
 have e2:=items_pl ws st
 have e4 : compD (fun st => itemsOf st (pl ws) = some (ws.map D.str)) (tgName 0) dTrue Ezis_place_1 (ws.map D.str) [none] st [] = .ok ((ws.map isW).map D.bl) st:=by
  have:=compD_mm (chk:=fun st => itemsOf st (pl ws) = some (ws.map D.str)) (t:=tgName 0) (fe:=Ezis_place_1) D.str (fun w => D.bl (isW w)) (fun ρ => ∃ a, ρ = [a]) e2 ws [none] [] ⟨_, rfl⟩ (by simp only [List.length_nil, Nat.zero_add]; exact small_ge (by omega)) ?_
  ·rw [this, List.map_map]
   rfl
  ·rintro w hw ρ ⟨a, rfl⟩
   refine ⟨_, rfl, ⟨_, rfl⟩, ?_⟩
   unfold Ezis_place_1
   simp [isword_is (h w hw) st]
 have e5:=all_bls (ws.map isW) st
 have ha : (ws.map isW).all id = ws.all isW:=by rw [List.all_map]; rfl
 rw [ha] at e5
 have e6:=too_eq ws st
 have e7 : tyName (pl ws) = some "tuple" := rfl
 generalize (ws.map isW).map D.bl = R at e4 e5
 unfold Fzis_place gzis_place
 by_cases k : ws.length ≤ 6
 ·have hp : isP ws = ws.all isW:=by
   unfold isP
   rw [decide_eq_true k]
   exact Bool.true_and _
  have k' : ¬ 6 < ws.length:=by omega
  rw [hp]
  simp [e7, subTy, e1, e2, e6, capEv, e4, e5, k']
 ·have hp : isP ws = false:=by
   unfold isP
   rw [decide_eq_false k]
   exact Bool.false_and _
  have k' : 6 < ws.length:=by omega
  rw [hp]
  simp [e7, subTy, e1, e2, e6, k']
theorem isW_len {n : Str} (h : isW n = true) : 1 ≤ n.length ∧ n.length ≤ 4:=by
 unfold isW at h
 rw [Bool.and_eq_true, decide_eq_true_eq] at h
 exact h.1
theorem isP_len {p : List Str} (h : isP p = true) : p.length ≤ 6 ∧ ∀ w ∈ p, isW w = true:=by
 unfold isP at h
 rw [Bool.and_eq_true, decide_eq_true_eq, List.all_eq_true] at h
 exact h
theorem textV_leg : ∀ {p : List Str}, (∀ w ∈ p, isW w = true) → (textV p).length ≤ 5 * p.length
 | [], _ => by
  have : (textV []).length = 0:=by decide +kernel
  omega
 | w :: ws, h => by
  have h1:=(isW_len (h w List.mem_cons_self)).2
  have h2:=textV_leg fun x hx => h x (List.mem_cons_of_mem _ hx)
  have h3 : ("/" : Str).length = 1 := by decide +kernel
  rw [textV, len_app, len_app, List.length_cons]
  omega
theorem lineV_leg {p : List Str} (h : isP p = true) : (lineV p).length ≤ 30:=by
 obtain ⟨h1, h2⟩:=isP_len h
 by_cases h0 : p = []
 ·subst h0
  rw [lineV_nil]
  decide +kernel
 ·rw [lineV_text h0]
  have:=textV_leg h2
  omega
theorem sumW : ∀ {p : List Str}, (∀ w ∈ p, isW w = true) → (p.map (·.length)).sum ≤ 4 * p.length
 | [], _ => by simp
 | w :: ws, h => by
  rw [List.map_cons, List.sum_cons, List.length_cons]
  have:=(isW_len (h w List.mem_cons_self)).2
  have:=sumW fun z hz => h z (List.mem_cons_of_mem _ hz)
  omega
theorem text_is {p : List Str} (h : isP p = true) (st : Sto) : Fzplace_text [pl p] st = .ok (.str (lineV p)) st:=by
 obtain ⟨h1, h2⟩:=isP_len h
 have hl:=lineV_leg h
 have h3 : sl.length = 1:=by decide +kernel
 have e1 : joinD (.str "/") [pl p] st = .ok (.str (Txt.join sl p)) st := by
  have h4 : (p.map (·.length)).sum + p.length * sl.length ≤ small:=by
   have:=sumW h2
   rw [h3]
   exact small_ge (by omega)
  simp only [joinD, items_pl, strsOf_map, if_pos h4]
 have e2:=addS (a:=sl) (b:=Txt.join sl p) (by rw [← len_app]; exact Nat.le_trans hl (by decide)) st
 unfold Fzplace_text gzplace_text
 simp [e1, e2]
 rfl
theorem join_parts (c : Nat) : ∀ (P : List Str), P ≠ [] → (∀ x ∈ P, x.length ≤ (Str.join ⟨#[c]⟩ P).length ∧ ∀ k ∈ cq x, k ∈ cq (Str.join ⟨#[c]⟩ P)) ∧ (P.map fun x => x.length + 1).sum = (Str.join ⟨#[c]⟩ P).length + 1
 | [], h => absurd rfl h
 | [a], _ => by
  have e : Str.join ⟨#[c]⟩ [a] = a:=rfl
  rw [e]
  refine ⟨fun x hx => ?_, by simp⟩
  rw [List.mem_singleton.mp hx]
  exact ⟨Nat.le_refl _, fun k hk => hk⟩
 | a :: b :: r, _ => by
  obtain ⟨h1, h2⟩:=join_parts c (b :: r) (by simp)
  have hc : (⟨#[c]⟩ : Str).length = 1:=rfl
  rw [jn_cons]
  refine ⟨fun x hx => ?_, ?_⟩
  ·rw [len_app, len_app, cq_app, cq_app]
   rcases List.mem_cons.mp hx with rfl | hx
   ·exact ⟨by omega, fun k hk => List.mem_append_left _ (List.mem_append_left _ hk)⟩
   ·obtain ⟨h3, h4⟩:=h1 x hx
    exact ⟨by omega, fun k hk => List.mem_append_right _ (h4 k hk)⟩
  ·rw [List.map_cons, List.sum_cons, h2, len_app, len_app, hc]
   omega
theorem sum_ge : ∀ (P : List Str), P.length ≤ (P.map fun x => x.length + 1).sum
 | [] => Nat.zero_le _
 | a :: P => by
  have:=sum_ge P
  rw [List.map_cons, List.sum_cons, List.length_cons]
  omega
theorem split_parts {T z : Str} {c : Nat} (hz : z = (⟨#[c]⟩ : Str)) (h : Asc T) : (∀ x ∈ Txt.split T z, Asc x) ∧ Txt.split T z ≠ [] ∧ ((Txt.split T z).map fun x => x.length + 1).sum = T.length + 1:=by
 subst hz
 have h0 : Txt.split T ⟨#[c]⟩ ≠ []:=by
  intro h
  have:=PyProof.Rows.split_pos T ⟨#[c]⟩
  rw [h] at this
  simp at this
 obtain ⟨h1, h2⟩:=join_parts c (Txt.split T ⟨#[c]⟩) h0
 have e:=StrLaws.join_split T (⟨#[c]⟩ : Str)
 rw [e] at h1 h2
 exact ⟨fun x hx => ⟨fun k hk => h.1 k ((h1 x hx).2 k hk), Nat.le_trans (h1 x hx).1 h.2⟩, h0, h2⟩
noncomputable def plOf (t : Str) : List Str:=if t = sl then [] else (Txt.split t sl).drop 1
noncomputable def rdP (t : Str) : Option (List Str):=if isP (plOf t) = true ∧ lineV (plOf t) = t then some (plOf t) else none
theorem read_is (cv : Nat → Addr) {t : Str} (h : Asc t) (st : Sto) : Fzread_place cv [.str t] st = match rdP t with
  | some p => .ok (pl p) st
  | none => .exc (cv 16) st:=by
 obtain ⟨h1, h2, h3⟩:=split_parts (z:=sl) (c:=47) (by decide +kernel) h
 have hlp:=sum_ge (Txt.split t sl)
 have hl:=h.2
 have q0 : (0 : Nat) ≤ small:=Nat.zero_le _
 have q1 : (1 : Nat) ≤ small:=by decide
 have hA : ∀ w ∈ plOf t, Asc w:=fun w hw => by
  unfold plOf at hw
  split at hw
  ·cases hw
  ·exact h1 w (List.mem_of_mem_drop hw)
 have hL : (plOf t).length ≤ 300:=by
  unfold plOf
  split
  ·simp
  ·rw [List.length_drop]
   omega
 have e1:=isplace_is hA hL st
 have pe : (dIf (dB (dBin eqD (dVar 0) (dC (.str "/")))) (dTup dNil) (dCall tupleD (dCons (dF (dSl cutF (dF (dBMF splitF (dVar 0) (dCons (dC (.str "/")) dNil))) (dPart (dC (.int 1))) dNoPart)) dNil))) [some (.str t), none] st = .ok (pl (plOf t)) st := by
  by_cases e : t = sl
  ·have eq1 : eqD (.str t) (.str sl) st = .ok (.bl true) st:=by rw [e, eqD_nice rfl rfl]; simp
   have : plOf t = []:=by unfold plOf; rw [if_pos e]
   rw [this]
   simp [eq1, q0]
   rfl
  ·have eq1 : eqD (.str t) (.str sl) st = .ok (.bl false) st:=by rw [eqD_nice rfl rfl]; simp [e]
   have : plOf t = (Txt.split t sl).drop 1:=by unfold plOf; rw [if_neg e]
   have h4 : sl.length ≠ 0:=by decide +kernel
   have s1 : splitF (.str t) [.str sl] st = .ok ((Txt.split t sl).map D.str) st:=by
    simp only [splitF, if_pos (And.intro h4 (small_ge (show t.length ≤ 1000 by omega)))]
   have c1 : cutF (.lst ((Txt.split t sl).map D.str)) (some 1) none st = .ok ((plOf t).map D.str) st:=by
    have:=cutL_from ((Txt.split t sl).map D.str) 1
    simp only [cutF, seqL]
    rw [show (1 : Int) = ((1 : Nat) : Int) from rfl, this, ‹plOf t = _›, List.map_drop]
   have t1 : tupleD [.lst ((plOf t).map D.str)] st = .ok (pl (plOf t)) st:=by simp [tupleD, itemsOf, seqL]; rfl
   generalize (Txt.split t sl).map D.str = Y at s1 c1
   unfold dBMF
   simp [eq1, s1, c1, t1]
 unfold Fzread_place
 unfold rdP
 generalize plOf t = p at *
 by_cases k1 : isP p = true
 ·have e2:=text_is k1 st
  rw [k1] at e1
  by_cases k2 : lineV p = t
  ·rw [if_pos ⟨k1, k2⟩]
   have n1:=ne_nice (a:=.str t) rfl st
   rw [k2] at e2
   refine runX_rt rfl ?_
   show gzread_place cv [some (.str t), none] st = _
   unfold gzread_place
   refine (seq_nx (st':=st) (ρ':=[some (.str t), some (pl p)]) (by rw [z_sSet, pe]; rfl)).trans ?_
   simp [e1, e2, n1]
  ·rw [if_neg fun z => k2 z.2]
   have n1 : neD (.str (lineV p)) (.str t) st = .ok (.bl true) st:=by rw [neD_nice rfl rfl]; simp [k2]
   refine runX_exc rfl ?_
   show gzread_place cv [some (.str t), none] st = _
   unfold gzread_place
   refine (seq_nx (st':=st) (ρ':=[some (.str t), some (pl p)]) (by rw [z_sSet, pe]; rfl)).trans ?_
   simp [e1, e2, n1, q1]
 ·rw [if_neg fun z => k1 z.1]
  rw [Bool.not_eq_true] at k1
  rw [k1] at e1
  refine runX_exc rfl ?_
  show gzread_place cv [some (.str t), none] st = _
  unfold gzread_place
  refine (seq_nx (st':=st) (ρ':=[some (.str t), some (pl p)]) (by rw [z_sSet, pe]; rfl)).trans ?_
  simp [e1, q1]
structure TG (sh : Sh) : Prop where
 nd : (sh.map (·.1)).Nodup
 ks : ∀ n q, valS sh n = some q → isW n = true
 aw : ∀ n q, valS sh n = some q → isP q = true
 sl : sh.length ≤ 26
theorem rlV_leg {n : Str} {p : List Str} (hn : isW n = true) (h : isP p = true) : (rlV n p).length ≤ 35:=by
 have h1:=(isW_len hn).2
 have h2:=lineV_leg h
 have h3 : spc.length = 1:=by decide +kernel
 unfold rlV
 rw [len_app, len_app]
 omega
theorem rline_is {n : Str} {p : List Str} (hn : isW n = true) (h : isP p = true) (st : Sto) : Fzring_line [.str n, pl p] st = .ok (.str (rlV n p ++ nl)) st:=by
 have e1:=text_is h st
 have h1:=(isW_len hn).2
 have h2:=lineV_leg h
 have h3 : spc.length = 1:=by decide +kernel
 have h4 : nl.length = 1:=by decide +kernel
 have a1:=addS (a:=n) (b:=spc) (by omega) st
 have a2:=addS (a:=n ++ spc) (b:=lineV p) (by rw [len_app]; omega) st
 have a3:=addS (a:=n ++ spc ++ lineV p) (b:=nl) (by rw [len_app, len_app]; omega) st
 unfold Fzring_line gzring_line rlV
 simp [e1, a1, a2, a3]
theorem TG.at_ {sh : Sh} (h : TG sh) {n : Str} (hn : n ∈ wsV sh) : isW n = true ∧ isP ((valS sh n).getD []) = true:=by
 obtain ⟨q, hq⟩:=ws_mem hn
 rw [hq]
 exact ⟨h.ks n q hq, h.aw n q hq⟩
theorem TG.ls {sh : Sh} (h : TG sh) : ∀ l ∈ lsV sh, l.length ≤ 35:=by
 intro l hl
 obtain ⟨n, hn, rfl⟩:=List.mem_map.mp hl
 obtain ⟨h1, h2⟩:=h.at_ hn
 exact rlV_leg h1 h2
theorem rtext_is {cv : Nat → Addr} {st : Sto} {b d i : Nat} {sh : Sh} {row : List RStep} {k : Nat} (B : RingAt cv st b d i sh row k) (h : TG sh) : Fzring_text cv [.res b] st = .ok (.str (txV sh)) (st ++ [.lst ((wsV sh).map D.str)]):=by
 have e1:=B.words
 obtain ⟨W, hW⟩ : ∃ W, W = (wsV sh).map D.str:=⟨_, rfl⟩
 rw [← hW] at e1
 have B1:=B.app [S.lst W]
 have hat : (st ++ [S.lst W])[st.length]? = some (.lst W):=at_last _ _
 have hi : itemsOf (st ++ [S.lst W]) (.res st.length) = some W:=getL hat
 have hl4:=h.sl
 have hwl:=ws_len sh
 have c1 : compD (fun s => itemsOf s (.res st.length) = some W) (tgName 0) dTrue (Ezring_text_1 cv) W [none, some (.res b)] (st ++ [S.lst W]) [] = .ok (((lsV sh).map fun l => l ++ nl).map D.str) (st ++ [S.lst W]):=by
  have:=compD_mm (chk:=fun s => itemsOf s (.res st.length) = some W) (t:=tgName 0) (fe:=Ezring_text_1 cv) D.str (fun n => D.str (rlV n ((valS sh n).getD []) ++ nl)) (fun ρ => ∃ a, ρ = [a, some (.res b)]) hi (wsV sh) [none, some (.res b)] [] ⟨_, rfl⟩ (by simp only [List.length_nil, Nat.zero_add]; exact small_ge (by omega)) ?_
  ·rw [← hW] at this
   rw [this]
   unfold lsV
   rw [List.map_map, List.map_map]
   rfl
  ·rintro n hn ρ ⟨a, rfl⟩
   obtain ⟨h1, h2⟩:=h.at_ hn
   obtain ⟨q, hq⟩:=ws_mem hn
   have e2:=B1.find hq
   rw [hq] at h2 ⊢
   have e3:=rline_is h1 h2 (st ++ [S.lst W])
   refine ⟨[some (.str n), some (.res b)], rfl, ⟨_, rfl⟩, ?_⟩
   unfold Ezring_text_1
   simp only [Option.getD_some] at e3 ⊢
   simp [z_meth, B1.ins, rn_find, e2, e3]
 have j1 : joinD (.str "") [.lst (((lsV sh).map fun l => l ++ nl).map D.str)] (st ++ [S.lst W]) = .ok (.str (txV sh)) (st ++ [S.lst W]) := by
  have h2 : ((((lsV sh).map fun l => l ++ nl)).map (·.length)).sum + (((lsV sh).map fun l => l ++ nl)).length * ("" : Str).length ≤ small := by
   have h3:=sum_le (k:=36) (ys:=(lsV sh).map fun l => l ++ nl) (fun y hy => by
    obtain ⟨l, hl, rfl⟩:=List.mem_map.mp hy
    have:=h.ls l hl
    have h3 : nl.length = 1:=by decide +kernel
    rw [len_app]
    omega)
   rw [List.length_map, ls_len] at h3
   have h4 : ("" : Str).length = 0 := by decide +kernel
   rw [h4, Nat.mul_zero]
   exact small_ge (by omega)
  simp only [joinD, itemsOf, seqL, strsOf_map, if_pos h2, join_none]
  rfl
 generalize ((lsV sh).map fun l => l ++ nl).map D.str = Y at c1 j1
 rw [← hW]
 unfold Fzring_text gzring_text dBM
 simp [z_meth, B.ins, rn_words, e1, hi, capEv, c1, j1]
noncomputable def lnOk (T : Str) : Bool := decide (T = ("" : Str)) || Txt.endswith T nl
noncomputable def lnOf (T : Str) : List Str:=(Txt.split T nl).dropLast
theorem nl_is : nl = (⟨#[10]⟩ : Str):=by decide +kernel
theorem lines_is (cv : Nat → Addr) {T : Str} (h : Asc T) (st : Sto) : Fzlines_of cv [.str T] st = if lnOk T = true then .ok (.lst ((lnOf T).map D.str)) st else .exc (cv 16) st:=by
 have hl:=h.2
 have q1 : (1 : Nat) ≤ small:=by decide
 have h3 : nl.length ≠ 0:=by decide +kernel
 have s1 : splitF (.str T) [.str nl] st = .ok ((Txt.split T nl).map D.str) st:=by
  simp only [splitF, if_pos (And.intro h3 (small_ge (show T.length ≤ 1000 by omega)))]
 have c1 : cutF (.lst ((Txt.split T nl).map D.str)) none (some (-1)) st = .ok ((lnOf T).map D.str) st:=by
  have e : cutL ((Txt.split T nl).map D.str) none (some (-1)) = ((Txt.split T nl).map D.str).dropLast:=cutL_m1 _
  simp only [cutF, seqL, e]
  unfold lnOf
  rw [List.map_dropLast]
 have e1 : endsD (.str T) [.str nl] st = .ok (.bl (Txt.endswith T nl)) st:=by simp only [endsD]
 have t0 : (dAnd (dB (dBin neD (dVar 0) (dC (.str "")))) (dNot (dB (dBM endsD (dVar 0) (dCons (dC (.str "\n")) dNil))))) [some (.str T)] st = .ok (!lnOk T) st := by
  unfold lnOk
  by_cases h0 : T = ("" : Str)
  ·have n1 : neD (.str T) (.str ("" : Str)) st = .ok (.bl false) st := by rw [h0]; exact ne_nice (a := .str ("" : Str)) rfl st
   rw [decide_eq_true h0]
   simp [n1]
  ·have n1 : neD (.str T) (.str ("" : Str)) st = .ok (.bl true) st := by rw [neD_nice rfl rfl]; simp [h0]
   rw [decide_eq_false h0]
   unfold dBM
   simp [n1, e1]
 generalize (Txt.split T nl).map D.str = Y at s1 c1
 unfold Fzlines_of
 by_cases k : lnOk T = true
 ·rw [if_pos k]
  rw [k] at t0
  refine runX_rt rfl ?_
  show gzlines_of cv [some (.str T)] st = _
  unfold gzlines_of
  refine (seq_nx (st':=st) (ρ':=[some (.str T)]) (sif_no t0)).trans ?_
  unfold dBMF
  simp [s1, c1]
 ·rw [if_neg k]
  rw [Bool.not_eq_true] at k
  rw [k] at t0
  refine runX_exc rfl ?_
  show gzlines_of cv [some (.str T)] st = _
  unfold gzlines_of
  refine seq_exc ?_
  rw [sif_t t0]
  simp [q1]
noncomputable def rdL (l : Str) : Option (Str × List Str):=match Txt.split l spc with
 | [w, t] => if isW w = true then (rdP t).map fun p => (w, p) else none
 | _ => none
noncomputable def rdLs : List Str → Sh → Option Sh
 | [], s => some s
 | l :: ls, s => match rdL l with
  | some (w, p) => rdLs ls (putS s w p)
  | none => none
theorem put_new' (st : Sto) {sh : Sh} (h : sh.length < small) (n : Str) (p : List Str) : dPutAt (st ++ [.dct (sh.map shD)]) (.res st.length) (.str n) (pl p) = some (st ++ [.dct ((putS sh n p).map shD)]):=by
 simp [dPutAt, keyD, putS_D, h, set_last]
theorem rdP_ok {t : Str} {p : List Str} (h : rdP t = some p) : isP p = true ∧ lineV p = t:=by
 unfold rdP at h
 split at h
 ·rename_i hc
  cases h
  exact hc
 ·cases h
theorem rdL_ok {l w : Str} {p : List Str} (h : rdL l = some (w, p)) (hl : Asc l) : isW w = true ∧ isP p = true ∧ 2 ≤ l.length:=by
 obtain ⟨_, _, h3⟩:=split_parts (z:=spc) (c:=32) (by decide +kernel) hl
 unfold rdL at h
 split at h
 ·rename_i w' t e
  split at h
  ·rename_i hw
   rw [e] at h3
   cases hp : rdP t with
   | none => rw [hp] at h; cases h
   | some q =>
    rw [hp] at h
    have h' : (w', q) = (w, p):=Option.some.inj h
    cases h'
    have:=(isW_len hw).1
    simp only [List.map_cons, List.map_nil, List.sum_cons, List.sum_nil] at h3
    exact ⟨hw, (rdP_ok hp).1, by omega⟩
  ·cases h
 ·cases h
theorem body_is (cv : Nat → Addr) (T : Str) (st : Sto) {s : Sh} (hs : s.length < small) {l : Str} (hl : Asc l) (c3 : Option D) :
  (∀ w p, rdL l = some (w, p) → ∃ c3', Bzread_ring_1 cv [some (.str T), some (.res st.length), some (.str l), c3, none] (st ++ [.dct (s.map shD)]) = .nx [some (.str T), some (.res st.length), some (.str l), c3', none] (st ++ [.dct ((putS s w p).map shD)])) ∧
  (rdL l = none → Bzread_ring_1 cv [some (.str T), some (.res st.length), some (.str l), c3, none] (st ++ [.dct (s.map shD)]) = .exc (cv 16) (st ++ [.dct (s.map shD)])):=by
 obtain ⟨h1, h2, h3⟩:=split_parts (z:=spc) (c:=32) (by decide +kernel) hl
 have hll:=hl.2
 have q1 : (1 : Nat) ≤ small:=by decide
 have e3:=fun n p => put_new' st hs n p
 generalize st ++ [.dct (s.map shD)] = s1 at *
 have h4 : spc.length ≠ 0:=by decide +kernel
 have e4 : splitF (.str l) [.str spc] s1 = .ok ((Txt.split l spc).map D.str) s1:=by
  simp only [splitF, if_pos (And.intro h4 (small_ge (show l.length ≤ 1000 by omega)))]
 have l2:=lenL ((Txt.split l spc).map D.str) s1
 rw [List.length_map] at l2
 obtain ⟨P, hP⟩ : ∃ P, P = Txt.split l spc:=⟨_, rfl⟩
 have pre : ∀ r : OutS, (sSeq (sIf (dOr (dB (dBin neD (dCall lenD (dCons (dVar 3) dNil)) (dC (.int 2)))) (dNot (dB (dCall Fzis_word (dCons (dBin ixD (dVar 3) (dC (.int 0))) dNil))))) (sRaise (cv 16) (dCons (dC (.str "no word and its place are written so")) dNil)) sNext) (sPutD (dVar 1) (dBin ixD (dVar 3) (dC (.int 0))) (dCall (Fzread_place cv) (dCons (dBin ixD (dVar 3) (dC (.int 1))) dNil)))) [some (.str T), some (.res st.length), some (.str l), some (.lst (P.map D.str)), none] s1 = r → Bzread_ring_1 cv [some (.str T), some (.res st.length), some (.str l), c3, none] s1 = r := by
  intro r hr
  unfold Bzread_ring_1
  refine (seq_nx (st':=s1) (ρ':=[some (.str T), some (.res st.length), some (.str l), some (.lst (P.map D.str)), none]) ?_).trans hr
  rw [← hP] at e4
  generalize P.map D.str = Y at e4
  unfold dBMF
  simp [e4]
 rw [← hP] at h1 l2
 unfold rdL
 rw [← hP]
 by_cases hp2 : P.length = 2
 ·obtain ⟨w, t, rfl⟩ : ∃ w t, P = [w, t]:=by
   match P, hp2 with
   | [w, t], _ => exact ⟨w, t, rfl⟩
  have aw:=h1 w List.mem_cons_self
  have at':=h1 t (List.mem_cons_of_mem _ List.mem_cons_self)
  have e5:=read_is cv at' s1
  have e6:=isword_is aw s1
  have l3 : lenD [.lst [.str w, .str t]] s1 = .ok (.int 2) s1:=rfl
  have n1 : neD (.int 2) (.int 2) s1 = .ok (.bl false) s1:=ne_nice rfl s1
  have x0 : ixD (.lst [.str w, .str t]) (.int 0) s1 = .ok (.str w) s1:=rfl
  have x1 : ixD (.lst [.str w, .str t]) (.int 1) s1 = .ok (.str t) s1:=rfl
  dsimp only
  by_cases hw : isW w = true
  ·rw [if_pos hw]
   rw [hw] at e6
   cases hr : rdP t with
   | none =>
    rw [hr] at e5
    refine ⟨fun w' p z => (by cases z), fun _ => pre _ ?_⟩
    refine (seq_nx (st':=s1) (ρ':=[some (.str T), some (.res st.length), some (.str l), some (.lst [.str w, .str t]), none]) (sif_no (tst_or (st1:=s1) ?_ ?_))).trans ?_
    ·simp [l3, n1]
    ·simp [x0, e6]
    ·simp [z_sPutD, x0, x1, e5]
   | some p =>
    rw [hr] at e5
    refine ⟨fun w' p' z => ?_, fun z => (by cases z)⟩
    have h' : (w, p) = (w', p'):=Option.some.inj z
    cases h'
    refine ⟨some (.lst [.str w, .str t]), pre _ ?_⟩
    refine (seq_nx (st':=s1) (ρ':=[some (.str T), some (.res st.length), some (.str l), some (.lst [.str w, .str t]), none]) (sif_no (tst_or (st1:=s1) ?_ ?_))).trans ?_
    ·simp [l3, n1]
    ·simp [x0, e6]
    ·simp [z_sPutD, x0, x1, e5, e3]
  ·rw [if_neg hw]
   rw [Bool.not_eq_true] at hw
   rw [hw] at e6
   refine ⟨fun w' p z => (by cases z), fun _ => pre _ (seq_exc ?_)⟩
   rw [sif_t (st':=s1) (by simp [l3, n1, x0, e6])]
   simp [q1]
 ·have hn : (match P with
   | [w, t] => if isW w = true then (rdP t).map fun p => (w, p) else none
   | _ => none) = none:=by
   match P, hp2 with
   | [], _ => rfl
   | [_], _ => rfl
   | [_, _], h => exact absurd rfl h
   | _ :: _ :: _ :: _, _ => rfl
  rw [hn]
  refine ⟨fun w' p z => (by cases z), fun _ => pre _ (seq_exc ?_)⟩
  have n1 : neD (.int (P.length : Int)) (.int 2) s1 = .ok (.bl true) s1:=by
   rw [neD_nice rfl rfl]
   have : ¬ (D.int (P.length : Int) = D.int 2):=by rw [D.int.injEq]; omega
   simp [this]
  generalize P.map D.str = Y at l2
  rw [sif_t (st':=s1) (by simp [l2, n1])]
  simp [q1]
theorem loop_exc {chk : Sto → Prop} {t : TgD} {g : DS} {x : D} {xs : List D} {ρ ρ1 : Ev} {st st2 : Sto} {c : Addr} (hc : chk st) (ht : t x ρ = some ρ1) (hg : g ρ1 st = .exc c st2) : loopD chk t g (x :: xs) ρ st = .exc c st2:=by
 rw [loopD, if_pos hc, ht]
 simp only [hg]
theorem loop_is (cv : Nat → Addr) (T : Str) (st : Sto) {chk : Sto → Prop} (hc : ∀ st, chk st) : ∀ (ls : List Str) (s : Sh) (c2 c3 : Option D), (∀ l ∈ ls, Asc l) → s.length + ls.length ≤ 500 →
  (∀ s' : Sh, rdLs ls s = some s' → ∃ d2 d3, loopD chk (tgName 2) (Bzread_ring_1 cv) (ls.map D.str) [some (.str T), some (.res st.length), c2, c3, none] (st ++ [.dct (s.map shD)]) = .nx [some (.str T), some (.res st.length), d2, d3, none] (st ++ [.dct (s'.map shD)])) ∧
  (rdLs ls s = none → ∃ s' : Sh, loopD chk (tgName 2) (Bzread_ring_1 cv) (ls.map D.str) [some (.str T), some (.res st.length), c2, c3, none] (st ++ [.dct (s.map shD)]) = .exc (cv 16) (st ++ [.dct (s'.map shD)]))
 | [], s, c2, c3, _, _ => ⟨fun s' h => by cases h; exact ⟨c2, c3, loop_nil (hc _)⟩, fun h => by cases h⟩
 | l :: ls, s, c2, c3, h, hl => by
  rw [List.length_cons] at hl
  obtain ⟨b1, b2⟩:=body_is cv T st (s:=s) (Nat.lt_of_le_of_lt (show s.length ≤ 500 by omega) (by decide)) (h l List.mem_cons_self) c3
  unfold rdLs
  rw [List.map_cons]
  cases hr : rdL l with
  | none =>
   refine ⟨fun s' z => (by cases z), fun _ => ⟨s, ?_⟩⟩
   exact loop_exc (ρ1:=[some (.str T), some (.res st.length), some (.str l), c3, none]) (hc _) rfl (b2 hr)
  | some wp =>
   obtain ⟨w, p⟩:=wp
   obtain ⟨c3', e⟩:=b1 w p hr
   have hlen:=putS_len s w p
   obtain ⟨g1, g2⟩:=loop_is cv T st hc ls (putS s w p) (some (.str l)) c3' (fun x hx => h x (List.mem_cons_of_mem _ hx)) (by omega)
   dsimp only
   refine ⟨fun s' z => ?_, fun z => ?_⟩
   ·obtain ⟨d2, d3, g⟩:=g1 s' z
    exact ⟨d2, d3, (loop_nx (ρ1:=[some (.str T), some (.res st.length), some (.str l), c3, none]) (hc _) rfl e).trans g⟩
   ·obtain ⟨s', g⟩:=g2 z
    exact ⟨s', (loop_nx (ρ1:=[some (.str T), some (.res st.length), some (.str l), c3, none]) (hc _) rfl e).trans g⟩
structure TG0 (sh : Sh) : Prop where
 nd : (sh.map (·.1)).Nodup
 ks : ∀ n q, valS sh n = some q → isW n = true
 aw : ∀ n q, valS sh n = some q → isP q = true
theorem TG0.put {sh : Sh} (h : TG0 sh) {n : Str} {p : List Str} (hn : isW n = true) (hp : isP p = true) : TG0 (putS sh n p):=by
 refine ⟨nd_put h.nd n p, fun m q hq => ?_, fun m q hq => ?_⟩
 ·rw [valS_put] at hq
  by_cases e : m = n
  ·rw [e]; exact hn
  ·rw [if_neg e] at hq
   exact h.ks m q hq
 ·rw [valS_put] at hq
  by_cases e : m = n
  ·rw [if_pos e] at hq
   cases hq
   exact hp
  ·rw [if_neg e] at hq
   exact h.aw m q hq
theorem rdLs_ok : ∀ (ls : List Str) (s s' : Sh), (∀ l ∈ ls, Asc l) → TG0 s → rdLs ls s = some s' → TG0 s' ∧ s'.length ≤ s.length + ls.length ∧ 3 * ls.length ≤ (ls.map fun x => x.length + 1).sum
 | [], s, s', _, h, e => by
  cases e
  exact ⟨h, Nat.le_refl _, Nat.le_refl _⟩
 | l :: ls, s, s', hl, h, e => by
  unfold rdLs at e
  cases hr : rdL l with
  | none => rw [hr] at e; cases e
  | some wp =>
   obtain ⟨w, p⟩:=wp
   rw [hr] at e
   obtain ⟨h1, h2, h3⟩:=rdL_ok hr (hl l List.mem_cons_self)
   obtain ⟨g1, g2, g3⟩:=rdLs_ok ls (putS s w p) s' (fun x hx => hl x (List.mem_cons_of_mem _ hx)) (h.put h1 h2) e
   have:=putS_len s w p
   rw [List.map_cons, List.sum_cons, List.length_cons]
   exact ⟨g1, by omega, by omega⟩
noncomputable def rdT (T : Str) : Option Sh:=if lnOk T = true then (match rdLs (lnOf T) [] with
 | some s => if txV s = T then some s else none
 | none => none) else none
theorem sum_drop (P : List Str) : (P.dropLast.map fun x => x.length + 1).sum ≤ (P.map fun x => x.length + 1).sum:=by
 induction P with
 | nil => exact Nat.le_refl _
 | cons a P ih =>
  cases P with
  | nil => exact Nat.zero_le _
  | cons b P =>
   rw [List.dropLast_cons_cons, List.map_cons, List.sum_cons, List.map_cons, List.sum_cons]
   omega
theorem read_ring_is (cv : Nat → Addr) {T : Str} (h : Asc T) (hT : T.length ≤ 77) (st : Sto) :
  (rdT T = none → ∃ st', Fzread_ring cv [.str T] st = .exc (cv 16) st' ∧ (∀ (j : Nat) (x : S), st[j]? = some x → st'[j]? = some x)) ∧
  (∀ s, rdT T = some s → ∃ st', Fzread_ring cv [.str T] st = .ok (.res (st.length + 1)) st' ∧ RingAt cv st' (st.length + 1) (st.length + 4) (st.length + 3) s [] 0 ∧ TG s ∧ txV s = T ∧ (∀ (j : Nat) (x : S), st[j]? = some x → st'[j]? = some x)):=by
 obtain ⟨h1, h2, h3⟩:=split_parts (z:=nl) (c:=10) nl_is h
 have hA : ∀ l ∈ lnOf T, Asc l:=fun l hl => h1 l (List.dropLast_subset _ hl)
 have hsum : ((lnOf T).map fun x => x.length + 1).sum ≤ 78:=by
  have:=sum_drop (Txt.split T nl)
  unfold lnOf
  omega
 have hlen : (lnOf T).length ≤ 78:=Nat.le_trans (sum_ge _) hsum
 have ln:=lines_is cv h (st ++ [.dct []])
 have q1 : (1 : Nat) ≤ small:=by decide
 have hi : ∀ s : Sto, itemsOf s (.lst ((lnOf T).map D.str)) = some ((lnOf T).map D.str):=fun _ => rfl
 obtain ⟨lp1, lp2⟩:=loop_is cv T st (chk:=fun _ => True) (fun _ => trivial) (lnOf T) [] none none hA (by simp; omega)
 have st0 : gzread_ring cv [some (.str T), none, none, none, none] st = (sSeq (sFor (dSeq (dCall (Fzlines_of cv) (dCons (dVar 0) dNil))) (tgName 2) (Bzread_ring_1 cv)) (sSeq (sSet 4 (dCall (Fzring_of cv) (dCons (dVar 1) dNil))) (sSeq (sIf (dB (dBin neD (dCall (Fzring_text cv) (dCons (dVar 4) dNil)) (dVar 0))) (sRaise (cv 16) (dCons (dC (.str "the words don't rise")) dNil)) sNext) (sRet (dVar 4))))) [some (.str T), some (.res st.length), none, none, none] (st ++ [.dct []]) := by
  unfold gzread_ring
  exact seq_nx (by simp [dNewK])
 unfold rdT
 by_cases k : lnOk T = true
 ·rw [if_pos k]
  rw [if_pos k] at ln
  have fo : ∀ r, loopD (fun _ => True) (tgName 2) (Bzread_ring_1 cv) ((lnOf T).map D.str) [some (.str T), some (.res st.length), none, none, none] (st ++ [.dct []]) = r → sFor (dSeq (dCall (Fzlines_of cv) (dCons (dVar 0) dNil))) (tgName 2) (Bzread_ring_1 cv) [some (.str T), some (.res st.length), none, none, none] (st ++ [.dct []]) = r:=by
   intro r hr
   rw [z_sFor]
   generalize (lnOf T).map D.str = LD at *
   simp only [z_seq, z_call, z_cons, z_nil, z_var, List.getElem?_cons_zero, z_bind_ok, ln, hi, z_to_ok]
   exact hr
  cases hr : rdLs (lnOf T) [] with
  | none =>
   refine ⟨fun _ => ?_, fun s z => (by cases z)⟩
   obtain ⟨s', e⟩:=lp2 hr
   refine ⟨st ++ [.dct (s'.map shD)], ?_, fun j x hx => app_all _ _ j x hx⟩
   unfold Fzread_ring
   refine runX_exc rfl ?_
   show gzread_ring cv [some (.str T), none, none, none, none] st = _
   rw [st0]
   exact seq_exc (fo _ e)
  | some sr =>
   obtain ⟨g1, g2, g3⟩:=rdLs_ok (lnOf T) [] sr hA ⟨List.nodup_nil, fun n q z => (by cases z), fun n q z => (by cases z)⟩ hr
   have hlr : sr.length ≤ 26:=by
    simp only [List.length_nil] at g2
    omega
   have tg : TG sr:=⟨g1.nd, g1.ks, g1.aw, hlr⟩
   obtain ⟨d2, d3, e⟩:=lp1 sr hr
   obtain ⟨s1, hs1⟩ : ∃ s1, s1 = st ++ [S.dct (sr.map shD)]:=⟨_, rfl⟩
   have hl1 : s1.length = st.length + 1:=by rw [hs1]; simp
   have ro:=ring_of_eq (cv:=cv) (st:=s1) (d:=st.length) (sh:=sr) (by rw [hs1]; exact at_last _ _)
   have ra:=ring_of_at (cv:=cv) s1 (sh:=sr) (by omega)
   have al:=app_all s1 [S.ins (cv 5) (rn (s1.length + 3) (s1.length + 2) 0), .dct [], .lst [], .dct (sr.map shD)]
   generalize s1 ++ [S.ins (cv 5) (rn (s1.length + 3) (s1.length + 2) 0), .dct [], .lst [], .dct (sr.map shD)] = s2 at ro ra al
   rw [hl1] at ro ra
   have rt:=rtext_is ra tg
   have al2 : ∀ (j : Nat) (x : S), st[j]? = some x → (s2 ++ [S.lst ((wsV sr).map D.str)])[j]? = some x:=fun j x hx => app_all _ _ j x (al j x (by rw [hs1]; exact app_all _ _ j x hx))
   rw [← hs1] at e
   have pre : ∀ r, (sSeq (sIf (dB (dBin neD (dCall (Fzring_text cv) (dCons (dVar 4) dNil)) (dVar 0))) (sRaise (cv 16) (dCons (dC (.str "the words don't rise")) dNil)) sNext) (sRet (dVar 4))) [some (.str T), some (.res st.length), d2, d3, some (.res (st.length + 1))] s2 = r → gzread_ring cv [some (.str T), none, none, none, none] st = r := by
    intro r hr
    rw [st0]
    refine (seq_nx (fo _ e)).trans ?_
    refine (seq_nx (st':=s2) (ρ':=[some (.str T), some (.res st.length), d2, d3, some (.res (st.length + 1))]) ?_).trans hr
    simp [ro]
   dsimp only
   by_cases kt : txV sr = T
   ·rw [if_pos kt]
    refine ⟨fun z => (by cases z), fun s z => ?_⟩
    cases z
    refine ⟨s2 ++ [S.lst ((wsV sr).map D.str)], ?_, ra.app _, tg, kt, al2⟩
    rw [kt] at rt
    have n1:=ne_nice (a:=.str T) rfl (s2 ++ [.lst ((wsV sr).map D.str)])
    unfold Fzread_ring
    refine runX_rt rfl ?_
    show gzread_ring cv [some (.str T), none, none, none, none] st = _
    refine pre _ ?_
    refine (seq_nx (st':=s2 ++ [S.lst ((wsV sr).map D.str)]) (ρ':=[some (.str T), some (.res st.length), d2, d3, some (.res (st.length + 1))]) (sif_no ?_)).trans ?_
    ·simp [rt, n1]
    ·rfl
   ·rw [if_neg kt]
    refine ⟨fun _ => ⟨s2 ++ [S.lst ((wsV sr).map D.str)], ?_, al2⟩, fun s z => (by cases z)⟩
    have n1 : neD (.str (txV sr)) (.str T) (s2 ++ [.lst ((wsV sr).map D.str)]) = .ok (.bl true) (s2 ++ [.lst ((wsV sr).map D.str)]):=by rw [neD_nice rfl rfl]; simp [kt]
    unfold Fzread_ring
    refine runX_exc rfl ?_
    show gzread_ring cv [some (.str T), none, none, none, none] st = _
    refine pre _ (seq_exc ?_)
    rw [sif_t (st':=s2 ++ [S.lst ((wsV sr).map D.str)]) (by simp [rt, n1])]
    simp [q1]
 ·rw [if_neg k]
  rw [if_neg k] at ln
  refine ⟨fun _ => ⟨st ++ [.dct []], ?_, fun j x hx => app_all _ _ j x hx⟩, fun s z => (by cases z)⟩
  unfold Fzread_ring
  refine runX_exc rfl ?_
  show gzread_ring cv [some (.str T), none, none, none, none] st = _
  rw [st0]
  refine seq_exc ?_
  rw [z_sFor]
  simp [ln]
noncomputable def LT (sh : Sh) : Prop:=∀ n q, valS sh n = some q → AW q
theorem LT.ap {sh : Sh} (h : LT sh) (cs : List RCh) (hp : ∀ c ∈ cs, ∀ q, c.2.2 = some q → AW q) : LT (apF sh cs):=by
 induction cs generalizing sh with
 | nil => exact h
 | cons c cs ih =>
  refine ih (sh:=ap1 sh c.1 c.2.2) (fun n q hq => ?_) (fun x hx => hp x (List.mem_cons_of_mem _ hx))
  rw [val_ap1] at hq
  by_cases e : n = c.1
  ·rw [if_pos e] at hq
   exact hp c List.mem_cons_self q hq
  ·rw [if_neg e] at hq
   exact h n q hq
theorem placeV_AW (ns : List Int) (k : Int) : AW (placeV ns k):=⟨placeV_mem ns k, by have:=placeV_len ns k; omega⟩
theorem LT.step {sh : Sh} (h : LT sh) (ns : List Int) (a : Int) : LT (apF sh (chV ns a sh).2):=by
 unfold chV
 split
 ·refine h.ap _ (fun c hc' q hq => ?_)
  rw [List.mem_singleton.mp hc'] at hq
  cases hq
 ·split
  ·rename_i hc
   refine h.ap _ (fun c hc' q hq => ?_)
   obtain ⟨n, hn, rfl⟩:=List.mem_map.mp hc'
   obtain ⟨q', hq'⟩:=wu_mem hn
   have hq2 : some (shp _ _ ((valS sh n).getD [])) = some q:=hq
   rw [hq'] at hq2
   rw [← Option.some.inj hq2]
   refine ⟨fun w hw => ?_, shp6 hc.2 hq' (take1 _)⟩
   unfold shp at hw
   rcases List.mem_append.mp hw with hw | hw
   ·exact placeV_mem ns _ w (List.mem_of_mem_take hw)
   ·exact (h n q' hq').1 w (List.mem_of_mem_drop hw)
  ·refine h.ap _ (fun c hc' q hq => ?_)
   rw [List.mem_singleton.mp hc'] at hq
   rw [← Option.some.inj hq]
   exact placeV_AW ns _
noncomputable def RG (cv : Nat → Addr) (st : Sto) (b d : Nat) (sh : Sh) (k : Nat) : Prop:=∃ i row, RingAt cv st b d i sh row k ∧ row.length = k ∧ RI sh ∧ LT sh
theorem W34 {n : Str} (h : n ∈ W3) : n ∈ W4:=by
 rcases List.mem_cons.mp h with rfl | h
 ·exact List.mem_cons_self
 rcases List.mem_cons.mp h with rfl | h
 ·exact List.mem_cons_of_mem _ List.mem_cons_self
 rcases List.mem_cons.mp h with rfl | h
 ·exact List.mem_cons_of_mem _ (List.mem_cons_of_mem _ List.mem_cons_self)
 cases h
theorem tx_of {sh : Sh} (h : RI sh) (h2 : LT sh) : TX sh:=⟨h.nd, fun n q hq => W34 (h.ks n q hq), h2⟩
section
variable {cv : Nat → Addr} {st st' : Sto} {b d b' d' : Nat} {sh sh' : Sh} {k k' : Nat}
theorem RG.tx (X : RG cv st b d sh k) : TX sh:=by
 obtain ⟨i, row, B, hr, h1, h2⟩:=X
 exact tx_of h1 h2
theorem RG.ri (X : RG cv st b d sh k) : RI sh:=by
 obtain ⟨i, row, B, hr, h1, h2⟩:=X
 exact h1
theorem RG.app (X : RG cv st b d sh k) (t : Sto) : RG cv (st ++ t) b d sh k:=by
 obtain ⟨i, row, B, h⟩:=X
 exact ⟨i, row, B.app t, h⟩
theorem RG.all (X : RG cv st b d sh k) (h : ∀ (j : Nat) (x : S), st[j]? = some x → st'[j]? = some x) : RG cv st' b d sh k:=by
 obtain ⟨i, row, B, hh⟩:=X
 exact ⟨i, row, B.frame (fun x => h _ x) (fun x => h _ x) (fun x => h _ x), hh⟩
theorem RG.step (X : RG cv st b d sh k) (ns : List Int) (hl : ns.length ≤ 63) (a : Int) (hk : k < 90) : ∃ st', Fz_law_step cv [.scr (ns.map .int), .int a, .res b] st = .ok .non st' ∧ RG cv st' b d (apF sh (chV ns a sh).2) (k + 1) ∧ Fr2 st st' b d:=by
 obtain ⟨i, row, B, hr, h1, h2⟩:=X
 obtain ⟨st', i', e, B', C⟩:=step_eq ns hl a B h1 hk
 exact ⟨st', e, ⟨i', _, B', by rw [List.length_append, List.length_take, hr, Nat.min_self]; rfl, h1.step ns a, h2.step ns a⟩, C.f2⟩
theorem textE {i : Nat} {row : List RStep} (B : RingAt cv st b d i sh row k) (h : TX sh) (ρ : Ev) (v : Nat) (hρ : ρ[v]? = some (some (.res b))) : dCall (Fzring_text cv) (dCons (dVar v) dNil) ρ st = .ok (.str (txV sh)) (st ++ [.lst ((wsV sh).map D.str)]):=by
 have e:=rtext_ok B h
 simp [hρ, e]
theorem RG.text (X : RG cv st b d sh k) (ρ : Ev) (v : Nat) (hρ : ρ[v]? = some (some (.res b))) : dCall (Fzring_text cv) (dCons (dVar v) dNil) ρ st = .ok (.str (txV sh)) (st ++ [.lst ((wsV sh).map D.str)]):=by
 have h:=X.tx
 obtain ⟨i, row, B, _⟩:=X
 exact textE B h ρ v hρ
theorem RG.mWords (X : RG cv st b d sh k) (ρ : Ev) (v : Nat) (hρ : ρ[v]? = some (some (.res b))) : dMeth (cv 5) "words" (FzRing_words cv) (dVar v) dNil ρ st = .ok (.res st.length) (st ++ [.lst ((wsV sh).map D.str)]) := by
 obtain ⟨i, row, B, _⟩:=X
 have e:=B.words
 simp [z_meth, hρ, B.ins, rn_words, e]
theorem RG.sizes (X : RG cv st b d sh k) (ρ : Ev) (v : Nat) (hρ : ρ[v]? = some (some (.res b))) : dMeth (cv 5) "sizes" (FzRing_sizes cv) (dVar v) dNil ρ st = .ok (.tup [.int k, .int 0]) st := by
 obtain ⟨i, row, B, hr, _⟩:=X
 have q2 : (2 : Nat) ≤ small:=by decide
 have hz : ((row.length : Int) - (k : Int)) = 0:=by omega
 have e : FzRing_sizes cv [.res b] st = .ok (.tup [.int k, .int 0]) st:=by
  have l:=B.len
  unfold FzRing_sizes gzRing_sizes
  simp [z_fld, B.ins, rn_made, rn_row, l, subD_int, q2, hz]
 simp [z_meth, hρ, B.ins, rn_sizes, e]
end
theorem kd_new1 (st : Sto) (X : List D) : kd (st ++ [.lst X]) (.res st.length) = .lst X:=by simp [kd]
theorem kd_app {st : Sto} {w : Nat} {X : List D} (hw : st[w]? = some (.lst X)) (t : Sto) : kd (st ++ t) (.res w) = .lst X:=kd_at (app_all _ _ _ _ hw)
section
variable {cv : Nat → Addr}
theorem lookN (hcv : apart cv) (x y : Bool) : List.lookup (cv 16) [(cv 11, x), (cv 16, y)] = some y:=by
 have h : (cv 16 == cv 11) = false:=by simpa using Ne.symm hcv
 simp [List.lookup, h]
noncomputable abbrev RF1 : D := .tup [.str "refused", .int 1]
theorem ref_16 (hcv : apart cv) (st : Sto) : Fz_law_refused cv [.exv (cv 16)] st = .ok RF1 st:=by
 have e1 : eqsOf st (.bl true) [.bl false, .bl true] = some [false, true]:=rfl
 have n1:=neD_int 1 1 st
 have q2 : (2 : Nat) ≤ small:=by decide
 have q1 : (1 : Nat) ≤ small:=by decide
 unfold Fz_law_refused gz_law_refused
 simp [lookN hcv, q1, q2, countD, indexD, seqL, e1, n1]
 rfl
theorem told_ok {T : Str} {d : D} {st st' : Sto} (h : Fzread_ring cv [.str T] st = .ok d st') : Fz_law_told cv [.str T] st = .ok d st':=by
 unfold Fz_law_told gz_law_told Tz_law_told_1
 simp [z_sTry, h]
theorem told_no (hcv : apart cv) {T : Str} {st st' : Sto} (h : Fzread_ring cv [.str T] st = .exc (cv 16) st') : Fz_law_told cv [.str T] st = .ok RF1 st':=by
 have hr:=ref_16 hcv st'
 have t1 : Tz_law_told_1 cv [some (.str T), none] st = .exc (cv 16) st':=by
  unfold Tz_law_told_1
  simp [h]
 have t2 : Hz_law_told_1 cv [none, some (.exv (cv 16))] st' = .rt RF1 st':=by
  unfold Hz_law_told_1
  simp [hr]
 have hm : cv 16 ∈ [cv 11, cv 16]:=by simp
 unfold Fz_law_told gz_law_told
 simp only [z_runF, List.length_cons, List.length_nil, Nat.zero_add, Nat.reduceAdd, if_true, List.map_cons, List.map_nil, Nat.reduceSub, List.replicate_succ, List.replicate_zero, List.cons_append, List.nil_append, z_sTry, t1, if_pos hm, z_handAs, List.set_cons_succ, List.set_cons_zero, t2]
theorem told_is (hcv : apart cv) {T : Str} (h : Asc T) (hT : T.length ≤ 77) (st : Sto) : ∃ st', (∀ (j : Nat) (x : S), st[j]? = some x → st'[j]? = some x) ∧
  ((rdT T = none ∧ Fz_law_told cv [.str T] st = .ok RF1 st') ∨ (∃ s b d i, rdT T = some s ∧ Fz_law_told cv [.str T] st = .ok (.res b) st' ∧ RingAt cv st' b d i s [] 0 ∧ TG s ∧ txV s = T)):=by
 obtain ⟨h1, h2⟩:=read_ring_is cv h hT st
 cases hr : rdT T with
 | none =>
  obtain ⟨st', e, al⟩:=h1 hr
  exact ⟨st', al, .inl ⟨rfl, told_no hcv e⟩⟩
 | some s =>
  obtain ⟨st', e, R, tg, tx, al⟩:=h2 s hr
  exact ⟨st', al, .inr ⟨s, _, _, _, rfl, told_ok e, R, tg, tx⟩⟩
end
noncomputable abbrev EL (ns : List Int) (c2 c3 c4 c5 c6 c7 c8 c9 c10 c11 : Option D) : Ev:=[some (.scr (ns.map .int)), some (.res 0), c2, c3, c4, c5, c6, c7, c8, c9, c10, c11]
theorem own_loop {cv : Nat → Addr} {st : Sto} {d i : Nat} {sh : Sh} {row : List RStep} {k : Nat} (B : RingAt cv st 0 d i sh row k) (h : TX sh) (ns : List Int) (c2 : Option D) {chk : Sto → Prop} (hc : chk st) : ∀ (L : List Str) (pre : List Str) (c4 : Option D), (∀ n ∈ L, n ∈ wsV sh) → (catV pre).length + 19 * L.length ≤ 900 →
  ∃ d4, loopD chk (tgName 4) (Bzlaw_2 cv) (L.map D.str) (EL ns c2 (some (.str (catV pre))) c4 none none none none none none none) st = .nx (EL ns c2 (some (.str (catV (pre ++ L.map fun n => rlV n ((valS sh n).getD []))))) d4 none none none none none none none) st
 | [], pre, c4, _, _ => ⟨c4, by rw [List.map_nil, List.map_nil, List.append_nil]; exact loop_nil hc⟩
 | n :: L, pre, c4, hL, hl => by
  obtain ⟨h1, h2⟩:=h.at_ (hL n List.mem_cons_self)
  obtain ⟨q, hq⟩:=ws_mem (hL n List.mem_cons_self)
  have hlen:=rlV_len h1 h2
  have h3 : nl.length = 1:=by decide +kernel
  have hcat : (catV (pre ++ [rlV n ((valS sh n).getD [])])).length ≤ (catV pre).length + 19:=by
   rw [catV_snoc, len_app, len_app]
   omega
  rw [List.length_cons] at hl
  obtain ⟨d4, g⟩:=own_loop B h ns c2 hc L (pre ++ [rlV n ((valS sh n).getD [])]) (some (.str n)) (fun m hm => hL m (List.mem_cons_of_mem _ hm)) (by omega)
  refine ⟨d4, ?_⟩
  rw [List.append_assoc] at g
  rw [List.map_cons, List.map_cons]
  refine (loop_nx (ρ1:=EL ns c2 (some (.str (catV pre))) (some (.str n)) none none none none none none none) (ρ2:=EL ns c2 (some (.str (catV (pre ++ [rlV n ((valS sh n).getD [])])))) (some (.str n)) none none none none none none none) (st2:=st) hc rfl ?_).trans g
  rw [catV_snoc]
  have e1:=B.find hq
  rw [hq] at h2 hlen ⊢
  simp only [Option.getD_some] at h2 hlen ⊢
  have hli:=lineV_len h2
  have hw:=W4_len n h1
  have a6:=h2.2
  have j1 : joinD (.str "/") [pl q] st = .ok (.str (Txt.join sl q)) st := by
   have h4 : sl.length = 1:=by decide +kernel
   have h5 : (q.map (·.length)).sum + q.length * sl.length ≤ small:=by
    rw [sum_len q h2.one, h4]
    exact small_ge (by omega)
   simp only [joinD, items_pl, strsOf_map, if_pos h5]
  have hs2 : (" /" : Str) = spc ++ sl := by decide +kernel
  have l2 : (" /" : Str).length = 2 := by decide +kernel
  have lj : (Txt.join sl q).length + 1 ≤ 13:=by
   have : (lineV q).length = sl.length + (Txt.join sl q).length:=len_app _ _
   have h4 : sl.length = 1:=by decide +kernel
   omega
  have hcl : (catV pre).length ≤ 900:=by omega
  have a1:=addS (a:=catV pre) (b:=n) (by omega) st
  have a2 := addS (a := catV pre ++ n) (b := " /") (by rw [len_app]; omega) st
  have a3 := addS (a := catV pre ++ n ++ " /") (b := Txt.join sl q) (by rw [len_app, len_app]; omega) st
  have a4 := addS (a := catV pre ++ n ++ " /" ++ Txt.join sl q) (b := nl) (by rw [len_app, len_app, len_app]; omega) st
  have fin : catV pre ++ n ++ " /" ++ Txt.join sl q ++ nl = catV pre ++ rlV n q ++ nl := by
   rw [hs2]
   unfold rlV lineV
   simp only [Str.append_assoc]
  rw [fin] at a4
  generalize catV pre ++ rlV n q ++ nl = RES at *
  unfold Bzlaw_2 dBM
  simp [z_meth, B.ins, rn_find, e1, j1, a1, a2, a3, a4]
theorem rdT_of {T : Str} {s : Sh} {ws : List Str} (h1 : lnOk T = true) (h2 : rdLs (lnOf T) [] = some s) (h3 : wsV s = ws) : rdT T = if catV (ws.map fun n => rlV n ((valS s n).getD [])) = T then some s else none:=by
 unfold rdT
 rw [if_pos h1, h2]
 dsimp only
 unfold txV lsV
 rw [h3]
noncomputable abbrev shK : Sh := [(("a" : Str), ([] : List Str)), (("bo" : Str), [("a" : Str), ("b" : Str)])]
theorem rd_known : rdT "a /\nbo /a/b\n" = some shK := by
 rw [rdT_of (s := shK) (ws := ["a", "bo"]) (by decide +kernel) (by decide +kernel) (SO.srtS_uniq (qs := [("a" : Str), ("bo" : Str)]) (List.Perm.refl _) (by decide +kernel)).symm]
 rw [if_pos (by decide +kernel)]
theorem rd_none : rdT "" = some [] := by decide +kernel
noncomputable abbrev shO : Sh := [(("b" : Str), ([] : List Str)), (("a" : Str), ([] : List Str))]
theorem rd_odd9 : rdT "b /\na /\n" = none := by
 rw [rdT_of (s := shO) (ws := ["a", "b"]) (by decide +kernel) (by decide +kernel) (SO.srtS_uniq (qs := [("a" : Str), ("b" : Str)]) (List.Perm.swap _ _ _) (by decide +kernel)).symm]
 rw [if_neg (by decide +kernel)]
noncomputable abbrev odds1 : List Str := ["a /", "a/\n", "a\n", "A /\n", "abcde /\n", " /\n", "a / \n", "a  /\n", "b /\na /\n", "a /\na /b\n"]
noncomputable abbrev odds2 : List Str := ["\n", "a //\n", "a b\n", "a /a/\n", "a /a/b/c/a/b/c/a\n"]
noncomputable def OddOk (t : Str) : Prop:=Asc t ∧ t.length ≤ 77 ∧ rdT t = none
theorem odd_mk {t : Str} (h1 : (cq t).all (fun c => decide (c < 128)) = true) (h2 : t.length ≤ 77) (h3 : rdT t = none) : OddOk t :=
 ⟨⟨fun c hc => of_decide_eq_true (List.all_eq_true.mp h1 c hc), by omega⟩, h2, h3⟩
theorem odds1_ok : ∀ t ∈ odds1, OddOk t:=by
 intro t ht
 simp only [odds1, List.mem_cons, List.not_mem_nil, or_false] at ht
 rcases ht with rfl | rfl | rfl | rfl | rfl | rfl | rfl | rfl | rfl | rfl
 iterate 8 exact odd_mk (by decide +kernel) (by decide +kernel) (by decide +kernel)
 ·exact odd_mk (by decide +kernel) (by decide +kernel) rd_odd9
 ·exact odd_mk (by decide +kernel) (by decide +kernel) (by decide +kernel)
theorem odds2_ok : ∀ t ∈ odds2, OddOk t:=by
 intro t ht
 simp only [odds2, List.mem_cons, List.not_mem_nil, or_false] at ht
 rcases ht with rfl | rfl | rfl | rfl | rfl
 iterate 5 exact odd_mk (by decide +kernel) (by decide +kernel) (by decide +kernel)
theorem told_odd {cv : Nat → Addr} (hcv : apart cv) {t : Str} (h : OddOk t) (st : Sto) : ∃ st', Fz_law_told cv [.str t] st = .ok RF1 st':=by
 obtain ⟨st', _, h1 | ⟨s, b, d, i, h1, _⟩⟩:=told_is hcv h.1 h.2.1 st
 ·exact ⟨st', h1.2⟩
 ·rw [h.2.2] at h1
  cases h1
theorem odd_loop {cv : Nat → Addr} (hcv : apart cv) {chk : Sto → Prop} (hc : ∀ st, chk st) : ∀ (L : List Str) (st : Sto) (a : Option D), (∀ t ∈ L, OddOk t) → ∃ st', compD chk (tgName 0) (Czlaw_1 cv) Ezlaw_3 (L.map D.str) [a] st [] = .ok [] st'
 | [], st, a, _ => ⟨st, by simp [compD, hc st]⟩
 | t :: L, st, a, h => by
  obtain ⟨s1, e1⟩:=told_odd hcv (h t List.mem_cons_self) st
  obtain ⟨s2, e2⟩:=odd_loop hcv hc L s1 (some (.str t)) (fun x hx => h x (List.mem_cons_of_mem _ hx))
  refine ⟨s2, ?_⟩
  have q2 : (2 : Nat) ≤ small:=by decide
  have n1:=ne_nice (a:=RF1) rfl s1
  have ec : Czlaw_1 cv [some (.str t)] st = .ok false s1:=by
   unfold Czlaw_1
   simp [e1, q2, n1]
  have tg : tgName 0 (.str t) [a] = some [some (.str t)]:=rfl
  rw [List.map_cons]
  unfold compD
  rw [if_pos ⟨hc st, by decide⟩, tg]
  simp only [ec]
  exact e2
theorem sign_at (z : Int) (h0 : 0 ≤ z) (h1 : z < 8) (st : Sto) : ∃ s : Str, ixD (.lst [.str "a", .str "/", .str " ", .str "\n", .str "", .str "Z", .str "b", .str "0"]) (.int z) st = .ok (.str s) st ∧ (∀ c ∈ cq s, c < 128) ∧ s.length ≤ 1 := by
 have : z = 0 ∨ z = 1 ∨ z = 2 ∨ z = 3 ∨ z = 4 ∨ z = 5 ∨ z = 6 ∨ z = 7:=by omega
 rcases this with rfl | rfl | rfl | rfl | rfl | rfl | rfl | rfl
 all_goals exact ⟨_, rfl, by decide +kernel, by decide +kernel⟩
theorem asc_tx {sh : Sh} (h : TX sh) : ∀ c ∈ cq (txV sh), c < 128:=by
 have go : ∀ ls : List Str, (∀ l ∈ ls, ∀ c ∈ cq l, c < 128) → ∀ c ∈ cq (catV ls), c < 128:=by
  intro ls
  induction ls with
  | nil =>
   intro _ c hc
   have : cq (catV []) = []:=by decide +kernel
   rw [this] at hc
   cases hc
  | cons l ls ih =>
   intro h c hc
   have hc' : c ∈ cq (l ++ nl ++ catV ls):=hc
   rw [cq_app, cq_app] at hc'
   rcases List.mem_append.mp hc' with hc' | hc'
   ·rcases List.mem_append.mp hc' with hc' | hc'
    ·exact h l List.mem_cons_self c hc'
    ·have : cq nl = [10]:=by decide +kernel
     rw [this] at hc'
     simp at hc'
     omega
   ·exact ih (fun x hx => h x (List.mem_cons_of_mem _ hx)) c hc'
 refine go (lsV sh) fun l hl c hc => ?_
 obtain ⟨n, hn, rfl⟩:=List.mem_map.mp hl
 obtain ⟨h1, h2⟩:=h.at_ hn
 unfold rlV at hc
 rw [cq_app, cq_app] at hc
 rcases List.mem_append.mp hc with hc | hc
 ·rcases List.mem_append.mp hc with hc | hc
  ·have : ∀ n ∈ W4, ∀ c ∈ cq n, c < 128:=W4_cases (by decide +kernel) (by decide +kernel) (by decide +kernel) (by decide +kernel)
   exact this n h1 c hc
  ·have : cq spc = [32]:=by decide +kernel
   rw [this] at hc
   simp at hc
   omega
 ·have:=lineV_cps h2 c hc
  omega
noncomputable def tkS (T : Str) (a : Nat) : Str:=⟨((cq T).take a).toArray⟩
noncomputable def dpS (T : Str) (a : Nat) : Str:=⟨((cq T).drop a).toArray⟩
theorem cq_tk (T : Str) (a : Nat) : cq (tkS T a) = (cq T).take a:=by simp [cq, tkS]
theorem cq_dp (T : Str) (a : Nat) : cq (dpS T a) = (cq T).drop a:=by simp [cq, dpS]
theorem cut_tk {T : Str} (h : T.length ≤ 200) (a : Nat) (st : Sto) : cutS (.str T) none (some (a : Int)) st = .ok (.str (tkS T a)) st:=by
 simp only [cutS, if_pos (small_ge (show T.length ≤ 1000 by omega)), cutL_to]
 rfl
theorem cut_dp {T : Str} (h : T.length ≤ 200) (a : Nat) (st : Sto) : cutS (.str T) (some (a : Int)) none st = .ok (.str (dpS T a)) st:=by
 simp only [cutS, if_pos (small_ge (show T.length ≤ 1000 by omega)), cutL_from]
 rfl
theorem spoilt_asc {T s : Str} (h : ∀ c ∈ cq T, c < 128) (hT : T.length ≤ 76) (hs : ∀ c ∈ cq s, c < 128) (hl : s.length ≤ 1) (a e : Nat) : Asc (tkS T a ++ s ++ dpS T (a + e)) ∧ (tkS T a ++ s ++ dpS T (a + e)).length ≤ 77:=by
 have h2 : (tkS T a ++ s ++ dpS T (a + e)).length ≤ 77:=by
  have h3:=cq_len T
  rw [← cq_len, cq_app, cq_app, cq_tk, cq_dp, List.length_append, List.length_append, List.length_take, List.length_drop, cq_len s]
  omega
 refine ⟨⟨fun c hc => ?_, by omega⟩, h2⟩
 rw [cq_app, cq_app, cq_tk, cq_dp] at hc
 rcases List.mem_append.mp hc with hc | hc
 ·rcases List.mem_append.mp hc with hc | hc
  ·exact h c (List.mem_of_mem_take hc)
  ·exact hs c hc
 ·exact h c (List.mem_of_mem_drop hc)
theorem rd_self (cv : Nat → Addr) {sh : Sh} (h : TX sh) : rdT (txV sh) ≠ none:=by
 intro e
 obtain ⟨st', sh', h1, _⟩:=read_ring_ok cv h []
 have h2:=h.tlen
 obtain ⟨st2, h3, _⟩:=(read_ring_is cv (T:=txV sh) ⟨asc_tx h, by omega⟩ (by omega) []).1 e
 rw [h1] at h3
 cases h3
theorem turn72 {cv : Nat → Addr} (hcv : apart cv) (ns : List Int) (hl : ns.length ≤ 63) {T : Str} (hA : ∀ c ∈ cq T, c < 128) (hT : T.length ≤ 76) (hrd : rdT T ≠ none) (j : Nat) (hj : j < 6) (st : Sto) (c4 c5 c6 c7 c8 c9 : Option D) :
  ∃ st' d6 d7 d8 d9, Bzlaw_3 cv (EL ns (some (.int j)) (some (.str T)) c4 c5 c6 c7 c8 c9 none none) st = .nx (EL ns (some (.int j)) (some (.str T)) c4 c5 d6 d7 d8 d9 none none) st':=by
 have m1 : mul2D (.int 4) (.int (j : Int)) st = .ok (.int (4 * (j : Int))) st:=mul2_int 4 (j : Int) st (mulOk_l 4 j (by decide) (by decide))
 have q2 : (2 : Nat) ≤ small:=by decide
 have q8 : (8 : Nat) ≤ small:=by decide
 have lt : lenD [.str T] st = .ok (.int T.length) st:=by
  show (if T.length ≤ small then Out.ok (D.int T.length) st else .bad) = _
  rw [if_pos (small_ge (by omega))]
 have d1:=drawn_eq ns hl (300 + 4 * (j : Int)) ((T.length : Int) + 1) (by omega) st
 have d1l:=drawn_lo ns (300 + 4 * (j : Int)) ((T.length : Int) + 1) (by omega)
 have d1h:=drawn_hi ns (300 + 4 * (j : Int)) ((T.length : Int) + 1) (by omega)
 obtain ⟨a, ha⟩ : ∃ a : Nat, drawnV ns (300 + 4 * (j : Int)) ((T.length : Int) + 1) = (a : Int):=⟨(drawnV ns (300 + 4 * (j : Int)) ((T.length : Int) + 1)).toNat, by omega⟩
 rw [ha] at d1
 have d2:=drawn_eq ns hl (301 + 4 * (j : Int)) 8 (by decide) st
 obtain ⟨s, sx, sa, sl1⟩:=sign_at (drawnV ns (301 + 4 * (j : Int)) 8) (drawn_lo ns _ 8 (by decide)) (drawn_hi ns _ 8 (by decide)) st
 have d3:=drawn_eq ns hl (302 + 4 * (j : Int)) 2 (by decide) st
 have d3l:=drawn_lo ns (302 + 4 * (j : Int)) 2 (by decide)
 have d3h:=drawn_hi ns (302 + 4 * (j : Int)) 2 (by decide)
 obtain ⟨e, he⟩ : ∃ e : Nat, drawnV ns (302 + 4 * (j : Int)) 2 = (e : Int):=⟨(drawnV ns (302 + 4 * (j : Int)) 2).toNat, by omega⟩
 rw [he] at d3
 obtain ⟨hsp, hspl⟩:=spoilt_asc hA hT sa sl1 a e
 have k1:=cut_tk (T:=T) (by omega) a st
 have k2:=cut_dp (T:=T) (by omega) (a + e) st
 have ka : ((a : Int) + (e : Int)) = ((a + e : Nat) : Int):=by omega
 have la : (tkS T a ++ s).length ≤ 77:=by rw [len_app] at hspl; omega
 have a1:=addS (a:=tkS T a) (b:=s) (by rw [← len_app]; omega) st
 have a2:=addS (a:=tkS T a ++ s) (b:=dpS T (a + e)) (by rw [← len_app]; omega) st
 obtain ⟨sp, hspd⟩ : ∃ sp, sp = tkS T a ++ s ++ dpS T (a + e):=⟨_, rfl⟩
 rw [← hspd] at a2 hsp hspl
 have pre : ∀ r d9 st1, Fz_law_told cv [.str sp] st = .ok d9 st1 → Pzlaw_p15 cv (EL ns (some (.int j)) (some (.str T)) c4 c5 (some (.int a)) (some (.str s)) (some (.str sp)) (some d9) none none) st1 = r → Bzlaw_3 cv (EL ns (some (.int j)) (some (.str T)) c4 c5 c6 c7 c8 c9 none none) st = r:=by
  intro r d9 st1 ht hr
  unfold Bzlaw_3
  refine (seq_nx (st':=st) (ρ':=EL ns (some (.int j)) (some (.str T)) c4 c5 (some (.int a)) c7 c8 c9 none none) ?_).trans ?_
  ·unfold Pzlaw_p11
   simp [m1, addD_int, lt, d1]
  refine (seq_nx (st':=st) (ρ':=EL ns (some (.int j)) (some (.str T)) c4 c5 (some (.int a)) (some (.str s)) c8 c9 none none) ?_).trans ?_
  ·unfold Pzlaw_p12
   simp [m1, addD_int, d2, q8, sx]
  refine (seq_nx (st':=st) (ρ':=EL ns (some (.int j)) (some (.str T)) c4 c5 (some (.int a)) (some (.str s)) (some (.str sp)) c9 none none) ?_).trans ?_
  ·unfold Pzlaw_p13
   rw [← ka] at k2
   have k2' : (if T.length ≤ small then Out.ok (D.str { cps:=(cutL T.cps.toList (some ((a : Int) + (e : Int))) none).toArray }) st else Out.bad) = .ok (.str (dpS T (a + e))) st:=k2
   simp [m1, addD_int, d3, k1, k2', a1, a2]
  refine (seq_nx (st':=st1) (ρ':=EL ns (some (.int j)) (some (.str T)) c4 c5 (some (.int a)) (some (.str s)) (some (.str sp)) (some d9) none none) ?_).trans hr
  unfold Pzlaw_p14
  simp [ht]
 obtain ⟨st1, _, ⟨hr, ht⟩ | ⟨sr, b, d, i, hr, ht, R, tg, tx⟩⟩:=told_is hcv hsp hspl st
 ·refine ⟨st1, some (.int a), some (.str s), some (.str sp), some RF1, pre _ RF1 st1 ht ?_⟩
  have hne : sp ≠ T:=fun z => hrd (by rw [← z]; exact hr)
  have n1:=ne_nice (a:=RF1) rfl st1
  have eq1 : eqD (.str sp) (.str T) st1 = .ok (.bl false) st1:=by rw [eqD_nice rfl rfl]; simp [hne]
  unfold Pzlaw_p15
  rw [sif_t (st':=st1) (by simp [dInstI, tyName, subTy])]
  refine sif_no (tst_or (st1:=st1) ?_ ?_)
  ·simp [q2, n1]
  ·simp [eq1]
 ·refine ⟨st1 ++ [.lst ((wsV sr).map D.str)], some (.int a), some (.str s), some (.str sp), some (.res b), pre _ (.res b) st1 ht ?_⟩
  have rt:=rtext_is R tg
  rw [tx] at rt
  have n1:=ne_nice (a:=.str sp) rfl (st1 ++ [.lst ((wsV sr).map D.str)])
  unfold Pzlaw_p15
  rw [sif_f (st':=st1) (by simp [dInstI, tyName, R.ins])]
  refine sif_no ?_
  simp [rt, n1]
theorem law_true (cv : Nat → Addr) (hcv : apart cv) (ns : List Int) (hl : ns.length ≤ 63) : ∃ st, Fzlaw cv [.scr (ns.map .int)] [] = .ok (.bl true) st:=by
 have hg : ∃ st, gzlaw cv (EL ns none none none none none none none none none none) [] = .rt (.bl true) st:=by
  have q1 : (1 : Nat) ≤ small:=by decide
  have q2 : (2 : Nat) ≤ small:=by decide
  have q0 : (0 : Nat) ≤ small:=by decide
  have k1' : FzRing___init__ cv [.res 0] [.ins (cv 5) []] = .ok .non [.ins (cv 5) (rn 1 2 0), .dct [], .lst []]:=make_ring (cv:=cv) []
  have A1 : RingAt cv [.ins (cv 5) (rn 1 2 0), .dct [], .lst []] 0 1 2 [] [] 0:=ring_new (cv:=cv) []
  unfold gzlaw
  refine seq_go (ρ':=EL ns none none none none none none none none none none) (st':=[.ins (cv 5) (rn 1 2 0), .dct [], .lst []]) ?_ ?_
  ·unfold Pzlaw_p1
   simp [z_make, k1', asNon]
  have X1 : RG cv [.ins (cv 5) (rn 1 2 0), .dct [], .lst []] 0 1 [] 0:=⟨2, [], A1, rfl, ⟨List.nodup_nil, fun n q h => (by cases h), fun n q h => (by cases h)⟩, fun n q h => (by cases h)⟩
  generalize ([.ins (cv 5) (rn 1 2 0), .dct [], .lst []] : Sto) = st1 at X1 ⊢
  have dn:=drawn_eq ns hl 0 10 (by decide) st1
  have dlo:=drawn_lo ns 0 10 (by decide)
  have dhi:=drawn_hi ns 0 10 (by decide)
  obtain ⟨m, hm⟩ : ∃ m : Nat, drawnV ns 0 10 = (m : Int):=⟨(drawnV ns 0 10).toNat, by omega⟩
  have hm9 : m ≤ 9:=by omega
  have g1 : rngOk (m : Int) = true:=rngOk_of (by omega) (by omega)
  obtain ⟨ρ2, st2, f2, ⟨c2, sh, rfl, X2⟩⟩:=loop_rng (chk:=fun _ => True) (t:=tgName 2) (g:=Bzlaw_1 cv) (f:=fun (i : Nat) => D.int (0 + i))
   (fun j ρ s => ∃ c2 sh, ρ = EL ns c2 none none none none none none none none none ∧ RG cv s 0 1 sh j) (fun _ _ _ _ => trivial) m
   (by
    rintro j hj ρ s ⟨c2, sh, rfl, Y⟩
    have m1:=mul2_int 20 (j : Int) s (mulOk_l 20 j (by decide) (by decide))
    obtain ⟨s1, e, Y1, C⟩:=Y.step ns hl (1 + 20 * (j : Int)) (by omega)
    refine ⟨EL ns (some (.int j)) none none none none none none none none none, EL ns (some (.int j)) none none none none none none none none none, s1, by rw [Int.zero_add]; rfl, ?_, some (.int j), _, rfl, Y1⟩
    unfold Bzlaw_1
    simp [m1, addD_int, e]) (EL ns none none none none none none none none none none) st1 ⟨none, [], rfl, X1⟩
  refine seq_go (ρ':=EL ns c2 none none none none none none none none none) (st':=st2) ?_ ?_
  ·unfold Pzlaw_p2
   rw [hm] at dn
   simp [dn, dRng1, g1] at f2 ⊢
   exact f2
  clear f2
  refine seq_go (ρ':=EL ns c2 (some (.str (catV []))) none none none none none none none none) (st':=st2) ?_ ?_
  ·unfold Pzlaw_p3
   simp
   rfl
  have T2:=X2.tx
  have ri:=X2.ri
  have hl3:=ri.len
  have hwl:=ws_len sh
  obtain ⟨W, hW⟩ : ∃ W, W = (wsV sh).map D.str:=⟨_, rfl⟩
  have w2:=X2.mWords (EL ns c2 (some (.str (catV []))) none none none none none none none none) 1 rfl
  rw [← hW] at w2
  have X3:=X2.app [S.lst W]
  have hi3 : itemsOf (st2 ++ [S.lst W]) (.res st2.length) = some W:=getL (at_last _ _)
  obtain ⟨d4, lp⟩ : ∃ d4, loopD (fun s => itemsOf s (.res st2.length) = some W) (tgName 4) (Bzlaw_2 cv) W (EL ns c2 (some (.str (catV []))) none none none none none none none none) (st2 ++ [S.lst W]) = .nx (EL ns c2 (some (.str (txV sh))) d4 none none none none none none none) (st2 ++ [S.lst W]):=by
   obtain ⟨i, row, B, _⟩:=X3
   obtain ⟨d4, g⟩:=own_loop B T2 ns c2 (chk:=fun s => itemsOf s (.res st2.length) = some W) hi3 (wsV sh) [] none (fun n hn => hn) (by
    have : (catV []).length = 0:=by decide +kernel
    omega)
   rw [← hW] at g
   exact ⟨d4, g⟩
  refine seq_go (ρ':=EL ns c2 (some (.str (txV sh))) d4 none none none none none none none) (st':=st2 ++ [S.lst W]) ?_ ?_
  ·unfold Pzlaw_p4
   rw [z_sFor]
   simp only [z_seq, w2, z_bind_ok, hi3, z_to_ok]
   exact lp
  clear lp w2 hi3
  generalize st2 ++ [S.lst W] = st3 at X3 ⊢
  have t5:=X3.text (EL ns c2 (some (.str (txV sh))) d4 none none none none none none none) 1 rfl
  rw [← hW] at t5
  have X5:=X3.app [S.lst W]
  refine seq_go (ρ':=EL ns c2 (some (.str (txV sh))) d4 none none none none none none none) (st':=st3 ++ [S.lst W]) ?_ ?_
  ·unfold Pzlaw_p5
   exact sif_no (tst_ne (a:=.str (txV sh)) rfl t5 rfl)
  clear t5
  generalize st3 ++ [S.lst W] = st5 at X5 ⊢
  obtain ⟨st6, sh2, e6, N6, hv, nd2, al6⟩:=read_ring_ok cv T2 st5
  have X6:=X5.all al6
  obtain ⟨b2, hb2⟩ : ∃ b2, b2 = st5.length + 1:=⟨_, rfl⟩
  rw [← hb2] at e6 N6
  have to6:=told_ok e6
  obtain ⟨T, hT⟩ : ∃ T, T = txV sh:=⟨_, rfl⟩
  rw [← hT] at to6 ⊢
  refine seq_go (ρ':=EL ns c2 (some (.str T)) d4 (some (.res b2)) none none none none none none) (st':=st6) ?_ ?_
  ·unfold Pzlaw_p6
   simp [to6]
  have ws2 : wsV sh2 = wsV sh:=ws_ext nd2 ri.nd fun n => by rw [hv]
  have ri2 : RI sh2:=⟨nd2, fun n q hq => ri.ks n q (by rw [← hv]; exact hq), fun n q hq => ri.pl n q (by rw [← hv]; exact hq)⟩
  have lt2 : LT sh2:=fun n q hq => T2.aw n q (by rw [← hv]; exact hq)
  have Y6 : RG cv st6 b2 _ sh2 0:=⟨_, [], N6, rfl, ri2, lt2⟩
  obtain ⟨ρE, hρE⟩ : ∃ ρE, ρE = EL ns c2 (some (.str T)) d4 (some (.res b2)) none none none none none none:=⟨_, rfl⟩
  have r1 : ρE[1]? = some (some (.res 0)):=by rw [hρE]; rfl
  have r5 : ρE[5]? = some (some (.res b2)):=by rw [hρE]; rfl
  have w7:=Y6.mWords ρE 5 r5
  rw [ws2, ← hW] at w7
  have X7:=X6.app [S.lst W]
  have Y7:=Y6.app [S.lst W]
  have w8:=X7.mWords ρE 1 r1
  rw [← hW] at w8
  have X8:=X7.app [S.lst W]
  have Y8:=Y7.app [S.lst W]
  have ka : kd (st6 ++ [S.lst W] ++ [S.lst W]) (.res st6.length) = .lst ((wsV sh).map D.str):=by rw [hW]; exact kd_app (at_last _ _) _
  have kb : kd (st6 ++ [S.lst W] ++ [S.lst W]) (.res (st6 ++ [S.lst W]).length) = .lst ((wsV sh).map D.str):=by rw [hW]; exact kd_new1 _ _
  rw [← hρE]
  refine seq_go (ρ':=ρE) (st':=st6 ++ [S.lst W] ++ [S.lst W]) ?_ ?_
  ·unfold Pzlaw_p7
   exact sif_no (ne_lists (L:=wsV sh) w7 w8 ka kb)
  clear ka kb w7 w8 X7 Y7
  generalize st6 ++ [S.lst W] ++ [S.lst W] = st8 at X8 Y8 ⊢
  have finds : ∀ {s : Sto} {b d : Nat} {sx : Sh} {k v : Nat}, RG cv s b d sx k → (∀ n, valS sx n = valS sh n) → wsV sx = wsV sh → ρE[v]? = some (some (.res b)) →
    dF (dComp [v] 1 (dSeq (dMeth (cv 5) "words" (FzRing_words cv) (dVar v) dNil)) (tgName 0) dTrue (dMeth (cv 5) "find" (FzRing_find cv) (dVar 1) (dCons (dVar 0) dNil))) ρE s = .ok (.lst ((wsV sh).map fun n => pl ((valS sh n).getD []))) (s ++ [S.lst W]) := by
   intro s b d sx k v X hvx hwx hρ
   have w:=X.mWords ρE v hρ
   rw [hwx, ← hW] at w
   have X':=X.app [S.lst W]
   have hi : itemsOf (s ++ [S.lst W]) (.res s.length) = some W:=getL (at_last _ _)
   have c : compD (fun z => itemsOf z (.res s.length) = some W) (tgName 0) dTrue (dMeth (cv 5) "find" (FzRing_find cv) (dVar 1) (dCons (dVar 0) dNil)) W [none, some (.res b)] (s ++ [S.lst W]) [] = .ok ((wsV sh).map fun n => pl ((valS sh n).getD [])) (s ++ [S.lst W]) := by
    obtain ⟨i, row, B, _⟩:=X'
    have := compD_mm (chk := fun z => itemsOf z (.res s.length) = some W) (t := tgName 0) (fe := dMeth (cv 5) "find" (FzRing_find cv) (dVar 1) (dCons (dVar 0) dNil)) D.str (fun n => pl ((valS sh n).getD [])) (fun ρ => ∃ a, ρ = [a, some (.res b)]) hi (wsV sh) [none, some (.res b)] [] ⟨_, rfl⟩ (by simp only [List.length_nil, Nat.zero_add]; exact small_ge (by omega)) ?_
    ·rw [← hW] at this
     exact this
    ·rintro n hn ρ ⟨a, rfl⟩
     obtain ⟨q, hq⟩:=ws_mem hn
     have e:=B.find (n:=n) (p:=q) (by rw [hvx]; exact hq)
     refine ⟨[some (.str n), some (.res b)], rfl, ⟨_, rfl⟩, ?_⟩
     rw [hq]
     simp [z_meth, B.ins, rn_find, e]
   generalize (wsV sh).map (fun n => pl ((valS sh n).getD [])) = PP at c ⊢
   simp only [z_F, z_comp, z_seq, w, z_bind_ok, hi]
   simp [capEv, hρ, c]
  have f8:=finds Y8 hv ws2 r5
  have X9:=X8.app [S.lst W]
  have Y9:=Y8.app [S.lst W]
  have f9:=finds X9 (fun _ => rfl) rfl r1
  have Y10:=Y9.app [S.lst W]
  refine seq_go (ρ':=ρE) (st':=st8 ++ [S.lst W] ++ [S.lst W]) ?_ ?_
  ·unfold Pzlaw_p8 Ezlaw_1 Ezlaw_2
   exact sif_no (tst_ne (nice_plF (wsV sh) (fun n => (valS sh n).getD [])) f8 f9)
  clear f8 f9 X9 Y9
  generalize st8 ++ [S.lst W] ++ [S.lst W] = st10 at Y10 ⊢
  have sz:=Y10.sizes ρE 5 r5
  refine seq_go (ρ':=ρE) (st':=st10) ?_ ?_
  ·unfold Pzlaw_p9
   refine sif_no (tst_ne (a:=.tup [.int ((0 : Nat) : Int), .int 0]) rfl (st1:=st10) sz ?_)
   simp [q2]
  have hA : ∀ c ∈ cq T, c < 128:=by rw [hT]; exact asc_tx T2
  have hTl : T.length ≤ 76:=by rw [hT]; exact T2.tlen
  have hrd : rdT T ≠ none:=by rw [hT]; exact rd_self cv T2
  have g6 : rngOk 6 = true:=rngOk_of (by decide) (by decide)
  obtain ⟨ρ11, st11, f11, ⟨e2, e6', e7, e8, e9, rfl⟩⟩:=loop_rng (chk:=fun _ => True) (t:=tgName 2) (g:=Bzlaw_3 cv) (f:=fun (i : Nat) => D.int (0 + i))
   (fun j ρ s => ∃ e2 e6 e7 e8 e9, ρ = EL ns e2 (some (.str T)) d4 (some (.res b2)) e6 e7 e8 e9 none none) (fun _ _ _ _ => trivial) 6
   (by
    rintro j hj ρ s ⟨e2, e6, e7, e8, e9, rfl⟩
    obtain ⟨s1, x6, x7, x8, x9, e⟩:=turn72 hcv ns hl hA hTl hrd j hj s d4 (some (.res b2)) e6 e7 e8 e9
    exact ⟨EL ns (some (.int j)) (some (.str T)) d4 (some (.res b2)) e6 e7 e8 e9 none none, _, s1, by rw [Int.zero_add]; rfl, e, _, _, _, _, _, rfl⟩) ρE st10 ⟨c2, none, none, none, none, hρE⟩
  refine seq_go (ρ':=EL ns e2 (some (.str T)) d4 (some (.res b2)) e6' e7 e8 e9 none none) (st':=st11) ?_ ?_
  ·unfold Pzlaw_p10
   simp [dRng1, g6] at f11 ⊢
   exact f11
  clear f11
  obtain ⟨O1, hO1⟩ : ∃ O1, O1 = odds1.map D.str:=⟨_, rfl⟩
  obtain ⟨O2, hO2⟩ : ∃ O2, O2 = (odds1 ++ odds2).map D.str:=⟨_, rfl⟩
  refine seq_go (ρ':=EL ns e2 (some (.str T)) d4 (some (.res b2)) e6' e7 e8 e9 (some (.lst O1)) none) (st':=st11) ?_ ?_
  ·have q10 : (10 : Nat) ≤ small:=by decide
   unfold Pzlaw_p16
   rw [hO1]
   simp [q10]
  refine seq_go (ρ':=EL ns e2 (some (.str T)) d4 (some (.res b2)) e6' e7 e8 e9 (some (.lst O2)) none) (st':=st11) ?_ ?_
  ·have q5 : (5 : Nat) ≤ small:=by decide
   have cc : catL (.lst O1) (.lst (odds2.map D.str)) st11 = .ok O2 st11:=by
    have hs : O1.length + (odds2.map D.str).length ≤ small:=by
     rw [hO1, List.length_map, List.length_map]
     exact small_ge (by decide)
    simp only [catL, ownL, if_pos hs]
    rw [hO2, hO1, List.map_append]
   have cc' : catL (.lst O1) (.lst [.str "\n", .str "a //\n", .str "a b\n", .str "a /a/\n", .str "a /a/b/c/a/b/c/a\n"]) st11 = .ok O2 st11 := cc
   unfold Pzlaw_p17
   simp [q5, cc']
  have hiO : ∀ s : Sto, itemsOf s (.lst O2) = some O2:=fun _ => rfl
  obtain ⟨st12, c12⟩:=odd_loop hcv (chk:=fun s => itemsOf s (.lst O2) = some O2) hiO (odds1 ++ odds2) st11 none (fun t ht => (List.mem_append.mp ht).elim (odds1_ok t) (odds2_ok t))
  rw [← hO2] at c12
  refine seq_go (ρ':=EL ns e2 (some (.str T)) d4 (some (.res b2)) e6' e7 e8 e9 (some (.lst O2)) none) (st':=st12) ?_ ?_
  ·have n1:=ne_nice (a:=.lst []) rfl st12
   unfold Pzlaw_p18
   refine sif_no ?_
   simp [hiO st11, capEv, c12, q0, n1]
  obtain ⟨st13, _, ⟨hr, _⟩ | ⟨sr, b3, d3, i3, hr, t13, R13, _, _⟩⟩ := told_is hcv (T := "a /\nbo /a/b\n") ⟨by decide +kernel, by decide +kernel⟩ (by decide +kernel) st12
  ·rw [rd_known] at hr
   cases hr
  rw [rd_known] at hr
  cases hr
  refine seq_go (ρ':=EL ns e2 (some (.str T)) d4 (some (.res b2)) e6' e7 e8 e9 (some (.lst O2)) (some (.res b3))) (st':=st13) ?_ ?_
  ·unfold Pzlaw_p19
   simp [t13]
  obtain ⟨st14, al14, ⟨hr, _⟩ | ⟨sn, b4, d4', i4, hr, t14, R14, _, _⟩⟩ := told_is hcv (T := "") ⟨by decide +kernel, by decide +kernel⟩ (by decide +kernel) st13
  ·rw [rd_none] at hr
   cases hr
  rw [rd_none] at hr
  cases hr
  have fa := R13.find (n := "a") (p := []) rfl
  have fb := R13.find (n := "bo") (p := [("a" : Str), ("b" : Str)]) (by decide +kernel)
  have w14:=R14.words
  have hw0 : wsV [] = []:=by
   have:=ws_len []
   exact List.length_eq_zero_iff.mp this
  rw [hw0] at w14
  have w14' : FzRing_words cv [.res b4] st14 = .ok (.res st14.length) (st14 ++ [.lst []]):=w14
  have e20:=eq_res_nil (at_last st14 (.lst []))
  have ee1 : eqD (.tup []) (.tup []) st13 = .ok (.bl true) st13:=by rw [eqD_nice rfl rfl]; simp
  have ee2 : eqD (pl [("a" : Str), ("b" : Str)]) (.tup [.str "a", .str "b"]) st13 = .ok (.bl true) st13 := by
   have : pl [("a" : Str), ("b" : Str)] = .tup [.str "a", .str "b"] := rfl
   rw [this, eqD_nice rfl rfl]
   simp
  have fa' : FzRing_find cv [.res b3, .str "a"] st13 = .ok (.tup []) st13 := fa
  have ρ4 : ∀ ρ : Ev, ρ[11]? = some (some (.res b3)) → ∃ st', sRet (dAndV (dBin eqD (dMeth (cv 5) "find" (FzRing_find cv) (dVar 11) (dCons (dC (.str "a")) dNil)) (dTup dNil)) (dAndV (dBin eqD (dMeth (cv 5) "find" (FzRing_find cv) (dVar 11) (dCons (dC (.str "bo")) dNil)) (dTup (dCons (dC (.str "a")) (dCons (dC (.str "b")) dNil)))) (dBin eqD (dMeth (cv 5) "words" (FzRing_words cv) (dCall (Fz_law_told cv) (dCons (dC (.str "")) dNil)) dNil) (dF (dLst dNil))))) ρ st13 = .rt (.bl true) st' := by
   intro ρ hρ
   refine ⟨st14 ++ [.lst []], ?_⟩
   simp [z_meth, hρ, R13.ins, rn_find, fa', fb, q0, q2, ee1, ee2, t14, R14.ins, rn_words, w14', e20]
  unfold Pzlaw_p20
  exact ρ4 _ rfl
 obtain ⟨st, hg⟩:=hg
 exact ⟨st, by unfold Fzlaw; exact run_rt rfl hg⟩
end K72
end
section
set_option maxHeartbeats 2000000
namespace K72
open PySem L2 DL
theorem all_mk {l : PySem.W.OpenLaw} {w : World} {K : PySem.W.Frag} {h : Heap} {mg : Str → Option Value} {fa f0 f1 f2 f3 f4 f5 f6 f7 f8 f9 f10 f11 f12 f13 f14 f15 f16 f17 f18 f19 f20 f21 f22 f23 f24 f25 f26 f27 f28 f29 C_Ring C_BookError C_NoPlace C_NoText : Addr} (X : K.In h) (G : h.Ns mainGlobals mg) (hfa : mg "law" = some (.ref fa))
  {od0 an0 : Option Addr} {sl0 : Array (Option Value)} {oc0 kV0 dc0 pm0 cd0 ct0 : Value}
  {od1 an1 : Option Addr} {sl1 : Array (Option Value)} {oc1 kV1 dc1 pm1 cd1 ct1 : Value}
  {od2 an2 : Option Addr} {sl2 : Array (Option Value)} {oc2 kV2 dc2 pm2 cd2 ct2 : Value}
  {od3 an3 : Option Addr} {sl3 : Array (Option Value)} {oc3 kV3 dc3 pm3 cd3 ct3 : Value}
  {od4 an4 : Option Addr} {sl4 : Array (Option Value)} {oc4 kV4 dc4 pm4 cd4 ct4 : Value}
  {od5 an5 : Option Addr} {sl5 : Array (Option Value)} {oc5 kV5 dc5 pm5 cd5 ct5 : Value}
  {od6 an6 : Option Addr} {sl6 : Array (Option Value)} {oc6 kV6 dc6 pm6 cd6 ct6 : Value}
  {od7 an7 : Option Addr} {sl7 : Array (Option Value)} {oc7 kV7 dc7 pm7 cd7 ct7 : Value}
  {od8 an8 : Option Addr} {sl8 : Array (Option Value)} {oc8 kV8 dc8 pm8 cd8 ct8 : Value}
  {od9 an9 : Option Addr} {sl9 : Array (Option Value)} {oc9 kV9 dc9 pm9 cd9 ct9 : Value}
  {od10 an10 : Option Addr} {sl10 : Array (Option Value)} {oc10 kV10 dc10 pm10 cd10 ct10 : Value}
  {od11 an11 : Option Addr} {sl11 : Array (Option Value)} {oc11 kV11 dc11 pm11 cd11 ct11 : Value}
  {od12 an12 : Option Addr} {sl12 : Array (Option Value)} {oc12 kV12 dc12 pm12 cd12 ct12 : Value}
  {od13 an13 : Option Addr} {sl13 : Array (Option Value)} {oc13 kV13 dc13 pm13 cd13 ct13 : Value}
  {od14 an14 : Option Addr} {sl14 : Array (Option Value)} {oc14 kV14 dc14 pm14 cd14 ct14 : Value}
  {od15 an15 : Option Addr} {sl15 : Array (Option Value)} {oc15 kV15 dc15 pm15 cd15 ct15 : Value}
  {od16 an16 : Option Addr} {sl16 : Array (Option Value)} {oc16 kV16 dc16 pm16 cd16 ct16 : Value}
  {od17 an17 : Option Addr} {sl17 : Array (Option Value)} {oc17 kV17 dc17 pm17 cd17 ct17 : Value}
  {od18 an18 : Option Addr} {sl18 : Array (Option Value)} {oc18 kV18 dc18 pm18 cd18 ct18 : Value}
  {od19 an19 : Option Addr} {sl19 : Array (Option Value)} {oc19 kV19 dc19 pm19 cd19 ct19 : Value}
  {od20 an20 : Option Addr} {sl20 : Array (Option Value)} {oc20 kV20 dc20 pm20 cd20 ct20 : Value}
  {od21 an21 : Option Addr} {sl21 : Array (Option Value)} {oc21 kV21 dc21 pm21 cd21 ct21 : Value}
  {od22 an22 : Option Addr} {sl22 : Array (Option Value)} {oc22 kV22 dc22 pm22 cd22 ct22 : Value}
  {od23 an23 : Option Addr} {sl23 : Array (Option Value)} {oc23 kV23 dc23 pm23 cd23 ct23 : Value}
  {od24 an24 : Option Addr} {sl24 : Array (Option Value)} {oc24 kV24 dc24 pm24 cd24 ct24 : Value}
  {od25 an25 : Option Addr} {sl25 : Array (Option Value)} {oc25 kV25 dc25 pm25 cd25 ct25 : Value}
  {od26 an26 : Option Addr} {sl26 : Array (Option Value)} {oc26 kV26 dc26 pm26 cd26 ct26 : Value}
  {od27 an27 : Option Addr} {sl27 : Array (Option Value)} {oc27 kV27 dc27 pm27 cd27 ct27 : Value}
  {od28 an28 : Option Addr} {sl28 : Array (Option Value)} {oc28 kV28 dc28 pm28 cd28 ct28 : Value}
  {od29 an29 : Option Addr} {sl29 : Array (Option Value)} {oc29 kV29 dc29 pm29 cd29 ct29 : Value}
  (a_Ring : PySem.W.nsIn K mainGlobals "Ring" = some (some (.ref C_Ring)))
  (a_BookError : PySem.W.nsIn K mainGlobals "BookError" = some (some (.ref C_BookError)))
  (a_NoPlace : PySem.W.nsIn K mainGlobals "NoPlace" = some (some (.ref C_NoPlace)))
  (a_NoText : PySem.W.nsIn K mainGlobals "NoText" = some (some (.ref C_NoText)))
  (a0 : PySem.W.findIn K (.ref C_Ring) "__init__" = some (some (.ref f0))) (i0 : PySem.W.isFn K (.ref f0) = true) (l0 : K.lookup f0 = some ⟨oc0, od0, .func (PySem.W.fnOf "__init__" "Ring.__init__" (defArgs szRing___init__) (defBody szRing___init__) (defScope szRing___init__) .none kV0 dc0 pm0 an0 cd0 ct0), sl0⟩) (c0 : PySem.W.codeIn K cd0 "Ring.__init__" = true) (k0 : PySem.W.keepIn K (.ref f0) = true)
  (a1 : PySem.W.nsIn K mainGlobals "_law_cell" = some (some (.ref f1))) (l1 : K.lookup f1 = some ⟨oc1, od1, .func (PySem.W.fnOf "_law_cell" "_law_cell" (defArgs sz_law_cell) (defBody sz_law_cell) (defScope sz_law_cell) .none kV1 dc1 pm1 an1 cd1 ct1), sl1⟩) (c1 : PySem.W.codeIn K cd1 "_law_cell" = true) (k1 : PySem.W.keepIn K (.ref f1) = true)
  (a2 : PySem.W.nsIn K mainGlobals "_law_drawn" = some (some (.ref f2))) (l2 : K.lookup f2 = some ⟨oc2, od2, .func (PySem.W.fnOf "_law_drawn" "_law_drawn" (defArgs sz_law_drawn) (defBody sz_law_drawn) (defScope sz_law_drawn) .none kV2 dc2 pm2 an2 cd2 ct2), sl2⟩) (c2 : PySem.W.codeIn K cd2 "_law_drawn" = true) (k2 : PySem.W.keepIn K (.ref f2) = true)
  (a3 : PySem.W.findIn K (.ref C_Ring) "words" = some (some (.ref f3))) (i3 : PySem.W.isFn K (.ref f3) = true) (l3 : K.lookup f3 = some ⟨oc3, od3, .func (PySem.W.fnOf "words" "Ring.words" (defArgs szRing_words) (defBody szRing_words) (defScope szRing_words) .none kV3 dc3 pm3 an3 cd3 ct3), sl3⟩) (c3 : PySem.W.codeIn K cd3 "Ring.words" = true) (k3 : PySem.W.keepIn K (.ref f3) = true)
  (a4 : PySem.W.nsIn K mainGlobals "_law_place" = some (some (.ref f4))) (l4 : K.lookup f4 = some ⟨oc4, od4, .func (PySem.W.fnOf "_law_place" "_law_place" (defArgs sz_law_place) (defBody sz_law_place) (defScope sz_law_place) .none kV4 dc4 pm4 an4 cd4 ct4), sl4⟩) (c4 : PySem.W.codeIn K cd4 "_law_place" = true) (k4 : PySem.W.keepIn K (.ref f4) = true)
  (a5 : PySem.W.findIn K (.ref C_Ring) "find" = some (some (.ref f5))) (i5 : PySem.W.isFn K (.ref f5) = true) (l5 : K.lookup f5 = some ⟨oc5, od5, .func (PySem.W.fnOf "find" "Ring.find" (defArgs szRing_find) (defBody szRing_find) (defScope szRing_find) .none kV5 dc5 pm5 an5 cd5 ct5), sl5⟩) (c5 : PySem.W.codeIn K cd5 "Ring.find" = true) (k5 : PySem.W.keepIn K (.ref f5) = true)
  (a6 : PySem.W.findIn K (.ref C_Ring) "put" = some (some (.ref f6))) (i6 : PySem.W.isFn K (.ref f6) = true) (l6 : K.lookup f6 = some ⟨oc6, od6, .func (PySem.W.fnOf "put" "Ring.put" (defArgs szRing_put) (defBody szRing_put) (defScope szRing_put) .none kV6 dc6 pm6 an6 cd6 ct6), sl6⟩) (c6 : PySem.W.codeIn K cd6 "Ring.put" = true) (k6 : PySem.W.keepIn K (.ref f6) = true)
  (a7 : PySem.W.findIn K (.ref C_Ring) "forth" = some (some (.ref f7))) (i7 : PySem.W.isFn K (.ref f7) = true) (l7 : K.lookup f7 = some ⟨oc7, od7, .func (PySem.W.fnOf "forth" "Ring.forth" (defArgs szRing_forth) (defBody szRing_forth) (defScope szRing_forth) .none kV7 dc7 pm7 an7 cd7 ct7), sl7⟩) (c7 : PySem.W.codeIn K cd7 "Ring.forth" = true) (k7 : PySem.W.keepIn K (.ref f7) = true)
  (a8 : PySem.W.findIn K (.ref C_Ring) "make_step" = some (some (.ref f8))) (i8 : PySem.W.isFn K (.ref f8) = true) (l8 : K.lookup f8 = some ⟨oc8, od8, .func (PySem.W.fnOf "make_step" "Ring.make_step" (defArgs szRing_make_step) (defBody szRing_make_step) (defScope szRing_make_step) .none kV8 dc8 pm8 an8 cd8 ct8), sl8⟩) (c8 : PySem.W.codeIn K cd8 "Ring.make_step" = true) (k8 : PySem.W.keepIn K (.ref f8) = true)
  (a9 : PySem.W.findIn K (.ref C_Ring) "lose" = some (some (.ref f9))) (i9 : PySem.W.isFn K (.ref f9) = true) (l9 : K.lookup f9 = some ⟨oc9, od9, .func (PySem.W.fnOf "lose" "Ring.lose" (defArgs szRing_lose) (defBody szRing_lose) (defScope szRing_lose) .none kV9 dc9 pm9 an9 cd9 ct9), sl9⟩) (c9 : PySem.W.codeIn K cd9 "Ring.lose" = true) (k9 : PySem.W.keepIn K (.ref f9) = true)
  (a10 : PySem.W.nsIn K mainGlobals "is_under" = some (some (.ref f10))) (l10 : K.lookup f10 = some ⟨oc10, od10, .func (PySem.W.fnOf "is_under" "is_under" (defArgs szis_under) (defBody szis_under) (defScope szis_under) .none kV10 dc10 pm10 an10 cd10 ct10), sl10⟩) (c10 : PySem.W.codeIn K cd10 "is_under" = true) (k10 : PySem.W.keepIn K (.ref f10) = true)
  (a11 : PySem.W.findIn K (.ref C_Ring) "words_under" = some (some (.ref f11))) (i11 : PySem.W.isFn K (.ref f11) = true) (l11 : K.lookup f11 = some ⟨oc11, od11, .func (PySem.W.fnOf "words_under" "Ring.words_under" (defArgs szRing_words_under) (defBody szRing_words_under) (defScope szRing_words_under) .none kV11 dc11 pm11 an11 cd11 ct11), sl11⟩) (c11 : PySem.W.codeIn K cd11 "Ring.words_under" = true) (k11 : PySem.W.keepIn K (.ref f11) = true)
  (a12 : PySem.W.nsIn K mainGlobals "is_too_long" = some (some (.ref f12))) (l12 : K.lookup f12 = some ⟨oc12, od12, .func (PySem.W.fnOf "is_too_long" "is_too_long" (defArgs szis_too_long) (defBody szis_too_long) (defScope szis_too_long) .none kV12 dc12 pm12 an12 cd12 ct12), sl12⟩) (c12 : PySem.W.codeIn K cd12 "is_too_long" = true) (k12 : PySem.W.keepIn K (.ref f12) = true)
  (a13 : PySem.W.findIn K (.ref C_Ring) "shift" = some (some (.ref f13))) (i13 : PySem.W.isFn K (.ref f13) = true) (l13 : K.lookup f13 = some ⟨oc13, od13, .func (PySem.W.fnOf "shift" "Ring.shift" (defArgs szRing_shift) (defBody szRing_shift) (defScope szRing_shift) .none kV13 dc13 pm13 an13 cd13 ct13), sl13⟩) (c13 : PySem.W.codeIn K cd13 "Ring.shift" = true) (k13 : PySem.W.keepIn K (.ref f13) = true)
  (a14 : PySem.W.findIn K (.ref C_Ring) "keep" = some (some (.ref f14))) (i14 : PySem.W.isFn K (.ref f14) = true) (l14 : K.lookup f14 = some ⟨oc14, od14, .func (PySem.W.fnOf "keep" "Ring.keep" (defArgs szRing_keep) (defBody szRing_keep) (defScope szRing_keep) .none kV14 dc14 pm14 an14 cd14 ct14), sl14⟩) (c14 : PySem.W.codeIn K cd14 "Ring.keep" = true) (k14 : PySem.W.keepIn K (.ref f14) = true)
  (a15 : PySem.W.nsIn K mainGlobals "_law_step" = some (some (.ref f15))) (l15 : K.lookup f15 = some ⟨oc15, od15, .func (PySem.W.fnOf "_law_step" "_law_step" (defArgs sz_law_step) (defBody sz_law_step) (defScope sz_law_step) .none kV15 dc15 pm15 an15 cd15 ct15), sl15⟩) (c15 : PySem.W.codeIn K cd15 "_law_step" = true) (k15 : PySem.W.keepIn K (.ref f15) = true)
  (a16 : PySem.W.nsIn K mainGlobals "place_text" = some (some (.ref f16))) (l16 : K.lookup f16 = some ⟨oc16, od16, .func (PySem.W.fnOf "place_text" "place_text" (defArgs szplace_text) (defBody szplace_text) (defScope szplace_text) .none kV16 dc16 pm16 an16 cd16 ct16), sl16⟩) (c16 : PySem.W.codeIn K cd16 "place_text" = true) (k16 : PySem.W.keepIn K (.ref f16) = true)
  (a17 : PySem.W.nsIn K mainGlobals "ring_line" = some (some (.ref f17))) (l17 : K.lookup f17 = some ⟨oc17, od17, .func (PySem.W.fnOf "ring_line" "ring_line" (defArgs szring_line) (defBody szring_line) (defScope szring_line) .none kV17 dc17 pm17 an17 cd17 ct17), sl17⟩) (c17 : PySem.W.codeIn K cd17 "ring_line" = true) (k17 : PySem.W.keepIn K (.ref f17) = true)
  (a18 : PySem.W.nsIn K mainGlobals "ring_text" = some (some (.ref f18))) (l18 : K.lookup f18 = some ⟨oc18, od18, .func (PySem.W.fnOf "ring_text" "ring_text" (defArgs szring_text) (defBody szring_text) (defScope szring_text) .none kV18 dc18 pm18 an18 cd18 ct18), sl18⟩) (c18 : PySem.W.codeIn K cd18 "ring_text" = true) (k18 : PySem.W.keepIn K (.ref f18) = true)
  (a19 : PySem.W.nsIn K mainGlobals "lines_of" = some (some (.ref f19))) (l19 : K.lookup f19 = some ⟨oc19, od19, .func (PySem.W.fnOf "lines_of" "lines_of" (defArgs szlines_of) (defBody szlines_of) (defScope szlines_of) .none kV19 dc19 pm19 an19 cd19 ct19), sl19⟩) (c19 : PySem.W.codeIn K cd19 "lines_of" = true) (k19 : PySem.W.keepIn K (.ref f19) = true)
  (a20 : PySem.W.nsIn K mainGlobals "is_letter" = some (some (.ref f20))) (l20 : K.lookup f20 = some ⟨oc20, od20, .func (PySem.W.fnOf "is_letter" "is_letter" (defArgs szis_letter) (defBody szis_letter) (defScope szis_letter) .none kV20 dc20 pm20 an20 cd20 ct20), sl20⟩) (c20 : PySem.W.codeIn K cd20 "is_letter" = true) (k20 : PySem.W.keepIn K (.ref f20) = true)
  (a21 : PySem.W.nsIn K mainGlobals "is_word" = some (some (.ref f21))) (l21 : K.lookup f21 = some ⟨oc21, od21, .func (PySem.W.fnOf "is_word" "is_word" (defArgs szis_word) (defBody szis_word) (defScope szis_word) .none kV21 dc21 pm21 an21 cd21 ct21), sl21⟩) (c21 : PySem.W.codeIn K cd21 "is_word" = true) (k21 : PySem.W.keepIn K (.ref f21) = true)
  (a22 : PySem.W.nsIn K mainGlobals "is_place" = some (some (.ref f22))) (l22 : K.lookup f22 = some ⟨oc22, od22, .func (PySem.W.fnOf "is_place" "is_place" (defArgs szis_place) (defBody szis_place) (defScope szis_place) .none kV22 dc22 pm22 an22 cd22 ct22), sl22⟩) (c22 : PySem.W.codeIn K cd22 "is_place" = true) (k22 : PySem.W.keepIn K (.ref f22) = true)
  (a23 : PySem.W.nsIn K mainGlobals "read_place" = some (some (.ref f23))) (l23 : K.lookup f23 = some ⟨oc23, od23, .func (PySem.W.fnOf "read_place" "read_place" (defArgs szread_place) (defBody szread_place) (defScope szread_place) .none kV23 dc23 pm23 an23 cd23 ct23), sl23⟩) (c23 : PySem.W.codeIn K cd23 "read_place" = true) (k23 : PySem.W.keepIn K (.ref f23) = true)
  (a24 : PySem.W.nsIn K mainGlobals "ring_of" = some (some (.ref f24))) (l24 : K.lookup f24 = some ⟨oc24, od24, .func (PySem.W.fnOf "ring_of" "ring_of" (defArgs szring_of) (defBody szring_of) (defScope szring_of) .none kV24 dc24 pm24 an24 cd24 ct24), sl24⟩) (c24 : PySem.W.codeIn K cd24 "ring_of" = true) (k24 : PySem.W.keepIn K (.ref f24) = true)
  (a25 : PySem.W.nsIn K mainGlobals "read_ring" = some (some (.ref f25))) (l25 : K.lookup f25 = some ⟨oc25, od25, .func (PySem.W.fnOf "read_ring" "read_ring" (defArgs szread_ring) (defBody szread_ring) (defScope szread_ring) .none kV25 dc25 pm25 an25 cd25 ct25), sl25⟩) (c25 : PySem.W.codeIn K cd25 "read_ring" = true) (k25 : PySem.W.keepIn K (.ref f25) = true)
  (a26 : PySem.W.nsIn K mainGlobals "_law_refused" = some (some (.ref f26))) (l26 : K.lookup f26 = some ⟨oc26, od26, .func (PySem.W.fnOf "_law_refused" "_law_refused" (defArgs sz_law_refused) (defBody sz_law_refused) (defScope sz_law_refused) .none kV26 dc26 pm26 an26 cd26 ct26), sl26⟩) (c26 : PySem.W.codeIn K cd26 "_law_refused" = true) (k26 : PySem.W.keepIn K (.ref f26) = true)
  (a27 : PySem.W.nsIn K mainGlobals "_law_told" = some (some (.ref f27))) (l27 : K.lookup f27 = some ⟨oc27, od27, .func (PySem.W.fnOf "_law_told" "_law_told" (defArgs sz_law_told) (defBody sz_law_told) (defScope sz_law_told) .none kV27 dc27 pm27 an27 cd27 ct27), sl27⟩) (c27 : PySem.W.codeIn K cd27 "_law_told" = true) (k27 : PySem.W.keepIn K (.ref f27) = true)
  (a28 : PySem.W.findIn K (.ref C_Ring) "sizes" = some (some (.ref f28))) (i28 : PySem.W.isFn K (.ref f28) = true) (l28 : K.lookup f28 = some ⟨oc28, od28, .func (PySem.W.fnOf "sizes" "Ring.sizes" (defArgs szRing_sizes) (defBody szRing_sizes) (defScope szRing_sizes) .none kV28 dc28 pm28 an28 cd28 ct28), sl28⟩) (c28 : PySem.W.codeIn K cd28 "Ring.sizes" = true) (k28 : PySem.W.keepIn K (.ref f28) = true)
  (a29 : PySem.W.nsIn K mainGlobals "law" = some (some (.ref f29))) (l29 : K.lookup f29 = some ⟨oc29, od29, .func (PySem.W.fnOf "law" "law" (defArgs szlaw) (defBody szlaw) (defScope szlaw) .none kV29 dc29 pm29 an29 cd29 ct29), sl29⟩) (c29 : PySem.W.codeIn K cd29 "law" = true) (k29 : PySem.W.keepIn K (.ref f29) = true)
  (pg_Ring : PySem.W.plainGet K C_Ring Str.empty = true) (hd_Ring : PySem.W.hasDictIn K C_Ring = true) (po_Ring : PySem.W.plainOver K C_Ring = true) (sa_Ring : PySem.W.findIn K (.ref C_Ring) "__setattr__" = some (some (.builtin "object.__setattr__")))
  (mk_Ring : PySem.W.makesIn K C_Ring = true) (kc_Ring : PySem.W.keepIn K (.ref C_Ring) = true)
  (na_Ring_kept : PySem.W.findIn K (.ref C_Ring) "kept" = some none)
  (na_Ring_made : PySem.W.findIn K (.ref C_Ring) "made" = some none)
  (na_Ring_row : PySem.W.findIn K (.ref C_Ring) "row" = some none)
  (e2_NoPlace : PySem.W.isClsIn K C_NoPlace = true)
  (g1_NoPlace : PySem.W.findIn K (.ref C_NoPlace) "__getattribute__" = some (some (.builtin "BaseException.__getattribute__")))
  (g2_NoPlace : PySem.W.findIn K (.ref C_NoPlace) "__getattr__" = some none)
  (g3_NoPlace : PySem.W.findIn K (.ref C_NoPlace) "__class__" = some (some (.builtin "object.__class__")))
  (e3_NoPlace : PySem.W.subIn K (.ref C_NoPlace) (.type "BaseException") = some true)
  (g4_NoPlace : PySem.W.subIn K (.ref C_NoPlace) (.type "object") = some true)
  (e2_NoText : PySem.W.isClsIn K C_NoText = true)
  (g1_NoText : PySem.W.findIn K (.ref C_NoText) "__getattribute__" = some (some (.builtin "BaseException.__getattribute__")))
  (g2_NoText : PySem.W.findIn K (.ref C_NoText) "__getattr__" = some none)
  (g3_NoText : PySem.W.findIn K (.ref C_NoText) "__class__" = some (some (.builtin "object.__class__")))
  (e3_NoText : PySem.W.subIn K (.ref C_NoText) (.type "BaseException") = some true)
  (g4_NoText : PySem.W.subIn K (.ref C_NoText) (.type "object") = some true)
  (e1_BookError : PySem.W.instIn K (.ref C_BookError) (.type "tuple") = some false)
  (e2_BookError : PySem.W.isClsIn K C_BookError = true)
  (e3_BookError : PySem.W.subIn K (.ref C_BookError) (.type "BaseException") = some true)
  (j1_Ring : PySem.W.findIn K (.ref C_Ring) "__class__" = some (some (.builtin "object.__class__")))
  (j2 : PySem.W.specialIn K (.builtin "object.__class__") "__get__" = some (some (.builtin "getset_descriptor.__get__")))
  (j3 : PySem.W.takesIn K (.builtin "object.__class__") = some true)
  (j4_Ring : PySem.W.mroIn K C_Ring (.type "object") = some true)
  (j5_Ring_tuple : PySem.W.subIn K (.ref C_Ring) (.type "tuple") = some false)
  (y_NoPlace : PySem.W.typeIn K (.ref C_NoPlace) = some (.type "type"))
  (s_NoPlace_NoPlace : PySem.W.subIn K (.ref C_NoPlace) (.ref C_NoPlace) = some true)
  (y_NoText : PySem.W.typeIn K (.ref C_NoText) = some (.type "type"))
  (n_NoPlace_NoText : PySem.W.subIn K (.ref C_NoPlace) (.ref C_NoText) = some false)
  (ne_NoPlace_NoText : C_NoPlace ≠ C_NoText)
  (n_NoText_NoPlace : PySem.W.subIn K (.ref C_NoText) (.ref C_NoPlace) = some false)
  (ne_NoText_NoPlace : C_NoText ≠ C_NoPlace)
  (s_NoText_NoText : PySem.W.subIn K (.ref C_NoText) (.ref C_NoText) = some true)
  (t_NoPlace_ValueError : PySem.W.subIn K (.ref C_NoPlace) (.type "ValueError") = some true)
  (t_NoText_ValueError : PySem.W.subIn K (.ref C_NoText) (.type "ValueError") = some true)
  (s_NoPlace_BookError : PySem.W.subIn K (.ref C_NoPlace) (.ref C_BookError) = some true)
  (s_NoText_BookError : PySem.W.subIn K (.ref C_NoText) (.ref C_BookError) = some true)
  (xx_NoPlace : PySem.W.excIn K C_NoPlace [.type "ValueError", .type "Exception", .type "BaseException", .type "object"] "ValueError.__new__" = true)
  (xx_NoText : PySem.W.excIn K C_NoText [.type "ValueError", .type "Exception", .type "BaseException", .type "object"] "ValueError.__new__" = true)
  (z_ValueError : PySem.W.nsIn K mainGlobals "ValueError" = some none)    (z_all : PySem.W.nsIn K mainGlobals "all" = some none)    (z_dict : PySem.W.nsIn K mainGlobals "dict" = some none)    (z_isinstance : PySem.W.nsIn K mainGlobals "isinstance" = some none)    (z_len : PySem.W.nsIn K mainGlobals "len" = some none)    (z_max : PySem.W.nsIn K mainGlobals "max" = some none)    (z_range : PySem.W.nsIn K mainGlobals "range" = some none)    (z_sorted : PySem.W.nsIn K mainGlobals "sorted" = some none)    (z_str : PySem.W.nsIn K mainGlobals "str" = some none)    (z_tuple : PySem.W.nsIn K mainGlobals "tuple" = some none)    {t_MOST_LETTERS : Tok} (v_MOST_LETTERS : PySem.W.nsIn K mainGlobals "MOST_LETTERS" = some (some (.int 4 t_MOST_LETTERS)))    {t_MOST_WORDS : Tok} (v_MOST_WORDS : PySem.W.nsIn K mainGlobals "MOST_WORDS" = some (some (.int 6 t_MOST_WORDS))) :
  ∃ fd : FuncData, (∀ (s : Shared) (v : Value), BindsTo s fd ⟨[v], []⟩ [("_law_script", v)]) ∧ ∀ base : Heap, K.In base → base.Ns mainGlobals mg → FnOk l.prog w K mg base CX0 7 fa fd ["_law_script"] (spB K apart Fzlaw) := by
 have e:=hfa.symm.trans (PySem.W.mg_of X G a29)
 cases e
 obtain ⟨cv, rfl, rfl, rfl, rfl⟩ : ∃ cv : Nat → Addr, cv 5 = C_Ring ∧ cv 10 = C_BookError ∧ cv 11 = C_NoPlace ∧ cv 16 = C_NoText:=⟨fun n => match n with | 5 => C_Ring | 10 => C_BookError | 11 => C_NoPlace | 16 => C_NoText | _ => 0, rfl, rfl, rfl, rfl⟩
 have b_ValueError:=PySem.W.mg_none_of X G z_ValueError
 have b_all:=PySem.W.mg_none_of X G z_all
 have b_dict:=PySem.W.mg_none_of X G z_dict
 have b_isinstance:=PySem.W.mg_none_of X G z_isinstance
 have b_len:=PySem.W.mg_none_of X G z_len
 have b_max:=PySem.W.mg_none_of X G z_max
 have b_range:=PySem.W.mg_none_of X G z_range
 have b_sorted:=PySem.W.mg_none_of X G z_sorted
 have b_str:=PySem.W.mg_none_of X G z_str
 have b_tuple:=PySem.W.mg_none_of X G z_tuple
 have c_MOST_LETTERS:=PySem.W.mg_of X G v_MOST_LETTERS
 have c_MOST_WORDS:=PySem.W.mg_of X G v_MOST_WORDS
 have cl_Ring : Cls K (cv 5):=⟨pg_Ring, hd_Ring, po_Ring, sa_Ring⟩
 have m_Ring:=PySem.W.mg_of X G a_Ring
 have m_BookError:=PySem.W.mg_of X G a_BookError
 have m_NoPlace:=PySem.W.mg_of X G a_NoPlace
 have m_NoText:=PySem.W.mg_of X G a_NoText
 have ec_NoPlace : ExcC K (cv 11):=⟨e2_NoPlace, g1_NoPlace, g2_NoPlace, g3_NoPlace, e3_NoPlace, g4_NoPlace⟩
 have ec_NoText : ExcC K (cv 16):=⟨e2_NoText, g1_NoText, g2_NoText, g3_NoText, e3_NoText, g4_NoText⟩
 have ek_BookError : ExcK K (cv 10):=⟨e1_BookError, e2_BookError, e3_BookError⟩
 have it_Ring_tuple : InsT K (cv 5) "tuple" := ⟨j1_Ring, j2, j3, j4_Ring, kit_T (T := "tuple") (by decide +kernel) j5_Ring_tuple⟩
 have ki_NoPlace_NoPlace_true:=kit_C e2_NoPlace y_NoPlace s_NoPlace_NoPlace (fun _ => rfl)
 have ki_NoPlace_NoText_false:=kit_C e2_NoText y_NoText n_NoPlace_NoText (fun z => absurd z ne_NoPlace_NoText)
 have ki_NoText_NoPlace_false:=kit_C e2_NoPlace y_NoPlace n_NoText_NoPlace (fun z => absurd z ne_NoText_NoPlace)
 have ki_NoText_NoText_true:=kit_C e2_NoText y_NoText s_NoText_NoText (fun _ => rfl)
 have kt_NoPlace_ValueError_true := kit_T (T := "ValueError") (by decide +kernel) t_NoPlace_ValueError
 have kt_NoText_ValueError_true := kit_T (T := "ValueError") (by decide +kernel) t_NoText_ValueError
 have sb_NoPlace_BookError:=s_NoPlace_BookError
 have sb_NoText_BookError:=s_NoText_BookError
 have xc_NoPlace:=xx_NoPlace
 have xc_NoText:=xx_NoText
 have mg_BookError:=m_BookError
 have mg_NoPlace:=m_NoPlace
 have mg_NoText:=m_NoText
 have na_Ring_kept : NoAttr K (cv 5) "kept" := na_Ring_kept
 have na_Ring_made : NoAttr K (cv 5) "made" := na_Ring_made
 have na_Ring_row : NoAttr K (cv 5) "row" := na_Ring_row
 have F0:=fun_mk (st:=szRing___init__) l0 c0 k0
 have b0 := F0.binds (ps := ["self"]) fun _ _ _ _ _ _ => by refine us1 ?_; intros; rfl
 have F1:=fun_mk (st:=sz_law_cell) l1 c1 k1
 have b1 := F1.binds (ps := ["_law_script", "_law_k"]) fun _ _ _ _ _ _ => by refine us2 ?_; intros; rfl
 have m1:=PySem.W.mg_of X G a1
 have F2:=fun_mk (st:=sz_law_drawn) l2 c2 k2
 have b2 := F2.binds (ps := ["_law_script", "_law_k", "_law_many"]) fun _ _ _ _ _ _ => by refine us3 ?_; intros; rfl
 have m2:=PySem.W.mg_of X G a2
 have F3:=fun_mk (st:=szRing_words) l3 c3 k3
 have b3 := F3.binds (ps := ["self"]) fun _ _ _ _ _ _ => by refine us1 ?_; intros; rfl
 have F4:=fun_mk (st:=sz_law_place) l4 c4 k4
 have b4 := F4.binds (ps := ["_law_script", "_law_at"]) fun _ _ _ _ _ _ => by refine us2 ?_; intros; rfl
 have m4:=PySem.W.mg_of X G a4
 have F5:=fun_mk (st:=szRing_find) l5 c5 k5
 have b5 := F5.binds (ps := ["self", "word"]) fun _ _ _ _ _ _ => by refine us2 ?_; intros; rfl
 have F6:=fun_mk (st:=szRing_put) l6 c6 k6
 have b6 := F6.binds (ps := ["self", "word", "place"]) fun _ _ _ _ _ _ => by refine us3 ?_; intros; rfl
 have F7:=fun_mk (st:=szRing_forth) l7 c7 k7
 have b7 := F7.binds (ps := ["self"]) fun _ _ _ _ _ _ => by refine us1 ?_; intros; rfl
 have F8:=fun_mk (st:=szRing_make_step) l8 c8 k8
 have b8 := F8.binds (ps := ["self", "name", "changes"]) fun _ _ _ _ _ _ => by refine us3 ?_; intros; rfl
 have F9:=fun_mk (st:=szRing_lose) l9 c9 k9
 have b9 := F9.binds (ps := ["self", "word"]) fun _ _ _ _ _ _ => by refine us2 ?_; intros; rfl
 have F10:=fun_mk (st:=szis_under) l10 c10 k10
 have b10 := F10.binds (ps := ["place", "other"]) fun _ _ _ _ _ _ => by refine us2 ?_; intros; rfl
 have m10:=PySem.W.mg_of X G a10
 have F11:=fun_mk (st:=szRing_words_under) l11 c11 k11
 have b11 := F11.binds (ps := ["self", "place"]) fun _ _ _ _ _ _ => by refine us2 ?_; intros; rfl
 have F12:=fun_mk (st:=szis_too_long) l12 c12 k12
 have b12 := F12.binds (ps := ["words"]) fun _ _ _ _ _ _ => by refine us1 ?_; intros; rfl
 have m12:=PySem.W.mg_of X G a12
 have F13:=fun_mk (st:=szRing_shift) l13 c13 k13
 have b13 := F13.binds (ps := ["self", "old", "new"]) fun _ _ _ _ _ _ => by refine us3 ?_; intros; rfl
 have F14:=fun_mk (st:=szRing_keep) l14 c14 k14
 have b14 := F14.binds (ps := ["self", "word", "place"]) fun _ _ _ _ _ _ => by refine us3 ?_; intros; rfl
 have F15:=fun_mk (st:=sz_law_step) l15 c15 k15
 have b15 := F15.binds (ps := ["_law_script", "_law_at", "_law_ring"]) fun _ _ _ _ _ _ => by refine us3 ?_; intros; rfl
 have m15:=PySem.W.mg_of X G a15
 have F16:=fun_mk (st:=szplace_text) l16 c16 k16
 have b16 := F16.binds (ps := ["place"]) fun _ _ _ _ _ _ => by refine us1 ?_; intros; rfl
 have m16:=PySem.W.mg_of X G a16
 have F17:=fun_mk (st:=szring_line) l17 c17 k17
 have b17 := F17.binds (ps := ["word", "place"]) fun _ _ _ _ _ _ => by refine us2 ?_; intros; rfl
 have m17:=PySem.W.mg_of X G a17
 have F18:=fun_mk (st:=szring_text) l18 c18 k18
 have b18 := F18.binds (ps := ["ring"]) fun _ _ _ _ _ _ => by refine us1 ?_; intros; rfl
 have m18:=PySem.W.mg_of X G a18
 have F19:=fun_mk (st:=szlines_of) l19 c19 k19
 have b19 := F19.binds (ps := ["text"]) fun _ _ _ _ _ _ => by refine us1 ?_; intros; rfl
 have m19:=PySem.W.mg_of X G a19
 have F20:=fun_mk (st:=szis_letter) l20 c20 k20
 have b20 := F20.binds (ps := ["sign"]) fun _ _ _ _ _ _ => by refine us1 ?_; intros; rfl
 have m20:=PySem.W.mg_of X G a20
 have F21:=fun_mk (st:=szis_word) l21 c21 k21
 have b21 := F21.binds (ps := ["thing"]) fun _ _ _ _ _ _ => by refine us1 ?_; intros; rfl
 have m21:=PySem.W.mg_of X G a21
 have F22:=fun_mk (st:=szis_place) l22 c22 k22
 have b22 := F22.binds (ps := ["thing"]) fun _ _ _ _ _ _ => by refine us1 ?_; intros; rfl
 have m22:=PySem.W.mg_of X G a22
 have F23:=fun_mk (st:=szread_place) l23 c23 k23
 have b23 := F23.binds (ps := ["text"]) fun _ _ _ _ _ _ => by refine us1 ?_; intros; rfl
 have m23:=PySem.W.mg_of X G a23
 have F24:=fun_mk (st:=szring_of) l24 c24 k24
 have b24 := F24.binds (ps := ["places"]) fun _ _ _ _ _ _ => by refine us1 ?_; intros; rfl
 have m24:=PySem.W.mg_of X G a24
 have F25:=fun_mk (st:=szread_ring) l25 c25 k25
 have b25 := F25.binds (ps := ["text"]) fun _ _ _ _ _ _ => by refine us1 ?_; intros; rfl
 have m25:=PySem.W.mg_of X G a25
 have F26:=fun_mk (st:=sz_law_refused) l26 c26 k26
 have b26 := F26.binds (ps := ["_law_e"]) fun _ _ _ _ _ _ => by refine us1 ?_; intros; rfl
 have m26:=PySem.W.mg_of X G a26
 have F27:=fun_mk (st:=sz_law_told) l27 c27 k27
 have b27 := F27.binds (ps := ["_law_text"]) fun _ _ _ _ _ _ => by refine us1 ?_; intros; rfl
 have m27:=PySem.W.mg_of X G a27
 have F28:=fun_mk (st:=szRing_sizes) l28 c28 k28
 have b28 := F28.binds (ps := ["self"]) fun _ _ _ _ _ _ => by refine us1 ?_; intros; rfl
 have F29:=fun_mk (st:=szlaw) l29 c29 k29
 have b29 := F29.binds (ps := ["_law_script"]) fun _ _ _ _ _ _ => by refine us1 ?_; intros; rfl
 have m29:=PySem.W.mg_of X G a29
 refine ⟨PySem.W.fnOf "law" "law" (defArgs szlaw) (defBody szlaw) (defScope szlaw) .none kV29 dc29 pm29 an29 cd29 ct29, fun s v => .of_eq rfl, fun base _ _ => ?_⟩
 have h0 : MkAt l.prog w K mg base "Ring" (cv 5) 1 (FzRing___init__ cv) := okzRing___init__ F0 ⟨mk_Ring, a0, i0, kc_Ring⟩ b0 m_Ring   cl_Ring na_Ring_kept na_Ring_made na_Ring_row
 have h1 : FnAt l.prog w K mg base "_law_cell" 1 Fz_law_cell := okz_law_cell F1 m1 b1 b_len
 have h2 : FnAt l.prog w K mg base "_law_drawn" 2 Fz_law_drawn := okz_law_drawn F2 m2 b2    h1
 have h3 : MtAt l.prog w K mg base (cv 5) "words" 1 (FzRing_words cv) := okzRing_words F3 ⟨a3, i3, k3⟩ b3 b_sorted  cl_Ring na_Ring_kept
 have h4 : FnAt l.prog w K mg base "_law_place" 3 Fz_law_place := okz_law_place F4 m4 b4 b_range b_tuple   h2
 have h5 : MtX l.prog w K mg base (cv 5) "find" 1 (FzRing_find cv) := okzRing_find F5 ⟨a5, i5, k5⟩ b5   cl_Ring mg_NoPlace na_Ring_kept xc_NoPlace
 have h6 : MtAt l.prog w K mg base (cv 5) "put" 1 (FzRing_put cv) := okzRing_put F6 ⟨a6, i6, k6⟩ b6   cl_Ring na_Ring_kept
 have h7 : MtX l.prog w K mg base (cv 5) "forth" 2 (FzRing_forth cv) := okzRing_forth F7 ⟨a7, i7, k7⟩ b7 b_len  cl_Ring mg_NoPlace na_Ring_made na_Ring_row xc_NoPlace h6
 have h8 : MtX l.prog w K mg base (cv 5) "make_step" 3 (FzRing_make_step cv) := okzRing_make_step F8 ⟨a8, i8, k8⟩ b8 b_tuple  cl_Ring na_Ring_made na_Ring_row h7
 have h9 : MtX l.prog w K mg base (cv 5) "lose" 4 (FzRing_lose cv) := okzRing_lose F9 ⟨a9, i9, k9⟩ b9   cl_Ring h5 h8
 have h10 : FnAt l.prog w K mg base "is_under" 1 Fzis_under := okzis_under F10 m10 b10 b_len
 have h11 : MtAt l.prog w K mg base (cv 5) "words_under" 2 (FzRing_words_under cv) := okzRing_words_under F11 ⟨a11, i11, k11⟩ b11   cl_Ring na_Ring_kept h3 h10
 have h12 : FnAt l.prog w K mg base "is_too_long" 1 Fzis_too_long := okzis_too_long F12 m12 b12 b_len c_MOST_WORDS
 have h13 : MtX l.prog w K mg base (cv 5) "shift" 4 (FzRing_shift cv) := okzRing_shift F13 ⟨a13, i13, k13⟩ b13 b_len  cl_Ring mg_NoPlace na_Ring_kept xc_NoPlace h8 h11 h12
 have h14 : MtX l.prog w K mg base (cv 5) "keep" 4 (FzRing_keep cv) := okzRing_keep F14 ⟨a14, i14, k14⟩ b14   cl_Ring na_Ring_kept h8
 have h15 : FnX l.prog w K mg base "_law_step" 5 (Fz_law_step cv) := okz_law_step F15 m15 b15 b_len b_max  cl_Ring h5 h14 h9 h13 h3 h2 h4
 have h16 : FnAt l.prog w K mg base "place_text" 1 Fzplace_text := okzplace_text F16 m16 b16
 have h17 : FnAt l.prog w K mg base "ring_line" 2 Fzring_line := okzring_line F17 m17 b17    h16
 have h18 : FnX l.prog w K mg base "ring_text" 3 (Fzring_text cv) := okzring_text F18 m18 b18   cl_Ring h5 h3 h17
 have h19 : FnX l.prog w K mg base "lines_of" 1 (Fzlines_of cv) := okzlines_of F19 m19 b19   mg_NoText xc_NoText
 have h20 : FnAt l.prog w K mg base "is_letter" 1 Fzis_letter := okzis_letter F20 m20 b20
 have h21 : FnAt l.prog w K mg base "is_word" 2 Fzis_word := okzis_word F21 m21 b21 b_all b_isinstance b_len b_str c_MOST_LETTERS  h20
 have h22 : FnAt l.prog w K mg base "is_place" 3 Fzis_place := okzis_place F22 m22 b22 b_all b_isinstance b_tuple   h12 h21
 have h23 : FnX l.prog w K mg base "read_place" 4 (Fzread_place cv) := okzread_place F23 m23 b23 b_tuple  mg_NoText xc_NoText h22 h16
 have h24 : FnAt l.prog w K mg base "ring_of" 3 (Fzring_of cv) := okzring_of F24 m24 b24 b_dict  cl_Ring na_Ring_kept h0
 have h25 : FnX l.prog w K mg base "read_ring" 5 (Fzread_ring cv) := okzread_ring F25 m25 b25 b_len  mg_NoText xc_NoText h21 h19 h23 h24 h18
 have h26 : FnHAt l.prog w K mg base "_law_refused" 1 (Fz_law_refused cv) := okz_law_refused F26 m26 b26 b_ValueError b_isinstance  ec_NoPlace ec_NoText ki_NoPlace_NoPlace_true ki_NoPlace_NoText_false ki_NoText_NoPlace_false ki_NoText_NoText_true kt_NoPlace_ValueError_true kt_NoText_ValueError_true mg_NoPlace mg_NoText
 have h27 : FnAt l.prog w K mg base "_law_told" 6 (Fz_law_told cv) := okz_law_told F27 m27 b27   ek_BookError mg_BookError sb_NoPlace_BookError sb_NoText_BookError h26 h25
 have h28 : MtAt l.prog w K mg base (cv 5) "sizes" 1 (FzRing_sizes cv) := okzRing_sizes F28 ⟨a28, i28, k28⟩ b28 b_len  cl_Ring na_Ring_made na_Ring_row
 exact fnOk_spB (cv:=cv) ne_NoPlace_NoText (okzlaw F29 b_isinstance b_len b_range b_tuple  cl_Ring it_Ring_tuple h0 h5 h28 h3 h2 h15 h27 h18)
theorem walk {l : PySem.W.OpenLaw} {q : Program} {loose : List Str} {XP : (Str → Option Value) → Heap → Prop} {YP : World → Heap → Prop} {d : DefRec} {K : Params → PySem.W.Frag} (hn : l.most = some 63) (hdf : d.params.defaults = [])
  (hY : ∀ (w : World) (h : Heap), YP w h → (K w.params).In h)
  (F : ∀ (w : World) (mg : Str → Option Value) (fa : Addr) (h : Heap), (K w.params).In h → h.Ns mainGlobals mg → mg d.name = some (.ref fa) →
   ∃ fd : FuncData, (∀ (s : Shared) (u : Value), BindsTo s fd ⟨[u], []⟩ [("_law_script", u)]) ∧ ∀ base : Heap, (K w.params).In base → base.Ns mainGlobals mg → FnOk l.prog w (K w.params) mg base CX0 7 fa fd ["_law_script"] (spB (K w.params) apart Fzlaw)) :
  PySem.W.WalkO q loose XP YP l.row.toRowW d [] (fun f vs => PySem.call f vs) :=
 L2.walk_of (n := 63) (k := 7) (x := "_law_script") (CX := fun _ => CX0) (sp := fun w => spB (K w.params) apart Fzlaw) hn (by decide) hdf ⟨rfl, by decide, by decide⟩ hY F (fun _ H a ns hl ho hS cv hcv => DL.law_sp (law_true cv hcv) H a ns hl ho hS) fun _ _ _ _ _ z => z
end K72
noncomputable def PySem.W.Fast.tw4924870960704170253 : Nat:=0
noncomputable def PySem.W.Fast.tw2358075552688931204 : Nat:=0
noncomputable def PySem.W.Fast.tw15316658514268758372 : Nat:=0
noncomputable def PySem.W.Fast.tw10399266401953251271 : Nat:=0
noncomputable def PySem.W.Fast.tw17170472223608059050 : Nat:=0
noncomputable def PySem.W.Fast.tw12997797890453418503 : Nat:=0
noncomputable def PySem.W.Fast.tw861502493610598483 : Nat:=0
noncomputable def PySem.W.Fast.tw5232775305885696284 : Nat:=0
noncomputable def PySem.W.Fast.tw12408111787983249662 : Nat:=0
noncomputable def PySem.W.Fast.tw7175993877961864270 : Nat:=0
noncomputable def PySem.W.Fast.tw5123568123611258702 : Nat:=0
noncomputable def PySem.W.Fast.tw12933234616287059325 : Nat:=0
noncomputable def PySem.W.Fast.tw977512076041815475 : Nat:=0
noncomputable def PySem.W.Fast.tw7774113678449685934 : Nat:=0
noncomputable def PySem.W.Fast.tw10879749546641988924 : Nat:=0
noncomputable def PySem.W.Fast.tw12349411230219362751 : Nat:=0
noncomputable def PySem.W.Fast.tw1467881925912835984 : Nat:=0
noncomputable def PySem.W.Fast.tw8116618695712578677 : Nat:=0
noncomputable def PySem.W.Fast.tw17689344090056996911 : Nat:=0
noncomputable def PySem.W.Fast.tw8215439957894238634 : Nat:=0
open PySem PySem.W PyProof.Rows
set_option maxHeartbeats 0
open_top hd for PySem.Challenge.rw_cardplaces_k72_ring_texts
theorem PySem.Challenge.cw_cardplaces_k72_ring_texts_holds : PySem.Challenge.rw_cardplaces_k72_ring_texts.Holds := by
 refine hd ?_
 k_fill
 refine K72.walk (l:=PySem.Challenge.rw_cardplaces_k72_ring_texts) rfl rfl (fun w h Y => PySem.W.kIn_of Y) ?F
 case F =>
  intro w mg fa h KX G hmg
  refine' K72.all_mk KX G hmg ?a_Ring ?a_BookError ?a_NoPlace ?a_NoText ?a0 ?i0 ?l0 ?c0 ?k0 ?a1 ?l1 ?c1 ?k1 ?a2 ?l2 ?c2 ?k2 ?a3 ?i3 ?l3 ?c3 ?k3 ?a4 ?l4 ?c4 ?k4 ?a5 ?i5 ?l5 ?c5 ?k5 ?a6 ?i6 ?l6 ?c6 ?k6 ?a7 ?i7 ?l7 ?c7 ?k7 ?a8 ?i8 ?l8 ?c8 ?k8 ?a9 ?i9 ?l9 ?c9 ?k9 ?a10 ?l10 ?c10 ?k10 ?a11 ?i11 ?l11 ?c11 ?k11 ?a12 ?l12 ?c12 ?k12 ?a13 ?i13 ?l13 ?c13 ?k13 ?a14 ?i14 ?l14 ?c14 ?k14 ?a15 ?l15 ?c15 ?k15 ?a16 ?l16 ?c16 ?k16 ?a17 ?l17 ?c17 ?k17 ?a18 ?l18 ?c18 ?k18 ?a19 ?l19 ?c19 ?k19 ?a20 ?l20 ?c20 ?k20 ?a21 ?l21 ?c21 ?k21 ?a22 ?l22 ?c22 ?k22 ?a23 ?l23 ?c23 ?k23 ?a24 ?l24 ?c24 ?k24 ?a25 ?l25 ?c25 ?k25 ?a26 ?l26 ?c26 ?k26 ?a27 ?l27 ?c27 ?k27 ?a28 ?i28 ?l28 ?c28 ?k28 ?a29 ?l29 ?c29 ?k29 ?pg_Ring ?hd_Ring ?po_Ring ?sa_Ring ?mk_Ring ?kc_Ring ?na_Ring_kept ?na_Ring_made ?na_Ring_row ?e2_NoPlace ?g1_NoPlace ?g2_NoPlace ?g3_NoPlace ?e3_NoPlace ?g4_NoPlace ?e2_NoText ?g1_NoText ?g2_NoText ?g3_NoText ?e3_NoText ?g4_NoText ?e1_BookError ?e2_BookError ?e3_BookError ?j1_Ring ?j2 ?j3 ?j4_Ring ?j5_Ring_tuple ?y_NoPlace ?s_NoPlace_NoPlace ?y_NoText ?n_NoPlace_NoText ?ne_NoPlace_NoText ?n_NoText_NoPlace ?ne_NoText_NoPlace ?s_NoText_NoText ?t_NoPlace_ValueError ?t_NoText_ValueError ?s_NoPlace_BookError ?s_NoText_BookError ?xx_NoPlace ?xx_NoText ?z_ValueError ?z_all ?z_dict ?z_isinstance ?z_len ?z_max ?z_range ?z_sorted ?z_str ?z_tuple ?v_MOST_LETTERS ?v_MOST_WORDS
  (case a_Ring => k_is)
  (case a_BookError => k_is)
  (case a_NoPlace => k_is)
  (case a_NoText => k_is)
  (case a0 => k_is)
  (case i0 => k_is)
  (case l0 => k_is)
  (case c0 => k_is)
  (case k0 => k_is)
  (case a1 => k_is)
  (case l1 => k_is)
  (case c1 => k_is)
  (case k1 => k_is)
  (case a2 => k_is)
  (case l2 => k_is)
  (case c2 => k_is)
  (case k2 => k_is)
  (case a3 => k_is)
  (case i3 => k_is)
  (case l3 => k_is)
  (case c3 => k_is)
  (case k3 => k_is)
  (case a4 => k_is)
  (case l4 => k_is)
  (case c4 => k_is)
  (case k4 => k_is)
  (case a5 => k_is)
  (case i5 => k_is)
  (case l5 => k_is)
  (case c5 => k_is)
  (case k5 => k_is)
  (case a6 => k_is)
  (case i6 => k_is)
  (case l6 => k_is)
  (case c6 => k_is)
  (case k6 => k_is)
  (case a7 => k_is)
  (case i7 => k_is)
  (case l7 => k_is)
  (case c7 => k_is)
  (case k7 => k_is)
  (case a8 => k_is)
  (case i8 => k_is)
  (case l8 => k_is)
  (case c8 => k_is)
  (case k8 => k_is)
  (case a9 => k_is)
  (case i9 => k_is)
  (case l9 => k_is)
  (case c9 => k_is)
  (case k9 => k_is)
  (case a10 => k_is)
  (case l10 => k_is)
  (case c10 => k_is)
  (case k10 => k_is)
  (case a11 => k_is)
  (case i11 => k_is)
  (case l11 => k_is)
  (case c11 => k_is)
  (case k11 => k_is)
  (case a12 => k_is)
  (case l12 => k_is)
  (case c12 => k_is)
  (case k12 => k_is)
  (case a13 => k_is)
  (case i13 => k_is)
  (case l13 => k_is)
  (case c13 => k_is)
  (case k13 => k_is)
  (case a14 => k_is)
  (case i14 => k_is)
  (case l14 => k_is)
  (case c14 => k_is)
  (case k14 => k_is)
  (case a15 => k_is)
  (case l15 => k_is)
  (case c15 => k_is)
  (case k15 => k_is)
  (case a16 => k_is)
  (case l16 => k_is)
  (case c16 => k_is)
  (case k16 => k_is)
  (case a17 => k_is)
  (case l17 => k_is)
  (case c17 => k_is)
  (case k17 => k_is)
  (case a18 => k_is)
  (case l18 => k_is)
  (case c18 => k_is)
  (case k18 => k_is)
  (case a19 => k_is)
  (case l19 => k_is)
  (case c19 => k_is)
  (case k19 => k_is)
  (case a20 => k_is)
  (case l20 => k_is)
  (case c20 => k_is)
  (case k20 => k_is)
  (case a21 => k_is)
  (case l21 => k_is)
  (case c21 => k_is)
  (case k21 => k_is)
  (case a22 => k_is)
  (case l22 => k_is)
  (case c22 => k_is)
  (case k22 => k_is)
  (case a23 => k_is)
  (case l23 => k_is)
  (case c23 => k_is)
  (case k23 => k_is)
  (case a24 => k_is)
  (case l24 => k_is)
  (case c24 => k_is)
  (case k24 => k_is)
  (case a25 => k_is)
  (case l25 => k_is)
  (case c25 => k_is)
  (case k25 => k_is)
  (case a26 => k_is)
  (case l26 => k_is)
  (case c26 => k_is)
  (case k26 => k_is)
  (case a27 => k_is)
  (case l27 => k_is)
  (case c27 => k_is)
  (case k27 => k_is)
  (case a28 => k_is)
  (case i28 => k_is)
  (case l28 => k_is)
  (case c28 => k_is)
  (case k28 => k_is)
  (case a29 => k_is)
  (case l29 => k_is)
  (case c29 => k_is)
  (case k29 => k_is)
  (case pg_Ring => k_is)
  (case hd_Ring => k_is)
  (case po_Ring => k_is)
  (case sa_Ring => k_is)
  (case mk_Ring => k_is)
  (case kc_Ring => k_is)
  (case na_Ring_kept => k_is)
  (case na_Ring_made => k_is)
  (case na_Ring_row => k_is)
  (case e2_NoPlace => k_is)
  (case g1_NoPlace => k_is)
  (case g2_NoPlace => k_is)
  (case g3_NoPlace => k_is)
  (case e3_NoPlace => k_is)
  (case g4_NoPlace => k_is)
  (case e2_NoText => k_is)
  (case g1_NoText => k_is)
  (case g2_NoText => k_is)
  (case g3_NoText => k_is)
  (case e3_NoText => k_is)
  (case g4_NoText => k_is)
  (case e1_BookError => k_is)
  (case e2_BookError => k_is)
  (case e3_BookError => k_is)
  (case j1_Ring => k_is)
  (case j2 => k_is)
  (case j3 => k_is)
  (case j4_Ring => k_is)
  (case j5_Ring_tuple => k_is)
  (case y_NoPlace => k_is)
  (case s_NoPlace_NoPlace => k_is)
  (case y_NoText => k_is)
  (case n_NoPlace_NoText => k_is)
  (case ne_NoPlace_NoText => decide)
  (case n_NoText_NoPlace => k_is)
  (case ne_NoText_NoPlace => decide)
  (case s_NoText_NoText => k_is)
  (case t_NoPlace_ValueError => k_is)
  (case t_NoText_ValueError => k_is)
  (case s_NoPlace_BookError => k_is)
  (case s_NoText_BookError => k_is)
  (case xx_NoPlace => k_exc)
  (case xx_NoText => k_exc)
  (case z_ValueError => k_is)
  (case z_all => k_is)
  (case z_dict => k_is)
  (case z_isinstance => k_is)
  (case z_len => k_is)
  (case z_max => k_is)
  (case z_range => k_is)
  (case z_sorted => k_is)
  (case z_str => k_is)
  (case z_tuple => k_is)
  (case v_MOST_LETTERS => k_is)
  (case v_MOST_WORDS => k_is)
end
