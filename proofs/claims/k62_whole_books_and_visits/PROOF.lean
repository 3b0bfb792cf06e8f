import PyProof.Rows.All
import Wide.All
import OpenK.AllK
import Wide.FinOn
import Lean
import PyProof.EqAt
import PyProof.EqKinds
import PyProof.TupleCall
import PyProof.NeKinds
import PyProof.CompFree
import PyProof.CompUse
import PyProof.ZipIter
import PyProof.StrWalks
import PyProof.ListRange
import PyProof.ListMulRoad
import KE.KMinBuiltin
import PyProof.Rows.CallKw2
import KE.KSortTup
import PyProof.StrCalls2
import PyProof.StrLawsChain
import PyProof.StrLawsTight
import PyProof.Rows.StrItems
import KE.KxAffix
import KE.KRevSl
import PyProof.Rows.SetFrom
import PyProof.FactsAll.set_1
import PyProof.FactsAll.set_2
import PyProof.CollectWalk
import PyProof.AttrMissHeap
import KE.KDictOf
import PyProof.Rows.TupMore
import KE.KRevIter
import PySem.Challenge.RW_cardplaces_k62_whole_books_and_visits
set_option Elab.async false
set_option linter.all false
set_option maxRecDepth 100000
namespace L2
open PySem PySem.Spec PyProof.Rows
noncomputable abbrev Key:=Sum Int Str
noncomputable def keyIs : Key → Value → Bool
 | .inl k, v => Value.isInt k v
 | .inr x, v => Value.isStrOf x v
noncomputable def keyH (w : World) : Key → Int
 | .inl k => hashInt k
 | .inr x => hashStr w x
theorem keyIs_shape : ∀ {k : Key} {v : Value}, keyIs k v = true → (∃ i t, k = Sum.inl i ∧ v = Value.int i t) ∨ (∃ x t, k = Sum.inr x ∧ v = Value.str x t)
 | .inl i, v, h => by
  obtain ⟨t, e⟩:=Value.isInt_shape (k:=i) (v:=v) h
  exact .inl ⟨i, t, rfl, e⟩
 | .inr x, v, h => by
  obtain ⟨t, e⟩:=Value.isStrOf_shape (x:=x) (v:=v) h
  exact .inr ⟨x, t, rfl, e⟩
theorem keyIs_int (i : Int) (t : Tok) : keyIs (.inl i) (.int i t) = true:=by simp [keyIs, Value.isInt]
theorem keyIs_str (x : Str) (t : Tok) : keyIs (.inr x) (.str x t) = true:=by simp [keyIs, Value.isStrOf]
theorem key_ll (a b : Int) : decide ((Sum.inl a : Key) = Sum.inl b) = (a == b):=by
 by_cases e : a = b
 ·subst e; simp
 ·have h : ¬ (Sum.inl a : Key) = Sum.inl b:=fun q => e (Sum.inl.inj q)
  rw [decide_eq_false h]
  exact (beq_eq_false_iff_ne.mpr e).symm
theorem key_rr (a b : Str) : decide ((Sum.inr a : Key) = Sum.inr b) = decide (a = b):=by
 by_cases e : a = b
 ·subst e; simp
 ·have h : ¬ (Sum.inr a : Key) = Sum.inr b:=fun q => e (Sum.inr.inj q)
  rw [decide_eq_false h, decide_eq_false e]
theorem key_lr (a : Int) (b : Str) : decide ((Sum.inl a : Key) = Sum.inr b) = false:=decide_eq_false (fun q => nomatch q)
theorem key_rl (a : Str) (b : Int) : decide ((Sum.inr a : Key) = Sum.inl b) = false:=decide_eq_false (fun q => nomatch q)
noncomputable def mixKind (prog : Program) (w : World) : PySem.KeyKind prog w Key where
 is:=keyIs
 hash:=keyH w
 inj:=fun v a b ha hb => by
  rcases keyIs_shape ha with ⟨i, t, rfl, rfl⟩ | ⟨x, t, rfl, rfl⟩
  ·rcases keyIs_shape hb with ⟨j, u, rfl, e⟩ | ⟨y, u, rfl, e⟩
   ·injection e with e1 _; rw [e1]
   ·exact nomatch e
  ·rcases keyIs_shape hb with ⟨j, u, rfl, e⟩ | ⟨y, u, rfl, e⟩
   ·exact nomatch e
   ·injection e with e1 _; rw [e1]
 byValue:=fun k v h => by
  rcases keyIs_shape h with ⟨i, t, rfl, rfl⟩ | ⟨x, t, rfl, rfl⟩ <;> rfl
 pyHash:=fun hv h => by
  rcases keyIs_shape hv with ⟨i, t, rfl, rfl⟩ | ⟨x, t, rfl, rfl⟩
  ·exact wpAny_pyHash_int h
  ·exact wpAny_pyHash_str h
 eqBool:=fun hu hv h => by
  rcases keyIs_shape hu with ⟨i, t, rfl, rfl⟩ | ⟨x, t, rfl, rfl⟩
  ·rcases keyIs_shape hv with ⟨j, u, rfl, rfl⟩ | ⟨y, u, rfl, rfl⟩
   ·rw [key_ll] at h; exact wpAny_eqBool_int h
   ·rw [key_lr] at h; exact SeqAt.EqAt.int_str i t y u _ _ _ _ h
  ·rcases keyIs_shape hv with ⟨j, u, rfl, rfl⟩ | ⟨y, u, rfl, rfl⟩
   ·rw [key_rl] at h; exact SeqAt.EqAt.str_int x t j u _ _ _ _ h
   ·rw [key_rr] at h; exact wpAny_eqBool_str h
 «strs»:=fun k x t v h => by
  rcases keyIs_shape h with ⟨i, u, rfl, e⟩ | ⟨y, u, rfl, e⟩
  ·exact nomatch e
  ·injection e with e1 _
   subst e1
   cases v <;> rfl
theorem mixKind_int (prog : Program) (w : World) (i : Int) (t : Tok) : (mixKind prog w).is (.inl i) (.int i t) = true:=keyIs_int i t
theorem mixKind_str (prog : Program) (w : World) (x : Str) (t : Tok) : (mixKind prog w).is (.inr x) (.str x t) = true:=keyIs_str x t
end L2
namespace L2
open PySem PySem.Spec PyProof.Rows
inductive V where
 | non | bl (b : Bool) | int (i : Int) | str (x : Str) | byt (b : Array UInt8) | flt (b : UInt64) | ref (a : Addr) | ty (n : String)
 deriving DecidableEq
noncomputable def RelV : V → Value → Prop
 | .non, u => u = Value.none
 | .bl b, u => u = Value.bool b
 | .int i, u => ∃ t, u = Value.int i t
 | .str x, u => ∃ t, u = Value.str x t
 | .byt b, u => ∃ t, u = Value.bytes b t
 | .flt b, u => ∃ t, u = Value.float b t
 | .ref a, u => u = Value.ref a
 | .ty n, u => u = Value.type n
noncomputable abbrev Vals : List V → List Value → Prop:=Paired RelV
theorem Vals.length {xs : List V} {us : List Value} (r : Vals xs us) : xs.length = us.length:=Paired.length r
theorem Vals.get : ∀ {xs : List V} {us : List Value} {i : Nat} {x : V}, Vals xs us → xs[i]? = some x → ∃ u, us[i]? = some u ∧ RelV x u
 | _, _, _, _, .nil, e => by simp at e
 | _, _, 0, _, .cons r _, e => by simp at e; subst e; exact ⟨_, rfl, r⟩
 | _, _, i + 1, x, .cons _ t, e => by
  obtain ⟨u, h1, h2⟩:=Vals.get (i:=i) (x:=x) t (by simpa using e)
  exact ⟨u, by simpa using h1, h2⟩
theorem Vals.set {x : V} {u : Value} (r : RelV x u) : ∀ {xs : List V} {us : List Value} (i : Nat), Vals xs us → Vals (xs.set i x) (us.set i u)
 | _, _, _, .nil => .nil
 | _, _, 0, .cons _ t => .cons r t
 | _, _, i + 1, .cons q t => .cons q (Vals.set r i t)
theorem Vals.append : ∀ {xs ys : List V} {us ws : List Value}, Vals xs us → Vals ys ws → Vals (xs ++ ys) (us ++ ws)
 | _, _, _, _, .nil, s => s
 | _, _, _, _, .cons r t, s => .cons r (Vals.append t s)
theorem Vals.take : ∀ {xs : List V} {us : List Value} (n : Nat), Vals xs us → Vals (xs.take n) (us.take n)
 | _, _, 0, _ => .nil
 | _, _, _ + 1, .nil => .nil
 | _, _, n + 1, .cons r t => .cons r (Vals.take n t)
theorem Vals.drop : ∀ {xs : List V} {us : List Value} (n : Nat), Vals xs us → Vals (xs.drop n) (us.drop n)
 | _, _, 0, r => r
 | _, _, _ + 1, .nil => .nil
 | _, _, n + 1, .cons _ t => Vals.drop n t
noncomputable def RelO : Option V → Option Value → Prop
 | some v, some u => RelV v u
 | none, none => True
 | _, _ => False
noncomputable def KV {κ : Type} : List (κ × V) → List (κ × Value) → Prop:=Paired fun (p : κ × V) (q : κ × Value) => p.1 = q.1 ∧ RelV p.2 q.2
noncomputable def kV : Key → V
 | .inl i => .int i
 | .inr x => .str x
inductive HO where
 /-- a list -/
 | lst (xs : List V)
 /-- a tuple (never changes) -/
 | tup (xs : List V)
 /-- a dict whose keys are ints and texts; one whose keys are tuples of ints and texts (the empty one is both) -/
 | dK (kvs : List (Key × V)) | dT (kvs : List (List Key × V))
 /-- a set of ints: its members, its size -/
 | set (S : Int → Bool) (n : Nat)
 /-- an instance of the class at C, its dict at dx, its attributes -/
 | ins (C dx : Addr) (fs : List (Str × V))
 /-- the dict of the instance at x -/
 | own (x : Addr)
 /-- the dict of an exception -/
 | xd (fs : List (Str × V))
 /-- a bound method, f of x -/
 | met (f x : Addr)
 /-- a range object lo, lo + 1, .. below hi -/
 | rng (lo hi : Int)
 /-- a thing that is known to the object (the script; a dict while a loop walks it): read, never written while it is so -/
 | frz (o : Obj) (u : HO)
 /-- a code object's table -/
 | tbl (ps : Array Value)
 /-- any other thing, by what is true of its one object (a def of one's own: SetO a S n:=HO.ext fun h => ..) -/
 | ext (φ : Heap → Prop)
noncomputable abbrev Hp:=Addr → Option HO
noncomputable def upd (H : Hp) (a : Addr) (o : HO) : Hp:=fun b => if b = a then some o else H b
theorem upd_same {H : Hp} {a : Addr} {o : HO} : upd H a o a = some o:=by unfold upd; rw [if_pos rfl]
theorem upd_ne {H : Hp} {a b : Addr} {o : HO} (h : b ≠ a) : upd H a o b = H b:=by unfold upd; rw [if_neg h]
theorem ne_of {H : Hp} {a b : Addr} {o u : HO} (h : H a = some o) (h' : H b = some u) (d : o ≠ u) : a ≠ b:=by
 intro e; subst e; rw [h] at h'; exact d (Option.some.inj h')
theorem ne_of_none {H : Hp} {a b : Addr} {o : HO} (h : H a = some o) (h' : H b = none) : a ≠ b:=by
 intro e; subst e; rw [h] at h'; cases h'
section
variable (P : Program) (w : World)
noncomputable def ObjOk (H : Hp) (h : Heap) (a : Addr) : HO → Prop
 | .lst xs => xs.length ≤ sizeLine ∧ ∃ (its : List Value) (n : Nat), Vals xs its ∧ h.get? a = some { cls := .type "list", data := .seq its.toArray n }
 | .tup xs => xs.length ≤ sizeLine ∧ ∃ its : List Value, Vals xs its ∧ IsTup h a its.toArray
 | .dK kvs => kvs.length ≤ sizeLine ∧ (a == sysModules) = false ∧ ∃ vs, KV kvs vs ∧ h.DictOf (mixKind P w) a vs
 | .dT kvs => kvs.length ≤ sizeLine ∧ (a == sysModules) = false ∧ ∃ xs : List (List Key × Addr × Value),
   Paired (fun (p : List Key × V) (q : List Key × Addr × Value) => p.1 = q.1 ∧ H q.2.1 = some (.tup (p.1.map kV)) ∧ RelV p.2 q.2.2) kvs xs ∧
   ∃ o es ep, h.get? a = some o ∧ o.ExactDict ∧ o.data = .dict es ep ∧ es.toList = xs.map (entryOfKey (tupleKind (mixKind P w))) ∧ (xs.map (·.1)).Nodup
 | .set S n => h.SetOf (intKind P w) a S n
 | .ins C dx fs => H dx = some (.own a) ∧ fs.length ≤ 1000 ∧ dx ≠ a ∧ h.get? a = some (PySem.W.instObj C dx) ∧
   ∃ mA, h.Ns1 dx mA ∧ (∀ f, RelO (fs.lookup f) (mA f)) ∧ PySem.Within mA (fs.map (·.1))
 | .own _ => ∃ o, h.get? a = some o
 | .xd fs => ∃ mA, h.Ns1 a mA ∧ ∀ f, RelO (fs.lookup f) (mA f)
 | .rng lo hi => ∃ t u v, h.get? a = some { cls := .type "range", data := .fields #[.int lo t, .int hi u, .int 1 v] }
 | .frz o u => h.get? a = some o ∧ ObjOk H h a u
 | .tbl ps => h.get? a = some { cls:=.none, data:=.fields ps }
 | .met f x => h.get? a = some (PySem.W.methodObj (.ref f) (.ref x))
 | .ext φ => φ h ∧ (∃ o, h.get? a = some o) ∧ ∀ h1 h2 : Heap, φ h1 → (∀ o, h1.get? a = some o → h2.get? a = some o) → φ h2
noncomputable def HOk (H : Hp) (h : Heap) : Prop:=∀ a o, H a = some o → ObjOk P w H h a o
end
section
variable {P : Program} {w : World} {H H' : Hp} {h h' : Heap} {a : Addr} {o : HO}
theorem ObjOk.lt (x : ObjOk P w H h a o) : a < h.objs.size:=by
 cases o with
 | lst xs => obtain ⟨_, _, _, _, e⟩:=x; exact Heap.lt_size e
 | tup xs => obtain ⟨_, _, _, p⟩:=x; exact p.lt
 | dK kvs => obtain ⟨_, _, _, _, o, _, _, e, _⟩:=x; exact Heap.lt_size e
 | dT kvs => obtain ⟨_, _, _, _, o, _, _, e, _⟩:=x; exact Heap.lt_size e
 | set S n => obtain ⟨o, _, _, _, e, _⟩:=x; exact Heap.lt_size e
 | ins C dx fs => obtain ⟨_, _, _, e, _⟩:=x; exact Heap.lt_size e
 | own y => obtain ⟨_, e⟩:=x; exact Heap.lt_size e
 | xd fs => obtain ⟨_, ⟨_, _, _, e, _⟩, _⟩:=x; exact Heap.lt_size e
 | rng lo hi => obtain ⟨_, _, _, e⟩:=x; exact Heap.lt_size e
 | frz ob u => obtain ⟨e, _⟩:=x; exact Heap.lt_size e
 | tbl ps => exact Heap.lt_size (show h.get? a = some _ from x)
 | met f y => exact Heap.lt_size (show h.get? a = some _ from x)
 | ext φ => obtain ⟨_, ⟨_, e⟩, _⟩:=x; exact Heap.lt_size e
theorem Paired.mapP {α β : Type} {F G : α → β → Prop} : ∀ {l₁ : List α} {l₂ : List β}, Paired F l₁ l₂ → (∀ a b, F a b → G a b) → Paired G l₁ l₂
 | _, _, .nil, _ => .nil
 | _, _, .cons r t, f => .cons (f _ _ r) (Paired.mapP t f)
theorem ObjOk.stay (x : ObjOk P w H h a o) (k : ∀ b u, (b = a ∨ H b = some (.own a)) → h.get? b = some u → h'.get? b = some u)
  (ho : ∀ b, H b = some (.own a) → H' b = some (.own a)) (ht : ∀ b xs, H b = some (.tup xs) → H' b = some (.tup xs)) : ObjOk P w H' h' a o:=by
 induction o with
 | lst xs => obtain ⟨z, its, n, r, e⟩:=x; exact ⟨z, its, n, r, k _ _ (.inl rfl) e⟩
 | tup xs => obtain ⟨z, its, r, ob, e, c⟩:=x; exact ⟨z, its, r, ob, k _ _ (.inl rfl) e, c⟩
 | dK kvs => obtain ⟨z, y, vs, r, ob, es, ep, e, c⟩:=x; exact ⟨z, y, vs, r, ob, es, ep, k _ _ (.inl rfl) e, c⟩
 | dT kvs =>
  obtain ⟨z, y, xs, r, ob, es, ep, e, c⟩:=x
  exact ⟨z, y, xs, Paired.mapP r fun p q z => ⟨z.1, ht _ _ z.2.1, z.2.2⟩, ob, es, ep, k _ _ (.inl rfl) e, c⟩
 | set S n => obtain ⟨ob, es, ep, t, e, c⟩:=x; exact ⟨ob, es, ep, t, k _ _ (.inl rfl) e, c⟩
 | ins C dx fs =>
  obtain ⟨d, z, ne, e, mA, ⟨od, es, ep, e2, c⟩, r⟩:=x
  exact ⟨ho _ d, z, ne, k _ _ (.inl rfl) e, mA, ⟨od, es, ep, k _ _ (.inr d) e2, c⟩, r⟩
 | own y => obtain ⟨ob, e⟩:=x; exact ⟨ob, k _ _ (.inl rfl) e⟩
 | xd fs => obtain ⟨mA, ⟨od, es, ep, e, c⟩, r⟩:=x; exact ⟨mA, ⟨od, es, ep, k _ _ (.inl rfl) e, c⟩, r⟩
 | rng lo hi => obtain ⟨t, u, v, e⟩:=x; exact ⟨t, u, v, k _ _ (.inl rfl) e⟩
 | frz ob u ih => obtain ⟨e, q⟩:=x; exact ⟨k _ _ (.inl rfl) e, ih q⟩
 | tbl ps =>
  have e : h.get? a = some { cls:=.none, data:=.fields ps }:=x
  show h'.get? a = some { cls:=.none, data:=.fields ps }
  exact k a _ (.inl rfl) e
 | met f y =>
  have e : h.get? a = some (PySem.W.methodObj (.ref f) (.ref y)):=x
  show h'.get? a = some (PySem.W.methodObj (.ref f) (.ref y))
  exact k a _ (.inl rfl) e
 | ext φ => obtain ⟨p, ⟨o, e⟩, st⟩:=x; exact ⟨st _ _ p fun o q => k _ _ (.inl rfl) q, ⟨o, k _ _ (.inl rfl) e⟩, st⟩
theorem HOk.lt (x : HOk P w H h) (e : H a = some o) : a < h.objs.size:=(x a o e).lt
theorem HOk.fresh (x : HOk P w H h) (e : h.objs.size ≤ a) : H a = none:=by
 cases q : H a with
 | none => rfl
 | some u => exact absurd (Nat.lt_of_lt_of_le (x.lt q) e) (Nat.lt_irrefl _)
theorem HOk.kept (x : HOk P w H h) (k : ∀ b u, h.get? b = some u → h'.get? b = some u) : HOk P w H h':=fun a o e =>
 (x a o e).stay (fun b u _ q => k b u q) (fun _ q => q) fun _ _ q => q
theorem HOk.laid (x : HOk P w H h) (k : ∀ b u, h.get? b = some u → h'.get? b = some u) (hp : h.objs.size ≤ a) (new : ObjOk P w (upd H a o) h' a o) : HOk P w (upd H a o) h':=fun b u e => by
 have hn:=x.fresh hp
 by_cases hb : b = a
 ·subst hb; rw [upd_same] at e; cases e; exact new
 ·rw [upd_ne hb] at e
  exact (x b u e).stay (fun c v _ q => k c v q) (fun c q => by rw [upd_ne (ne_of_none q hn)]; exact q) fun c xs q => by rw [upd_ne (ne_of_none q hn)]; exact q
end
noncomputable def Rd (H : Hp) (a : Addr) (u : HO) : Prop:=H a = some u ∨ ∃ o, H a = some (.frz o u)
theorem Rd.ok {P : Program} {w : World} {H : Hp} {h : Heap} {a : Addr} {u : HO} (r : Rd H a u) (x : HOk P w H h) : ObjOk P w H h a u:=by
 rcases r with r | ⟨o, r⟩
 ·exact x a u r
 ·obtain ⟨_, q⟩:=x a _ r
  exact q
noncomputable def Mut : Option HO → Prop
 | some (.lst _) => True
 | some (.dK _) => True
 | some (.dT _) => True
 | some (.set _ _) => True
 | some (.ins _ _ _) => True
 | some (.ext _) => True
 | _ => False
section
variable {P : Program} {w : World} {H : Hp} {h h' : Heap} {x e : Addr} {o' : HO}
theorem HOk.write (ok : HOk P w H h) (mu : Mut (H x)) (he : e = x ∨ H e = some (.own x)) (k : ∀ b u, b ≠ e → h.get? b = some u → h'.get? b = some u) (heo : ∃ u, h'.get? e = some u)
  (new : ObjOk P w (upd H x o') h' x o') : HOk P w (upd H x o') h':=fun b u q => by
 have nown : ∀ c y, H c = some (.own y) → c ≠ x:=fun c y r z => by subst z; rw [r] at mu; exact mu
 have ntup : ∀ c xs, H c = some (.tup xs) → c ≠ x:=fun c xs r z => by subst z; rw [r] at mu; exact mu
 by_cases hb : b = x
 ·subst hb; rw [upd_same] at q; cases q; exact new
 ·rw [upd_ne hb] at q
  by_cases hbe : b = e
  ·have q' : H b = some (.own x):=by
    rcases he with z | z
    ·exact absurd (hbe.trans z) hb
    ·rw [hbe]; exact z
   rw [q] at q'; cases q'
   obtain ⟨v, hv⟩:=heo
   exact ⟨v, by rw [hbe]; exact hv⟩
  ·refine (ok b u q).stay (fun c v hc r => k c v ?_ r) (fun c r => by rw [upd_ne (nown c b r)]; exact r) fun c xs r => by rw [upd_ne (ntup c xs r)]; exact r
   rcases hc with rfl | hc
   ·exact hbe
   ·rintro rfl
    rcases he with z | z
    ·exact nown c b hc z
    ·rw [hc] at z; cases z; exact hb rfl
end
structure Un (fs ex : List Addr) (H H' : Hp) (h h' : Heap) : Prop where
 keep : ∀ b o, h.get? b = some o → H b = none → b ∉ fs → b ∉ ex → h'.get? b = some o
 slot : ∀ b o, h.get? b = some o → H b = none → b ∈ fs → b ∉ ex → ∃ sl, h'.get? b = some { o with slots:=sl }
 free : ∀ b o, h.get? b = some o → H b = none → b ∉ ex → H' b = none
 there : ∀ b o, h.get? b = some o → b ∉ ex → ∃ o', h'.get? b = some o'
 tups : ∀ b xs, H b = some (.tup xs) → H' b = some (.tup xs)
 frzs : ∀ b o u, H b = some (.frz o u) → H' b = some (.frz o u)
 tbls : ∀ b ps, H b = some (.tbl ps) → ∃ more, H' b = some (.tbl (ps ++ more))
section
variable {fs fs' ex ex' : List Addr} {H H1 H2 : Hp} {h h1 h2 h' : Heap} {a x e : Addr} {o : HO}
theorem Un.any (u : Un fs ex H H1 h h1) {b : Addr} {ob : Obj} (q : h.get? b = some ob) (n : H b = none) (hx : b ∉ ex) : ∃ sl, h1.get? b = some { ob with slots:=sl }:=by
 by_cases hb : b ∈ fs
 ·exact u.slot b ob q n hb hx
 ·exact ⟨ob.slots, u.keep b ob q n hb hx⟩
theorem Un.kept (k : ∀ b u, h.get? b = some u → h'.get? b = some u) : Un fs ex H H h h' :=
 ⟨fun b ob q _ _ _ => k b ob q, fun b ob q _ _ _ => ⟨ob.slots, k b ob q⟩, fun _ _ _ n _ => n, fun b ob q _ => ⟨ob, k b ob q⟩, fun _ _ q => q, fun _ _ _ q => q, fun _ ps q => ⟨#[], by rw [q]; simp⟩⟩
theorem Un.refl : Un fs ex H H h h:=Un.kept fun _ _ q => q
theorem Un.laid (k : ∀ b u, h.get? b = some u → h'.get? b = some u) (hp : h.objs.size ≤ a) (hn : H a = none) : Un fs ex H (upd H a o) h h' where
 keep:=fun b u q _ _ _ => k b u q
 slot:=fun b u q _ _ _ => ⟨u.slots, k b u q⟩
 free:=fun b u q n _ => by rw [upd_ne (Nat.ne_of_lt (Nat.lt_of_lt_of_le (Heap.lt_size q) hp))]; exact n
 there:=fun b u q _ => ⟨u, k b u q⟩
 tups:=fun b xs q => by rw [upd_ne (ne_of_none q hn)]; exact q
 frzs:=fun b u xs q => by rw [upd_ne (ne_of_none q hn)]; exact q
 tbls:=fun b ps q => ⟨#[], by rw [upd_ne (ne_of_none q hn), q]; simp⟩
theorem Un.write (mu : Mut (H x)) (he : e = x ∨ H e = some (.own x)) (k : ∀ b u, b ≠ e → h.get? b = some u → h'.get? b = some u) (heo : ∃ u, h'.get? e = some u) : Un fs ex H (upd H x o) h h':=by
 have hx : ∀ b, H b = none → b ≠ x:=fun b n z => by subst z; rw [n] at mu; exact mu
 have hb : ∀ b, H b = none → b ≠ e:=fun b n z => by
  subst z
  rcases he with r | r
  ·exact hx b n r
  ·rw [n] at r; cases r
 have hm : ∀ b u, H b = some u → ¬ Mut (some u) → b ≠ x:=fun b u q nm z => by subst z; rw [q] at mu; exact nm mu
 refine ⟨fun b u q n _ _ => k b u (hb b n) q, fun b u q n _ _ => ⟨u.slots, k b u (hb b n) q⟩, fun b u q n _ => by rw [upd_ne (hx b n)]; exact n, fun b u q _ => ?_,
  fun b xs q => by rw [upd_ne (hm b _ q fun z => z)]; exact q, fun b u xs q => by rw [upd_ne (hm b _ q fun z => z)]; exact q, fun b ps q => ⟨#[], by rw [upd_ne (hm b _ q fun z => z), q]; simp⟩⟩
 by_cases hbe : b = e
 ·subst hbe; exact heo
 ·exact ⟨u, k b u hbe q⟩
end
noncomputable def trk (h : Heap) (H : Hp) : List Addr:=(List.range h.objs.size).filter fun a => (H a).isSome
noncomputable def hidT (h : Heap) (H : Hp) : Heap:=PySem.W.hideAll h (trk h H)
theorem hidT_size (h : Heap) (H : Hp) : (hidT h H).objs.size = h.objs.size:=PySem.W.hideAll_size _ _
theorem hidT_get {h : Heap} {H : Hp} {b : Addr} {o : Obj} (e : h.get? b = some o) (n : H b = none) : (hidT h H).get? b = some o :=
 PySem.W.hideAll_get _ e fun hm => by
  have q : (H b).isSome = true:=(List.mem_filter.mp hm).2
  rw [n] at q; simp at q
theorem of_hidT {h : Heap} {H : Hp} {b : Addr} {o : Obj} (e : (hidT h H).get? b = some o) : h.get? b = some o ∧ H b = none:=by
 have e' : h.get? b = some o:=PySem.W.of_hideAll (trk h H) e
 refine ⟨e', ?_⟩
 cases q : H b with
 | none => rfl
 | some x =>
  have hm : b ∈ trk h H:=List.mem_filter.mpr ⟨List.mem_range.mpr (Heap.lt_size e'), by simp [q]⟩
  have z : (hidT h H).get? b = none:=PySem.W.hideAll_none (trk h H) hm
  rw [z] at e; cases e
noncomputable def allNews (g h : Heap) (L : Addr) : List (Addr × Obj):=(List.range h.objs.size).filterMap fun a => if a = L ∨ (g.get? a).isSome = true then none else (h.get? a).map fun o => (a, o)
noncomputable def rest (g h : Heap) (L d : Addr) : List (Addr × Obj):=(allNews g h L).filter fun p => decide (p.1 ≠ d)
end L2
namespace L2
open PySem PySem.Spec PyProof.Rows
structure Mod (K : PySem.W.Frag) (mg : Str → Option Value) (base : Heap) : Prop where
 kin : K.In base
 glob : base.Ns mainGlobals mg
 blt : ∃ mb, base.Ns builtinsNs mb ∧ ∀ x : Str, x ≠ "__name__" → mb x = bootBuiltins x
 nolimit : base.NoLimit
structure Cx where
 prog : Program
 w : World
 K : PySem.W.Frag
 mg : Str → Option Value
 base : Heap
 A : Around
 N : List Str
 s₀ : Shared
 H₀ : Hp
 env : Env
 outer : List Env
 stack : List Env
 ex : List Addr
 fn : Str → Bool
 calm : Bool
 pn : List (Addr × Obj)
 xe : Value → Shared → Prop
noncomputable def frs (l : List Env) : List Addr:=l.filterMap (·.frame)
noncomputable abbrev Cx.fs (X : Cx) : List Addr:=frs X.outer
noncomputable def Vis (sc : Scope) (x : Str) : Prop:=sc.names.lookup x = some .local ∨ sc.names.lookup x = some .cell ∨ sc.names.lookup x = some .free
noncomputable def Loc (sc : Scope) (x : Str) : Prop:=sc.names.lookup x = some .local ∨ sc.names.lookup x = some .cell
noncomputable def Look (env : Env) (h : Heap) (m : Str → Option Value) (x : Str) (u : Value) : Prop :=
 (env.kindOf x = some .local ∧ m x = some u) ∨ ((env.kindOf x = some .cell ∨ env.kindOf x = some .free) ∧ ∃ c, env.cells.lookup x = some c ∧ h.IsCell c (some u))
structure Cx.Ok (X : Cx) : Prop where
 mod : Mod X.K X.mg X.base
 kind : X.env.scope.kind = .function
 glob : X.env.globals = mainGlobals
 blt : X.env.builtins = builtinsNs
 above : X.s₀.heap.objs.size ≤ X.env.locals
 inj : ∀ x y c, X.env.cells.lookup x = some c → X.env.cells.lookup y = some c → x = y
 has : ∀ x, (X.env.kindOf x = some .cell ∨ X.env.kindOf x = some .free) → ∃ c, X.env.cells.lookup x = some c
 cab : ∀ x c, X.fn x = true → X.env.cells.lookup x = some c → X.s₀.heap.objs.size ≤ c
 hd : X.calm = true → X.A.handled = none
 frames : X.A.frames = some X.stack
 stk : X.stack = X.outer ∨ (X.stack = X.env :: X.outer ∧ X.env.frame = some X.env.locals)
 exf : ∀ b ∈ X.ex, b ≠ X.env.locals ∧ ∀ x c, X.env.cells.lookup x = some c → c ≠ b
 bs : ∀ b o, X.base.get? b = some o → X.s₀.heap.get? b = some o ∧ X.H₀ b = none
 bsz : X.base.objs.size ≤ X.s₀.heap.objs.size
 noex : ∀ b o, X.base.get? b = some o → b ∉ X.ex
 exfs : ∀ b ∈ X.ex, b ∉ X.fs
 funs : X.s₀.heap.FunFrames X.base X.outer
 frf : ∀ b ∈ X.fs, X.H₀ b = none
structure Inv (X : Cx) (pins : List (Addr × Obj)) (σ : List (Option V)) (H : Hp) (s : Shared) : Prop where
 ok : X.Ok
 os : s.os = X.s₀.os
 bare : AllBare s.gens
 base : Un X.fs X.ex X.H₀ H X.s₀.heap s.heap
 loc : ∃ m, s.heap.Ns X.env.locals m ∧ ∀ (i : Nat) (x : Str) (v : V), X.N[i]? = some x → σ[i]? = some (some v) → Vis X.env.scope x → ∃ u, RelV v u ∧ Look X.env s.heap m x u
 cell : ∀ x c, X.env.cells.lookup x = some c → ∃ v, s.heap.IsCell c v
 free : H X.env.locals = none
 freeC : ∀ x c, X.env.cells.lookup x = some c → H c = none
 pin : ∀ p ∈ X.pn ++ pins, s.heap.get? p.1 = some p.2 ∧ H p.1 = none ∧ p.1 ≠ X.env.locals ∧ p.1 ∉ X.fs ∧ ∀ v, p.2.data ≠ .cell v
 hok : HOk X.prog X.w H s.heap
 len : σ.length = X.N.length
section
variable {X : Cx} {pins : List (Addr × Obj)} {σ : List (Option V)} {H H' : Hp} {s : Shared} {h' : Heap}
theorem Cx.Ok.nofr (ok : X.Ok) {b : Addr} {o : Obj} (e : X.base.get? b = some o) : b ∉ X.fs:=fun hb => by
 have:=(ok.funs.mem hb).1
 rw [e] at this; cases this
theorem Inv.bs (I : Inv X pins σ H s) : ∀ b o, X.base.get? b = some o → s.heap.get? b = some o ∧ H b = none:=fun b o e =>
 ⟨I.base.keep b o (I.ok.bs b o e).1 (I.ok.bs b o e).2 (I.ok.nofr e) (I.ok.noex b o e), I.base.free b o (I.ok.bs b o e).1 (I.ok.bs b o e).2 (I.ok.noex b o e)⟩
theorem Inv.bk (I : Inv X pins σ H s) : ∀ b o, X.base.get? b = some o → s.heap.get? b = some o:=fun b o e => (I.bs b o e).1
theorem Inv.mod (I : Inv X pins σ H s) : Mod X.K X.mg X.base:=I.ok.mod
theorem Inv.kIn (I : Inv X pins σ H s) : X.K.In s.heap:=I.ok.mod.kin.keeps I.bk
theorem Inv.lt (I : Inv X pins σ H s) : X.env.locals < s.heap.objs.size:=let ⟨_, hn, _⟩:=I.loc; hn.lt
theorem Inv.sz (I : Inv X pins σ H s) : X.s₀.heap.objs.size ≤ s.heap.objs.size:=Nat.le_trans I.ok.above (Nat.le_of_lt I.lt)
theorem Inv.nofs (I : Inv X pins σ H s) {a : Addr} (h : s.heap.objs.size ≤ a) : a ∉ X.fs:=fun hb => by
 obtain ⟨_, o, ho, _⟩:=I.ok.funs.mem hb
 exact absurd (Nat.lt_of_lt_of_le (Heap.lt_size ho) (Nat.le_trans I.sz h)) (Nat.lt_irrefl _)
theorem Inv.cne (I : Inv X pins σ H s) : ∀ x c, X.env.cells.lookup x = some c → c ≠ X.env.locals:=fun x c e z => by
 obtain ⟨v, o, ho, hd⟩:=I.cell x c e
 obtain ⟨m, ⟨o', es, ep, ho', hd', _⟩, _⟩:=I.loc
 rw [z, ho'] at ho; cases ho; rw [hd'] at hd; cases hd
theorem Inv.funs (I : Inv X pins σ H s) : s.heap.FunFrames X.base X.outer:=by
 have all : ∀ (l : List Env), (∀ b ∈ frs l, b ∈ X.fs) → X.s₀.heap.FunFrames X.base l → s.heap.FunFrames X.base l:=by
  intro l
  induction l with
  | nil => intro _ _; trivial
  | cons env r ih =>
   intro hs hl
   obtain ⟨hk, ⟨L, o, hf, hn, ho, hd⟩, hr⟩:=hl
   have hL : L ∈ X.fs:=hs L (by unfold frs; rw [List.filterMap_cons, hf]; exact List.mem_cons_self)
   obtain ⟨sl, e⟩:=I.base.slot L o ho (I.ok.frf L hL) hL fun z => I.ok.exfs L z hL
   exact ⟨hk, ⟨L, _, hf, hn, e, hd⟩, ih (fun b hb => hs b (by unfold frs; rw [List.filterMap_cons, hf]; exact List.mem_cons_of_mem _ hb)) hr⟩
 exact all X.outer (fun _ hb => hb) I.ok.funs
theorem Inv.stack (I : Inv X pins σ H s) : s.heap.FunFrames X.base X.stack:=by
 rcases I.ok.stk with e | ⟨e, hf⟩
 ·rw [e]; exact I.funs
 ·rw [e]
  obtain ⟨m, hn, _⟩:=I.loc
  refine .cons (by rw [I.ok.kind]; decide) hf hn ?_ I.funs
  exact Heap.get?_none_of_le (Nat.le_trans I.ok.bsz I.ok.above)
theorem Inv.stkSub (I : Inv X pins σ H s) : ∀ b ∈ frs X.stack, b ∈ X.env.locals :: X.fs:=fun b hb => by
 rcases I.ok.stk with e | ⟨e, hf⟩
 ·rw [e] at hb; exact List.mem_cons_of_mem _ hb
 ·rw [e] at hb
  unfold frs at hb
  rw [List.filterMap_cons, hf] at hb
  exact hb
theorem Inv.stkFree (I : Inv X pins σ H s) : ∀ b ∈ frs X.stack, H b = none:=fun b hb => by
 rcases List.mem_cons.mp (I.stkSub b hb) with e | hb
 ·rw [e]; exact I.free
 ·obtain ⟨_, o, ho, _⟩:=I.ok.funs.mem hb
  exact I.base.free b o ho (I.ok.frf b hb) fun z => I.ok.exfs b z hb
theorem Inv.step {g' : Array GenState} {t' : Nat} {d' : Drawn} {ch : List Addr} (I : Inv X pins σ H s)
  (hch : ∀ b ∈ ch, (b ∈ X.ex ∨ X.s₀.heap.objs.size ≤ b) ∧ b ≠ X.env.locals ∧ (∀ x c, X.env.cells.lookup x = some c → c ≠ b) ∧ ∀ p ∈ X.pn ++ pins, p.1 ≠ b)
  (keep : ∀ b o, b ≠ X.env.locals → b ∉ X.fs → b ∉ ch → s.heap.get? b = some o → H b = none → h'.get? b = some o)
  (slot : ∀ b o, b ≠ X.env.locals → b ∈ X.fs → b ∉ ch → s.heap.get? b = some o → H b = none → ∃ sl, h'.get? b = some { o with slots:=sl }) (free : ∀ b o, b ∉ ch → s.heap.get? b = some o → H b = none → H' b = none)
  (there : ∀ b o, b ∉ ch → s.heap.get? b = some o → ∃ o', h'.get? b = some o')
  (tups : ∀ b xs, H b = some (.tup xs) → H' b = some (.tup xs)) (frzs : ∀ b o u, H b = some (.frz o u) → H' b = some (.frz o u)) (tbls : ∀ b ps, H b = some (.tbl ps) → ∃ more, H' b = some (.tbl (ps ++ more)))
  (ns : ∀ m, s.heap.Ns X.env.locals m → h'.Ns X.env.locals m) (hok : HOk X.prog X.w H' h') (hg : AllBare g') :
  Inv X pins σ H' { s with heap:=h', gens:=g', drawn:=d', toks:=t' }:=by
 have neL : ∀ b o, X.s₀.heap.get? b = some o → b ≠ X.env.locals:=fun b o e => Nat.ne_of_lt (Nat.lt_of_lt_of_le (Heap.lt_size e) I.ok.above)
 have neC : ∀ b o, X.s₀.heap.get? b = some o → b ∉ X.ex → b ∉ ch:=fun b o e hx hb => by
  rcases (hch b hb).1 with z | z
  ·exact hx z
  ·exact absurd (Nat.lt_of_lt_of_le (Heap.lt_size e) z) (Nat.lt_irrefl _)
 have cellK : ∀ x c, X.env.cells.lookup x = some c → ∀ v, s.heap.IsCell c v → h'.IsCell c v:=fun x c e v ⟨o, ho, hd⟩ => by
  have nch : c ∉ ch:=fun z => (hch c z).2.2.1 x c e rfl
  by_cases hc : c ∈ X.fs
  ·obtain ⟨sl, q⟩:=slot c o (I.cne x c e) hc nch ho (I.freeC x c e)
   exact ⟨_, q, hd⟩
  ·exact ⟨o, keep c o (I.cne x c e) hc nch ho (I.freeC x c e), hd⟩
 refine ⟨I.ok, I.os, hg, ⟨fun b o e n hb hx => ?_, fun b o e n hb hx => ?_, fun b o e n hx => ?_, fun b o e hx => ?_, fun b xs e => tups b xs (I.base.tups b xs e), fun b o xs e => frzs b o xs (I.base.frzs b o xs e), fun b ps e => ?_⟩, ?_, fun x c e => ?_, ?_, fun x c e => ?_, fun p hp => ?_, hok, I.len⟩
 ·exact keep b o (neL b o e) hb (neC b o e hx) (I.base.keep b o e n hb hx) (I.base.free b o e n hx)
 ·obtain ⟨sl, e1⟩:=I.base.slot b o e n hb hx
  obtain ⟨sl', e2⟩:=slot b _ (neL b o e) hb (neC b o e hx) e1 (I.base.free b o e n hx)
  exact ⟨sl', e2⟩
 ·obtain ⟨o', e1⟩:=I.base.there b o e hx
  exact free b o' (neC b o e hx) e1 (I.base.free b o e n hx)
 ·obtain ⟨o', e1⟩:=I.base.there b o e hx
  exact there b o' (neC b o e hx) e1
 ·obtain ⟨m1, e1⟩:=I.base.tbls b ps e
  obtain ⟨m2, e2⟩:=tbls b _ e1
  exact ⟨m1 ++ m2, by rw [e2, Array.append_assoc]⟩
 ·obtain ⟨m, hn, hl⟩:=I.loc
  refine ⟨m, ns m hn, fun i x v e1 e2 e3 => ?_⟩
  obtain ⟨u, r, l⟩:=hl i x v e1 e2 e3
  refine ⟨u, r, ?_⟩
  rcases l with l | ⟨k, c, e, z⟩
  ·exact .inl l
  ·exact .inr ⟨k, c, e, cellK x c e _ z⟩
 ·obtain ⟨v, z⟩:=I.cell x c e
  exact ⟨v, cellK x c e v z⟩
 ·obtain ⟨m, ⟨o, _, _, ho, _⟩, _⟩:=I.loc
  exact free _ o (fun z => (hch _ z).2.1 rfl) ho I.free
 ·obtain ⟨v, o, ho, hd⟩:=I.cell x c e
  exact free c o (fun z => (hch c z).2.2.1 x c e rfl) ho (I.freeC x c e)
 ·obtain ⟨e, n, ne, nf, d⟩:=I.pin p hp
  have nch : p.1 ∉ ch:=fun z => (hch p.1 z).2.2.2 p hp rfl
  exact ⟨keep p.1 p.2 ne nf nch e n, free p.1 p.2 nch e n, ne, nf, d⟩
theorem Inv.un {t' : Nat} (I : Inv X pins σ H s) (u : Un X.fs [] H H' s.heap h') (hok : HOk X.prog X.w H' h') : Inv X pins σ H' { s with heap:=h', toks:=t' }:=by
 obtain ⟨m, ⟨o, es, ep, ho, r⟩, _⟩:=id I.loc
 obtain ⟨sl, hL⟩:=u.any ho I.free (by simp)
 exact I.step (g':=s.gens) (d':=s.drawn) (ch:=[]) (fun _ z => nomatch z) (fun b o _ hb _ e n => u.keep b o e n hb (by simp)) (fun b o _ hb _ e n => u.slot b o e n hb (by simp)) (fun b o _ e n => u.free b o e n (by simp)) (fun b o _ e => u.there b o e (by simp)) u.tups u.frzs u.tbls (fun m' hm => by
  obtain ⟨o', es', ep', ho', r'⟩:=hm
  rw [ho] at ho'; cases ho'
  exact ⟨_, es', ep', hL, r'⟩) hok I.bare
theorem Inv.call {g' : Array GenState} {t' : Nat} {d' : Drawn} {ch : List Addr} (I : Inv X pins σ H s) (u : Un (frs X.stack) ch H H' s.heap h') (hok : HOk X.prog X.w H' h') (hg : AllBare g')
  (hch : ∀ b ∈ ch, (b ∈ X.ex ∨ X.s₀.heap.objs.size ≤ b) ∧ b ≠ X.env.locals ∧ (∀ x c, X.env.cells.lookup x = some c → c ≠ b) ∧ ∀ p ∈ X.pn ++ pins, p.1 ≠ b) :
  Inv X pins σ H' { s with heap:=h', gens:=g', drawn:=d', toks:=t' }:=by
 obtain ⟨m, ⟨o, es, ep, ho, r⟩, _⟩:=id I.loc
 obtain ⟨sl, hL⟩:=u.any ho I.free fun z => (hch _ z).2.1 rfl
 exact I.step (ch:=ch) hch (fun b o hL hb hc e n => u.keep b o e n (fun z => (List.mem_cons.mp (I.stkSub b z)).elim hL hb) hc) (fun b o _ _ hc e n => u.any e n hc) (fun b o hc e n => u.free b o e n hc) (fun b o hc e => u.there b o e hc) u.tups u.frzs u.tbls (fun m' hm => by
  obtain ⟨o', es', ep', ho', r'⟩:=hm
  rw [ho] at ho'; cases ho'
  exact ⟨_, es', ep', hL, r'⟩) hok hg
theorem Inv.turned {t' : Nat} {it : Addr} (I : Inv X pins σ H s) (k : ∀ b o, b ≠ it → s.heap.get? b = some o → h'.get? b = some o) (hn : H it = none) (hL : it ≠ X.env.locals)
  (h1 : it ∈ X.ex ∨ X.s₀.heap.objs.size ≤ it) (h2 : ∀ x c, X.env.cells.lookup x = some c → c ≠ it) (h3 : ∀ p ∈ X.pn ++ pins, p.1 ≠ it) : Inv X pins σ H { s with heap:=h', toks:=t' }:=by
 have nit : ∀ b u, H b = some u → b ≠ it:=fun b u e z => by rw [z, hn] at e; cases e
 refine I.step (g':=s.gens) (d':=s.drawn) (ch:=[it]) (fun b hb => ?_) (fun b o _ _ hc e _ => k b o (fun z => hc (by simp [z])) e) (fun b o _ _ hc e _ => ⟨o.slots, k b o (fun z => hc (by simp [z])) e⟩) (fun _ _ _ _ n => n)
  (fun b o hc e => ⟨o, k b o (fun z => hc (by simp [z])) e⟩) (fun _ _ e => e) (fun _ _ _ e => e) (fun b ps e => ⟨#[], by rw [e]; simp⟩) (fun m hm => ?_) (fun b u e => ?_) I.bare
 ·have e : b = it:=by simpa using hb
  subst e
  exact ⟨h1, hL, h2, h3⟩
 ·obtain ⟨o, es, ep, ho, r⟩:=hm
  exact ⟨o, es, ep, k _ o (Ne.symm hL) ho, r⟩
 ·refine (I.hok b u e).stay (fun c v hc q => k c v ?_ q) (fun _ q => q) fun _ _ q => q
  rcases hc with z | z
  ·rw [z]; exact nit b u e
  ·exact nit c _ z
theorem Inv.tok (I : Inv X pins σ H s) (t : Nat) : Inv X pins σ H { s with toks:=t }:=I.un (h':=s.heap) (t':=t) Un.refl I.hok
theorem Inv.kept {t' : Nat} (I : Inv X pins σ H s) (k : ∀ b u, s.heap.get? b = some u → h'.get? b = some u) : Inv X pins σ H { s with heap:=h', toks:=t' }:=I.un (Un.kept k) (I.hok.kept k)
theorem Inv.laid {a : Addr} {o : HO} {t' : Nat} (I : Inv X pins σ H s) (k : ∀ b u, s.heap.get? b = some u → h'.get? b = some u) (hp : s.heap.objs.size ≤ a) (new : ObjOk X.prog X.w (upd H a o) h' a o) :
  Inv X pins σ (upd H a o) { s with heap:=h', toks:=t' }:=I.un (Un.laid k hp (I.hok.fresh hp)) (I.hok.laid k hp new)
theorem Inv.write {x e : Addr} {o : HO} {t' : Nat} (I : Inv X pins σ H s) (mu : Mut (H x)) (he : e = x ∨ H e = some (.own x)) (k : ∀ b u, b ≠ e → s.heap.get? b = some u → h'.get? b = some u) (heo : ∃ u, h'.get? e = some u)
  (new : ObjOk X.prog X.w (upd H x o) h' x o) : Inv X pins σ (upd H x o) { s with heap:=h', toks:=t' }:=I.un (Un.write mu he k heo) (I.hok.write mu he k heo new)
theorem Inv.pins_of {pins' : List (Addr × Obj)} (I : Inv X pins σ H s) (h : ∀ p ∈ pins', s.heap.get? p.1 = some p.2 ∧ H p.1 = none ∧ p.1 ≠ X.env.locals ∧ p.1 ∉ X.fs ∧ ∀ v, p.2.data ≠ .cell v) : Inv X pins' σ H s :=
 ⟨I.ok, I.os, I.bare, I.base, I.loc, I.cell, I.free, I.freeC, fun p hp => (List.mem_append.mp hp).elim (fun z => I.pin p (List.mem_append_left _ z)) (h p), I.hok, I.len⟩
theorem nodup_ix {N : List Str} (hN : N.Nodup) {i j : Nat} {x : Str} (a : N[i]? = some x) (b : N[j]? = some x) : i = j:=by
 obtain ⟨h1, e1⟩:=List.getElem?_eq_some_iff.mp a
 obtain ⟨h2, e2⟩:=List.getElem?_eq_some_iff.mp b
 exact (List.getElem_inj hN).mp (e1.trans e2.symm)
theorem store_ok2 {M : Model} {A : Around} {E : Value → Shared → Prop} {i : Nat} {x : Str} {v : V} {u : Value} {Q : Unit → Shared → Prop} (I : Inv X pins σ H s) (hN : X.N.Nodup) (hi : X.N[i]? = some x) (hx : Loc X.env.scope x) (r : RelV v u)
  (h : ∀ s', Inv X pins (σ.set i (some v)) H s' → (∃ a, Heap.SameBut a s.heap s'.heap ∧ (a = X.env.locals ∨ X.env.cells.lookup x = some a)) → Q () s') (hf : X.fn x = true ∨ X.env.scope.names.lookup x = some .local:=by first | exact .inl rfl | exact .inr rfl | assumption) : wpAny M A (storeName X.env x u) Q E s:=by
 obtain ⟨m, hn, hl⟩:=id I.loc
 have hcls : (X.env.scope.kind == .class || (X.env.scope.kind == .module && X.env.locals != X.env.globals)) = false:=by rw [I.ok.kind]; rfl
 have hiσ : i < σ.length:=by rw [I.len]; exact (List.getElem?_eq_some_iff.mp hi).1
 have cne:=I.cne
 have tracked : ∀ {a : Addr} {h' : Heap}, (∃ o, s.heap.get? a = some o ∧ H a = none) → Heap.SameBut a s.heap h' → HOk X.prog X.w H h':=fun {a h'} ha hs b ob e => by
  obtain ⟨_, _, hfree⟩:=ha
  refine (I.hok b ob e).stay (fun c w' hc q => (hs.2 c ?_).trans q) (fun _ q => q) fun _ _ q => q
  rintro rfl
  rcases hc with rfl | hc
  ·rw [hfree] at e; cases e
  ·rw [hfree] at hc; cases hc
 rcases hx with hk | hk
 ·refine wpAny_storeName_local hk hn (fun h' hn' hs => ?_) hcls
  obtain ⟨oL, _, _, hoL, _⟩:=id hn
  refine h _ ⟨I.ok, I.os, I.bare, ⟨fun b o e n hb hx => ?_, fun b o e n hb hx => ?_, I.base.free, fun b o e hx => ?_, I.base.tups, I.base.frzs, I.base.tbls⟩, ⟨_, hn', fun j y v' e1 e2 e3 => ?_⟩, fun y c e => ?_, I.free, I.freeC, fun p hp => ?_, tracked ⟨oL, hoL, I.free⟩ hs, by simpa using I.len⟩ ⟨_, hs, .inl rfl⟩
  ·exact (hs.2 b (Nat.ne_of_lt (Nat.lt_of_lt_of_le (Heap.lt_size e) I.ok.above))).trans (I.base.keep b o e n hb hx)
  ·obtain ⟨sl, e1⟩:=I.base.slot b o e n hb hx
   exact ⟨sl, (hs.2 b (Nat.ne_of_lt (Nat.lt_of_lt_of_le (Heap.lt_size e) I.ok.above))).trans e1⟩
  ·obtain ⟨o', e1⟩:=I.base.there b o e hx
   exact ⟨o', (hs.2 b (Nat.ne_of_lt (Nat.lt_of_lt_of_le (Heap.lt_size e) I.ok.above))).trans e1⟩
  ·by_cases hj : j = i
   ·subst hj
    rw [hi] at e1; cases e1
    rw [List.getElem?_set_self hiσ] at e2
    cases e2
    exact ⟨u, r, .inl ⟨hk, by simp⟩⟩
   ·rw [List.getElem?_set_ne (Ne.symm hj)] at e2
    obtain ⟨u', r', q⟩:=hl j y v' e1 e2 e3
    refine ⟨u', r', ?_⟩
    rcases q with ⟨k, e⟩ | ⟨k, c, e, z⟩
    ·refine .inl ⟨k, ?_⟩
     have : y ≠ x:=fun e => hj (nodup_ix hN e1 (e ▸ hi))
     simp [this, e]
    ·exact .inr ⟨k, c, e, z.sameBut hs (cne y c e)⟩
  ·obtain ⟨w', z⟩:=I.cell y c e
   exact ⟨w', z.sameBut hs (cne y c e)⟩
  ·obtain ⟨e, n, ne, nf, d⟩:=I.pin p hp
   exact ⟨(hs.2 p.1 ne).trans e, n, ne, nf, d⟩
 ·have hfn : X.fn x = true:=by
   rcases hf with z | z
   ·exact z
   ·rw [z] at hk; cases hk
  obtain ⟨c, hc⟩:=I.ok.has x (.inl hk)
  obtain ⟨w', z⟩:=I.cell x c hc
  refine wpAny_storeName_cell I.ok.kind hk hc z (fun h' hc' hs => ?_)
  obtain ⟨oc, hoc, hocd⟩:=id z
  refine h { s with heap:=h' } ⟨I.ok, I.os, I.bare, ⟨fun b o e n hb hx => ?_, fun b o e n hb hx => ?_, I.base.free, fun b o e hx => ?_, I.base.tups, I.base.frzs, I.base.tbls⟩, ⟨m, hn.sameBut hs (Ne.symm (cne x c hc)), fun j y v' e1 e2 e3 => ?_⟩, fun y c' e => ?_, I.free, I.freeC, fun p hp => ?_, tracked ⟨oc, hoc, I.freeC x c hc⟩ hs, by simpa using I.len⟩ ⟨c, hs, .inr hc⟩
  ·exact (hs.2 b (Nat.ne_of_lt (Nat.lt_of_lt_of_le (Heap.lt_size e) (I.ok.cab x c hfn hc)))).trans (I.base.keep b o e n hb hx)
  ·obtain ⟨sl, e1⟩:=I.base.slot b o e n hb hx
   exact ⟨sl, (hs.2 b (Nat.ne_of_lt (Nat.lt_of_lt_of_le (Heap.lt_size e) (I.ok.cab x c hfn hc)))).trans e1⟩
  ·obtain ⟨o', e1⟩:=I.base.there b o e hx
   exact ⟨o', (hs.2 b (Nat.ne_of_lt (Nat.lt_of_lt_of_le (Heap.lt_size e) (I.ok.cab x c hfn hc)))).trans e1⟩
  ·by_cases hj : j = i
   ·subst hj
    rw [hi] at e1; cases e1
    rw [List.getElem?_set_self hiσ] at e2
    cases e2
    exact ⟨u, r, .inr ⟨.inl hk, c, hc, hc'⟩⟩
   ·rw [List.getElem?_set_ne (Ne.symm hj)] at e2
    obtain ⟨u', r', q⟩:=hl j y v' e1 e2 e3
    refine ⟨u', r', ?_⟩
    rcases q with q | ⟨k, c', e, z'⟩
    ·exact .inl q
    ·refine .inr ⟨k, c', e, z'.sameBut hs ?_⟩
     rintro rfl
     exact hj (nodup_ix hN e1 (I.ok.inj _ _ _ e hc ▸ hi))
  ·by_cases hcc : c' = c
   ·subst hcc; exact ⟨_, hc'⟩
   ·obtain ⟨w2, z2⟩:=I.cell y c' e
    exact ⟨w2, z2.sameBut hs hcc⟩
  ·obtain ⟨e, n, ne, nf, d⟩:=I.pin p hp
   refine ⟨(hs.2 p.1 ?_).trans e, n, ne, nf, d⟩
   intro q
   rw [q, hoc] at e
   have q' : oc = p.2:=Option.some.inj e
   exact d w' (by rw [← q']; exact hocd)
theorem store_ok {M : Model} {A : Around} {E : Value → Shared → Prop} {i : Nat} {x : Str} {v : V} {u : Value} {Q : Unit → Shared → Prop} (I : Inv X pins σ H s) (hN : X.N.Nodup) (hi : X.N[i]? = some x) (hx : Loc X.env.scope x) (r : RelV v u)
  (h : ∀ s', Inv X pins (σ.set i (some v)) H s' → Q () s') (hf : X.fn x = true ∨ X.env.scope.names.lookup x = some .local:=by first | exact .inl rfl | exact .inr rfl | assumption) : wpAny M A (storeName X.env x u) Q E s :=
 store_ok2 I hN hi hx r (fun s' I' _ => h s' I') hf
theorem Inv.call' {s' : Shared} {ch : List Addr} (I : Inv X pins σ H s) (ho : s'.os = s.os) (u : Un (frs X.stack) ch H H' s.heap s'.heap) (hok : HOk X.prog X.w H' s'.heap) (hg : AllBare s'.gens)
  (hch : ∀ b ∈ ch, (b ∈ X.ex ∨ X.s₀.heap.objs.size ≤ b) ∧ b ≠ X.env.locals ∧ (∀ x c, X.env.cells.lookup x = some c → c ≠ b) ∧ ∀ p ∈ X.pn ++ pins, p.1 ≠ b) : Inv X pins σ H' s':=by
 obtain ⟨h', g', d', t', o'⟩:=s'
 have e : o' = s.os:=ho
 subst e
 exact I.call (g':=g') (t':=t') (d':=d') u hok hg hch
end
noncomputable abbrev XK:=Value → Option Addr → Hp → Prop
noncomputable abbrev St:=List (Option V)
noncomputable abbrev VK:=V → Hp → Prop
noncomputable abbrev TE:=St → Hp → VK → Prop
noncomputable abbrev TT:=St → Hp → (Bool → Hp → Prop) → Prop
noncomputable abbrev TA:=St → Hp → (List V → Hp → Prop) → Prop
structure Ends where
 nx : St → Hp → Prop
 rt : VK
 bk : St → Hp → Prop:=fun _ _ => False
 ct : St → Hp → Prop:=fun _ _ => False
noncomputable abbrev TS:=Ends → St → Hp → Prop
noncomputable def EP (X : Cx) (pins : List (Addr × Obj)) (σ : St) (Q : VK) (u : Value) (s' : Shared) : Prop:=∃ v H', Inv X pins σ H' s' ∧ RelV v u ∧ Q v H'
noncomputable def TP (X : Cx) (pins : List (Addr × Obj)) (σ : St) (Q : Bool → Hp → Prop) (b : Bool) (s' : Shared) : Prop:=∃ H', Inv X pins σ H' s' ∧ Q b H'
noncomputable def AP (X : Cx) (pins : List (Addr × Obj)) (σ : St) (Q : List V → Hp → Prop) (us : List Value) (s' : Shared) : Prop:=∃ vs H', Inv X pins σ H' s' ∧ Vals vs us ∧ Q vs H'
noncomputable def SP (X : Cx) (pins : List (Addr × Obj)) (D : Ends) (f : Flow) (s' : Shared) : Prop :=
 match f with
 | .next => ∃ σ' H', Inv X pins σ' H' s' ∧ D.nx σ' H'
 | .brk => ∃ σ' H', Inv X pins σ' H' s' ∧ D.bk σ' H'
 | .cont => ∃ σ' H', Inv X pins σ' H' s' ∧ D.ct σ' H'
 | .ret u => ∃ v σ' H', Inv X pins σ' H' s' ∧ RelV v u ∧ D.rt v H'
noncomputable def PE (X : Cx) (e : Expr) (t : TE) : Prop :=
 ∀ (pins : List (Addr × Obj)) (s : Shared) (σ : St) (H : Hp) (Q : VK), Inv X pins σ H s → t σ H Q → wpAny (model X.prog X.w) X.A (eval e X.env) (EP X pins σ Q) X.xe s
noncomputable def PT (X : Cx) (e : Expr) (t : TT) : Prop :=
 ∀ (pins : List (Addr × Obj)) (s : Shared) (σ : St) (H : Hp) (Q : Bool → Hp → Prop), Inv X pins σ H s → t σ H Q → wpAny (model X.prog X.w) X.A (isTrue e X.env (eval e X.env)) (TP X pins σ Q) X.xe s
noncomputable def PW (X : Cx) (e : Expr) (t : TT) : Prop :=
 ∀ (whole : Sem Value) (pins : List (Addr × Obj)) (s : Shared) (σ : St) (H : Hp) (Q : Bool → Hp → Prop), Inv X pins σ H s → t σ H Q → wpAny (model X.prog X.w) X.A (isTrue e X.env whole) (TP X pins σ Q) X.xe s
theorem PW.pt {X : Cx} {e : Expr} {t : TT} (h : PW X e t) : PT X e t:=h _
noncomputable def PA (X : Cx) (es : List Expr) (t : TA) : Prop :=
 ∀ (pos : Pos) (pins : List (Addr × Obj)) (s : Shared) (σ : St) (H : Hp) (Q : List V → Hp → Prop), Inv X pins σ H s → t σ H Q → wpAny (model X.prog X.w) X.A (spliced (backTo pos (starEach es X.env))) (AP X pins σ Q) X.xe s
noncomputable def PS (X : Cx) (st : Stmt) (t : TS) : Prop :=
 ∀ (pins : List (Addr × Obj)) (s : Shared) (σ : St) (H : Hp) (D : Ends), Inv X pins σ H s → t D σ H → wpAny (model X.prog X.w) X.A (exec st X.env) (SP X pins D) X.xe s
noncomputable def PSs (X : Cx) (st : List Stmt) (t : TS) : Prop :=
 ∀ (pins : List (Addr × Obj)) (s : Shared) (σ : St) (H : Hp) (D : Ends), Inv X pins σ H s → t D σ H → wpAny (model X.prog X.w) X.A (execs st X.env) (SP X pins D) X.xe s
theorem thn {α : Type} {t : Sem α} {Q Q' : α → Shared → Prop} {M : Model} {A : Around} {E : Value → Shared → Prop} {s : Shared} (h : wpAny M A t Q E s) (hQ : ∀ a s, Q a s → Q' a s) : wpAny M A t Q' E s:=wpAny_mono h hQ fun _ _ x => x
end L2
namespace L2
open PySem PySem.Spec PyProof.Rows
section
variable {X : Cx}
noncomputable def tVar (i : Nat) : TE:=fun σ H Q => ∃ v, σ[i]? = some (some v) ∧ Q v H
noncomputable def tC (v : V) : TE:=fun _ H Q => Q v H
theorem pe_var {i : Nat} {x : Str} {pos : Pos} (hN : X.N[i]? = some x) (hv : Vis X.env.scope x) (hd : (x == ("__debug__" : Str)) = false := by decide) (hcd : (x == ("__classdict__" : Str)) = false := by decide) : PE X (.Name x pos) (tVar i) := by
 intro pins s σ H Q I h
 obtain ⟨v, e, h⟩:=h
 obtain ⟨m, hn, hl⟩:=I.loc
 obtain ⟨u, r, l⟩:=hl i x v hN e hv
 have fin : EP X pins σ Q u s:=⟨v, H, I, r, h⟩
 rcases l with ⟨hk, hm⟩ | ⟨hk, c, hc, hcell⟩
 ·exact wpAny_Name (wpAny_loadName_local I.ok.kind hk hn hm fin) hd
 ·rcases hk with hk | hk
  ·exact wpAny_Name (wpAny_loadName_cell I.ok.kind hk hc hcell fin) hd
  ·exact wpAny_Name (wpAny_loadName_free I.ok.kind hk hc hcell fin hcd) hd
theorem pe_int {i j pos} : PE X (.Constant (.int i) j pos) (tC (.int i)):=fun _ _ _ H _ I h => wpAny_Constant_int ⟨.int i, H, I.tok _, ⟨_, rfl⟩, h⟩
theorem pe_bl {b j pos} : PE X (.Constant (.bool b) j pos) (tC (.bl b)):=fun _ _ _ H _ I h => Constant_bool ⟨.bl b, H, I, rfl, h⟩
theorem pe_str {x j pos} : PE X (.Constant (.str x) j pos) (tC (.str x)):=fun _ _ _ H _ I h => Calls.Constant_str ⟨.str x, H, I.tok _, ⟨_, rfl⟩, h⟩
noncomputable def Gl (X : Cx) (x : Str) : Prop:=X.env.kindOf x = some .globalImplicit
theorem ld_glob {E : Value → Shared → Prop} {pins : List (Addr × Obj)} {s : Shared} {σ : St} {H : Hp} {x : Str} {u : Value} {pos : Pos} {Q : Value → Shared → Prop} (I : Inv X pins σ H s) (hg : Gl X x) (hm : X.mg x = some u) (h : Q u s)
  (hd : (x == ("__debug__" : Str)) = false := by decide) : wpAny (model X.prog X.w) X.A (eval (.Name x pos) X.env) Q E s :=
 Calls.Name_function_global I.ok.kind hg (Calls.loadGlobal_global (by rw [I.ok.glob]; exact I.mod.glob.keeps I.bk) hm h) hd
theorem ld_blt {E : Value → Shared → Prop} {pins : List (Addr × Obj)} {s : Shared} {σ : St} {H : Hp} {x : Str} {u : Value} {pos : Pos} {Q : Value → Shared → Prop} (I : Inv X pins σ H s) (hg : Gl X x) (hm : X.mg x = none) (hv : bootBuiltins x = some u) (h : Q u s)
  (hn : x ≠ "__name__" := by decide) (hd : (x == ("__debug__" : Str)) = false := by decide) : wpAny (model X.prog X.w) X.A (eval (.Name x pos) X.env) Q E s := by
 obtain ⟨mb, h1, h2⟩:=I.mod.blt
 exact Calls.Name_function_global I.ok.kind hg (Calls.loadGlobal_builtin (by rw [I.ok.glob]; exact I.mod.glob.keeps I.bk) hm (by rw [I.ok.blt]; exact h1.keeps I.bk) ((h2 x hn).trans hv) h) hd
theorem pe_glob {x : Str} {v : V} {u : Value} {pos : Pos} (hg : Gl X x) (hm : X.mg x = some u) (r : RelV v u) (hd : (x == ("__debug__" : Str)) = false := by decide) : PE X (.Name x pos) (tC v) :=
 fun _ _ _ H _ I h => ld_glob I hg hm ⟨v, H, I, r, h⟩ hd
variable {a b : Expr} {ta tb : TE} {pos : Pos}
noncomputable def tB (t : TE) : TT:=fun σ H Q => t σ H fun x H1 => ∃ c, x = .bl c ∧ Q c H1
theorem pt_val {e : Expr} {t : TE} (h : PE X e t) (he : ∀ whole, isTrue e X.env whole = (do let v ← whole; standAt e.pos; holding [v] (truthy v)):=by intro _; rfl) : PT X e (tB t):=by
 intro pins s σ H Q I hw
 refine isTrue_plain (thn (h pins s σ H _ I hw) fun v s1 ⟨x, H1, I1, r1, q1⟩ => ?_) (he _)
 obtain ⟨d, rfl, q⟩:=q1
 cases r1
 exact wpAny_truthy_bool ⟨H1, I1, q⟩
variable {tA tB' : TT} {rest : List Expr}
noncomputable def tOr (t u : TT) : TT:=fun σ H Q => t σ H fun c H1 => if c = true then Q true H1 else u σ H1 Q
noncomputable def tNot (t : TT) : TT:=fun σ H Q => t σ H fun c H1 => Q (!c) H1
theorem pw_or1 (ha : PT X a tA) : PW X (.BoolOp .Or [a] pos) tA:=by
 intro wh pins s σ H Q I h
 refine isTrue_or (thn (ha pins s σ H Q I h) fun c s1 e => ?_)
 cases c with
 | false => exact isTrue_or_nil e
 | true => exact e
theorem pw_or (ha : PT X a tA) (hb : PW X (.BoolOp .Or (b :: rest) pos) tB') : PW X (.BoolOp .Or (a :: b :: rest) pos) (tOr tA tB'):=by
 intro wh pins s σ H Q I h
 refine isTrue_or (thn (ha pins s σ H _ I h) fun c s1 ⟨H1, I1, q1⟩ => ?_)
 cases c with
 | true => exact ⟨H1, I1, q1⟩
 | false => exact hb wh pins s1 σ H1 Q I1 q1
theorem pt_not (ha : PT X a tA) : PT X (.UnaryOp .Not a pos) (tNot tA):=by
 intro pins s σ H Q I h
 exact isTrue_not (ha pins s σ H (fun c H1 => Q (!c) H1) I h)
end
end L2
namespace L2
open PySem PySem.Spec PyProof.Rows
noncomputable def SqL (K : PySem.W.Frag) (H : Hp) (a : Addr) (xs : List V) : Prop :=
 Rd H a (.lst xs) ∨
  ∃ (o : Obj) (its : Array Value) (n : Nat), K.lookup a = some o ∧ o.cls = .type "list" ∧ o.dict = none ∧ o.data = .seq its n ∧ its.size ≤ sizeLine ∧ Vals xs its.toList
noncomputable def SqT (K : PySem.W.Frag) (H : Hp) (a : Addr) (xs : List V) : Prop :=
 Rd H a (.tup xs) ∨
  ∃ (o : Obj) (its : Array Value) (n : Nat), K.lookup a = some o ∧ o.cls = .type "tuple" ∧ o.data = .seq its n ∧ its.size ≤ sizeLine ∧ Vals xs its.toList
noncomputable def absV : Value → Option V
 | .none => some .non
 | .bool b => some (.bl b)
 | .int i _ => some (.int i)
 | .str x _ => some (.str x)
 | .bytes b _ => some (.byt b)
 | .float b _ => some (.flt b)
 | .ref a => some (.ref a)
 | .type n => some (.ty n)
 | _ => none
theorem RelV.abs {x : V} {u : Value} (r : RelV x u) : absV u = some x:=by
 cases x with
 | non => cases r; rfl
 | bl _ => cases r; rfl
 | int _ => obtain ⟨t, rfl⟩:=r; rfl
 | str _ => obtain ⟨t, rfl⟩:=r; rfl
 | byt _ => obtain ⟨t, rfl⟩:=r; rfl
 | flt _ => obtain ⟨t, rfl⟩:=r; rfl
 | ref _ => cases r; rfl
 | ty _ => cases r; rfl
theorem RelV.inj {x y : V} {u : Value} (r : RelV x u) (q : RelV y u) : x = y:=Option.some.inj (r.abs.symm.trans q.abs)
theorem Vals.inj : ∀ {xs ys : List V} {us : List Value}, Vals xs us → Vals ys us → xs = ys
 | _, _, _, .nil, .nil => rfl
 | _, _, _, .cons r t, .cons r' t' => by rw [r.inj r', Vals.inj t t']
section
variable {X : Cx} {pins : List (Addr × Obj)} {σ : St} {H : Hp} {s : Shared} {a : Addr} {xs ys : List V}
theorem SqL.of {K : PySem.W.Frag} (h : H a = some (.lst xs)) : SqL K H a xs:=.inl (.inl h)
theorem SqT.of {K : PySem.W.Frag} (h : H a = some (.tup xs)) : SqT K H a xs:=.inl (.inl h)
theorem Inv.list (I : Inv X pins σ H s) (h : SqL X.K H a xs) : ∃ its : List Value, Vals xs its ∧ PlainL s.heap a its.toArray ∧ xs.length ≤ sizeLine:=by
 rcases h with h | ⟨o, its, n, hk, hc, hd, hs, hz, r⟩
 ·obtain ⟨z, its, n, r, e⟩:=h.ok I.hok
  exact ⟨its, r, ⟨_, n, e, rfl, rfl, rfl⟩, z⟩
 ·refine ⟨its.toList, r, ⟨o, n, I.kIn a o hk, hc, hd, by simpa using hs⟩, ?_⟩
  have e:=r.length
  simp only [Array.length_toList] at e
  omega
theorem Inv.tuple (I : Inv X pins σ H s) (h : SqT X.K H a xs) : ∃ its : List Value, Vals xs its ∧ IsTup s.heap a its.toArray ∧ xs.length ≤ sizeLine:=by
 rcases h with h | ⟨o, its, n, hk, hc, hs, hz, r⟩
 ·obtain ⟨z, its, r, p⟩:=h.ok I.hok
  exact ⟨its, r, p, z⟩
 ·refine ⟨its.toList, r, ⟨o, I.kIn a o hk, hc, n, by simpa using hs⟩, ?_⟩
  have e:=r.length
  simp only [Array.length_toList] at e
  omega
theorem Inv.list_inj (I : Inv X pins σ H s) (h : SqL X.K H a xs) (h' : SqL X.K H a ys) : xs = ys:=by
 obtain ⟨its, r, ⟨o, n, e, _, _, d⟩, _⟩:=I.list h
 obtain ⟨its', r', ⟨o', n', e', _, _, d'⟩, _⟩:=I.list h'
 rw [e] at e'; cases e'
 rw [d] at d'
 injection d' with d1 _
 have : its = its':=by simpa using congrArg Array.toList d1
 subst this
 exact r.inj r'
theorem Inv.tuple_inj (I : Inv X pins σ H s) (h : SqT X.K H a xs) (h' : SqT X.K H a ys) : xs = ys:=by
 obtain ⟨its, r, ⟨o, e, _, n, d⟩, _⟩:=I.tuple h
 obtain ⟨its', r', ⟨o', e', _, n', d'⟩, _⟩:=I.tuple h'
 rw [e] at e'; cases e'
 rw [d] at d'
 injection d' with d1 _
 have : its = its':=by simpa using congrArg Array.toList d1
 subst this
 exact r.inj r'
end
noncomputable abbrev Cx.wish (X : Cx) (E : Value → Shared → Prop) : Cx:={ X with xe:=E }
noncomputable abbrev Cx.nox (X : Cx) : Cx:=X.wish fun _ _ => False
theorem Cx.Ok.wish {X : Cx} (ok : X.Ok) (E : Value → Shared → Prop) : (X.wish E).Ok :=
 ⟨ok.mod, ok.kind, ok.glob, ok.blt, ok.above, ok.inj, ok.has, ok.cab, ok.hd, ok.frames, ok.stk, ok.exf, ok.bs, ok.bsz, ok.noex, ok.exfs, ok.funs, ok.frf⟩
theorem Cx.Ok.unwish {X : Cx} {E : Value → Shared → Prop} (ok : (X.wish E).Ok) : X.Ok :=
 ⟨ok.mod, ok.kind, ok.glob, ok.blt, ok.above, ok.inj, ok.has, ok.cab, ok.hd, ok.frames, ok.stk, ok.exf, ok.bs, ok.bsz, ok.noex, ok.exfs, ok.funs, ok.frf⟩
section
variable {X : Cx} {pins : List (Addr × Obj)} {σ : St} {H : Hp} {s : Shared} {E : Value → Shared → Prop}
theorem Inv.wish (I : Inv X pins σ H s) (E : Value → Shared → Prop) : Inv (X.wish E) pins σ H s:=⟨I.ok.wish E, I.os, I.bare, I.base, I.loc, I.cell, I.free, I.freeC, I.pin, I.hok, I.len⟩
theorem Inv.unwish (I : Inv (X.wish E) pins σ H s) : Inv X pins σ H s:=⟨I.ok.unwish, I.os, I.bare, I.base, I.loc, I.cell, I.free, I.freeC, I.pin, I.hok, I.len⟩
theorem SP.unwish {D : Ends} {f : Flow} {s' : Shared} (h : SP (X.wish E) pins D f s') : SP X pins D f s':=by
 cases f with
 | next => obtain ⟨σ', H', I, q⟩:=h; exact ⟨σ', H', I.unwish, q⟩
 | brk => obtain ⟨σ', H', I, q⟩:=h; exact ⟨σ', H', I.unwish, q⟩
 | cont => obtain ⟨σ', H', I, q⟩:=h; exact ⟨σ', H', I.unwish, q⟩
 | ret u => obtain ⟨v, σ', H', I, r, q⟩:=h; exact ⟨v, σ', H', I.unwish, r, q⟩
theorem PSs.nox {st : List Stmt} {t : TS} (h : PSs X.nox st t) : PSs X st t:=fun pins s σ H D I hw =>
 wpAny_mono (h pins s σ H D (I.wish _) hw) (fun _ _ q => q.unwish) fun _ _ z => False.elim z
end
section
variable {X : Cx} {st : Stmt} {rest : List Stmt} {t u : TS} {e : Expr} {te : TE} {pos : Pos}
noncomputable def tNext : TS:=fun D σ H => D.nx σ H
noncomputable def tSeq (t u : TS) : TS:=fun D σ H => t { D with nx:=u D } σ H
theorem pss_nil : PSs X [] tNext:=fun _ _ σ H _ I h => wpAny_execs_nil ⟨σ, H, I, h⟩
theorem pss_cons (h1 : PS X st t) (h2 : PSs X rest u) : PSs X (st :: rest) (tSeq t u):=by
 intro pins s σ H D I h
 refine wpAny_execs_cons (thn (h1 pins s σ H { D with nx:=u D } I h) fun f s1 q => ?_)
 cases f with
 | next =>
  obtain ⟨σ', H', I', q⟩:=q
  exact h2 pins s1 σ' H' D I' q
 | ret v => exact q
 | brk => exact q
 | cont => exact q
theorem pss_one (h1 : PS X st t) : PSs X [st] t:=by
 intro pins s σ H D I h
 refine wpAny_execs_cons (thn (h1 pins s σ H D I h) fun f s1 q => ?_)
 cases f with
 | next => exact wpAny_execs_nil q
 | ret v => exact q
 | brk => exact q
 | cont => exact q
theorem Inv.quiet {pins : List (Addr × Obj)} {σ : St} {H : Hp} {s : Shared} (I : Inv X pins σ H s) : interactive X.env = false:=by simp [interactive, I.ok.kind]
noncomputable def tDrop (te : TE) : TS:=fun D σ H => te σ H fun _ H1 => D.nx σ H1
theorem ps_expr (he : PE X e te) (hs : swapsWith e none pos.line X.env = pure false:=by rfl) : PS X (.Expr e pos) (tDrop te):=by
 intro pins s σ H D I h
 exact wpAny_Expr_any (thn (he pins s σ H _ I h) fun v s1 ⟨x, H1, I1, r1, q1⟩ => ⟨σ, H1, I1, q1⟩) I.quiet hs
noncomputable def tRet (te : TE) : TS:=fun D σ H => te σ H D.rt
theorem ps_ret (he : PE X e te) : PS X (.Return (some e) pos) (tRet te):=by
 intro pins s σ H D I h
 exact wpAny_Return_some (thn (he pins s σ H _ I h) fun v s1 ⟨x, H1, I1, r1, q1⟩ => ⟨x, σ, H1, I1, r1, q1⟩)
noncomputable def tIfS (c : TT) (t u : TS) : TS:=fun D σ H => c σ H fun b H1 => if b = true then t D σ H1 else u D σ H1
theorem ps_if {c : Expr} {a b : List Stmt} {tc : TT} (hc : PT X c tc) (ha : PSs X a t) (hb : PSs X b u) : PS X (.If c a b pos) (tIfS tc t u):=by
 intro pins s σ H D I h
 refine wpAny_If (thn (hc pins s σ H _ I h) fun d s1 ⟨H1, I1, q1⟩ => ?_)
 cases d with
 | true => exact ha pins s1 σ H1 D I1 q1
 | false => exact hb pins s1 σ H1 D I1 q1
end
noncomputable abbrev TG:=V → St → Hp → (St → Hp → Prop) → Prop
noncomputable abbrev TGs:=List V → St → Hp → (St → Hp → Prop) → Prop
noncomputable def PG (X : Cx) (target : Expr) (t : TG) : Prop :=
 ∀ (pins : List (Addr × Obj)) (s : Shared) (σ : St) (H : Hp) (v : V) (u : Value) (Q : St → Hp → Prop), Inv X pins σ H s → RelV v u → t v σ H Q →
  wpAny (model X.prog X.w) X.A (assign target X.env u) (fun _ s' => ∃ σ' H', Inv X pins σ' H' s' ∧ Q σ' H') X.xe s
noncomputable def PGs (X : Cx) (ts : List Expr) (t : TGs) : Prop :=
 ∀ (pins : List (Addr × Obj)) (s : Shared) (σ : St) (H : Hp) (vs : List V) (us : List Value) (Q : St → Hp → Prop), Inv X pins σ H s → Vals vs us → t vs σ H Q →
  wpAny (model X.prog X.w) X.A (assignInOrder ((assignEach ts X.env).map (·.2)) us) (fun _ s' => ∃ σ' H', Inv X pins σ' H' s' ∧ Q σ' H') X.xe s
noncomputable abbrev TSet:=V → V → V → Hp → (Hp → Prop) → Prop
noncomputable def PSet (X : Cx) (t : TSet) : Prop :=
 ∀ (pins : List (Addr × Obj)) (s : Shared) (σ : St) (H : Hp) (o i v : V) (ov iv u : Value) (Q : Hp → Prop), Inv X pins σ H s → RelV o ov → RelV i iv → RelV v u → t o i v H Q →
  wpAny (model X.prog X.w) X.A (setItem ov iv u) (fun _ s' => ∃ H', Inv X pins σ H' s' ∧ Q H') X.xe s
section
variable {X : Cx} {pos : Pos}
noncomputable def gName (i : Nat) : TG:=fun v σ H Q => Q (σ.set i (some v)) H
theorem pg_name {i : Nat} {x : Str} (hN : X.N.Nodup) (hi : X.N[i]? = some x) (hx : Loc X.env.scope x) (hf : X.fn x = true ∨ X.env.scope.names.lookup x = some .local:=by first | exact .inl rfl | exact .inr rfl | assumption) : PG X (.Name x pos) (gName i):=by
 intro pins s σ H v u Q I r h
 exact wpAny_assign_Name (store_ok I hN hi hx r (fun s' I' => ⟨_, H, I', h⟩) hf)
noncomputable def gNil : TGs:=fun vs σ H Q => vs = [] ∧ Q σ H
noncomputable def gCons (t : TG) (u : TGs) : TGs:=fun vs σ H Q => ∃ v r, vs = v :: r ∧ t v σ H fun σ' H' => u r σ' H' Q
theorem pgs_nil : PGs X [] gNil:=by
 intro pins s σ H vs us Q I r h
 obtain ⟨e, h⟩:=h
 subst e
 cases r
 exact assignInOrder_nil ⟨σ, H, I, h⟩
theorem pgs_cons {e : Expr} {es : List Expr} {t : TG} {u : TGs} (h1 : PG X e t) (h2 : PGs X es u)
  (hs : (assignEach (e :: es) X.env).map (·.2) = assign e X.env :: (assignEach es X.env).map (·.2):=by rfl) : PGs X (e :: es) (gCons t u):=by
 intro pins s σ H vs us Q I r h
 obtain ⟨v, vr, e1, h⟩:=h
 subst e1
 cases r with
 | cons r rr =>
  rw [hs]
  refine assignInOrder_cons (thn (h1 pins s σ H _ _ _ I r h) fun _ s1 ⟨σ1, H1, I1, q1⟩ => ?_)
  exact h2 pins s1 σ1 H1 _ _ Q I1 rr q1
noncomputable def gTup (K : PySem.W.Frag) (n : Nat) (t : TGs) : TG:=fun v σ H Q => ∃ a xs, v = .ref a ∧ SqT K H a xs ∧ xs.length = n ∧ t xs σ H Q
theorem pg_tup {es : List Expr} {k : Nat} {t : TGs} {n : Nat} (hc : X.calm = true) (h : PGs X es t)
  (hn : (assignEach es X.env).length = n:=by rfl) (hst : (assignEach es X.env).findIdx? (·.1) = none:=by rfl) : PG X (.Tuple es k pos) (gTup X.K n t):=by
 intro pins s σ H v u Q I r hw
 obtain ⟨a, xs, e1, hq, hl, hw⟩:=hw
 subst e1
 cases r
 obtain ⟨its, rv, ht, hz⟩:=I.tuple hq
 refine assign_Tuple_tuple (I.ok.hd hc) ht (by simp [hn, ← hl, rv.length]) hst fun h' hx => ?_
 have I1 : Inv X pins σ H { s with heap:=h' }:=I.kept (t':=s.toks) fun b o e => hx b o (Nat.ne_of_lt (Heap.lt_size e)) e
 exact h pins _ σ H xs _ Q I1 (by simpa using rv) hw
noncomputable def gSub (to ti : TE) (t : TSet) : TG:=fun v σ H Q => to σ H fun o H1 => ti σ H1 fun i H2 => t o i v H2 fun H3 => Q σ H3
theorem pg_sub {o i : Expr} {to ti : TE} {t : TSet} (ho : PE X o to) (hi : PE X i ti) (hs : PSet X t)
  (ha : ∀ v, assign (.Subscript o i pos) X.env v = (do
   let ov ← holding [v] (eval o X.env)
   let iv ← holding [v, ov] (eval i X.env)
   standAt pos
   holding [v, ov, iv] (setItem ov iv v)
   release [v, ov, iv] []):=by intro _; rfl) : PG X (.Subscript o i pos) (gSub to ti t):=by
 intro pins s σ H v u Q I r h
 rw [ha]
 refine wpAny_bind (wpAny_holding (thn (ho pins s σ H _ I h) fun ov s1 ⟨x, H1, I1, r1, q1⟩ => ?_))
 refine wpAny_bind (wpAny_holding (thn (hi pins s1 σ H1 _ I1 q1) fun iv s2 ⟨y, H2, I2, r2, q2⟩ => ?_))
 refine wpAny_bind (wpAny_standAt (wpAny_bind (wpAny_holding (thn (hs pins s2 σ H2 x y v ov iv u _ I2 r1 r2 r q2) fun _ s3 ⟨H3, I3, q3⟩ => ?_))))
 exact wpAny_release ⟨σ, H3, I3, q3⟩
noncomputable def tAsg (te : TE) (g : TG) : TS:=fun D σ H => te σ H fun x H1 => g x σ H1 D.nx
theorem ps_asg {tg e : Expr} {te : TE} {g : TG} (he : PE X e te) (hg : PG X tg g) (hs : swapsWithSole [tg] e pos.line X.env = pure false:=by rfl) (hw : swappedStores [tg] e X.env = pure none:=by rfl)
  (h1 : (assignEach [tg] X.env).map (·.2) = [assign tg X.env]:=by rfl) : PS X (.Assign [tg] e pos) (tAsg te g):=by
 intro pins s σ H D I h
 refine wpAny_Assign_stores (thn (he pins s σ H _ I h) fun v s1 ⟨x, H1, I1, r1, q1⟩ => ?_) hs hw
 rw [h1]
 exact thn (hg pins s1 σ H1 x v _ I1 r1 q1) fun _ s2 q => q
theorem ps_set {i : Nat} {x : Str} {e : Expr} {te : TE} {pos' : Pos} (hN : X.N.Nodup) (hi : X.N[i]? = some x) (hx : Loc X.env.scope x) (he : PE X e te) (hs : swapsWith e (some (.Name x pos')) pos.line X.env = pure false:=by rfl) (hf : X.fn x = true ∨ X.env.scope.names.lookup x = some .local:=by first | exact .inl rfl | exact .inr rfl | assumption) :
  PS X (.Assign [.Name x pos'] e pos) (tAsg te (gName i)):=by
 intro pins s σ H D I h
 refine wpAny_Assign_Name (thn (he pins s σ H _ I h) fun v s1 ⟨y, H1, I1, r1, q1⟩ => ?_) hs
 exact store_ok I1 hN hi hx r1 (fun s2 I2 => ⟨_, H1, I2, q1⟩) hf
end
section
variable {X : Cx} {pos : Pos}
end
structure It where
 go : Nat → Hp → Prop
 yld : Nat → Hp → V → Hp → Prop
 stop : Nat → Hp → Prop
noncomputable def FpOk (X : Cx) (pins : List (Addr × Obj)) (H : Hp) (b : Addr) : Prop :=
 H b = none ∧ b ≠ X.env.locals ∧ b ∉ X.fs ∧ (b ∈ X.ex ∨ X.s₀.heap.objs.size ≤ b) ∧ (∀ x c, X.env.cells.lookup x = some c → c ≠ b) ∧ ∀ p ∈ X.pn ++ pins, p.1 ≠ b
theorem Inv.fpOk {X : Cx} {pins : List (Addr × Obj)} {σ : St} {H H' : Hp} {s : Shared} {b : Addr} (I : Inv X pins σ H s) (hb : s.heap.objs.size ≤ b) (hn : H' b = none) : FpOk X pins H' b:=by
 refine ⟨hn, Nat.ne_of_gt (Nat.lt_of_lt_of_le I.lt hb), I.nofs hb, .inr (Nat.le_trans I.sz hb), fun x c e z => ?_, fun p hp z => ?_⟩
 ·obtain ⟨v, q⟩:=I.cell x c e
  exact absurd (Nat.lt_of_lt_of_le q.lt (by rw [z]; exact hb)) (Nat.lt_irrefl _)
 ·exact absurd (Nat.lt_of_lt_of_le (Heap.lt_size (I.pin p hp).1) (by rw [z]; exact hb)) (Nat.lt_irrefl _)
structure Turn (P : Program) (w : World) (K : PySem.W.Frag) (tg : Expr) (J : It) (fp : List Addr) (it : Addr) (tn : Nat → Heap → Prop) : Prop where
 mem : it ∈ fp
 obj : ∀ i h, tn i h → ∀ b ∈ fp, ∃ o, h.get? b = some o ∧ ∀ v, o.data ≠ .cell v
 keep : ∀ i h h', tn i h → (∀ b ∈ fp, ∀ o, h.get? b = some o → h'.get? b = some o) → tn i h'
 item : ∀ (X : Cx), X.prog = P → X.w = w → X.K = K → X.calm = true → ∀ (i : Nat) (pins : List (Addr × Obj)) (s : Shared) (σ : St) (H : Hp) (E : Value → Shared → Prop), Inv X pins σ H s → (∀ b ∈ fp, FpOk X pins H b) → tn i s.heap → J.go i H →
  wpAny (model P w) X.A (pyNext (.ref it)) (fun r s1 => ∃ u, r = some u ∧
   wpAny (model P w) X.A (letOwnedTupleGo tg (.ref it) u) (fun _ s2 => ∃ x H', Inv X pins σ H' s2 ∧ RelV x u ∧ J.yld i H x H' ∧ tn (i + 1) s2.heap ∧ ∀ b ∈ fp, H' b = none) E s1) E s
 done : ∀ (X : Cx), X.prog = P → X.w = w → X.K = K → X.calm = true → ∀ (i : Nat) (pins : List (Addr × Obj)) (s : Shared) (σ : St) (H : Hp) (E : Value → Shared → Prop), Inv X pins σ H s → (∀ b ∈ fp, FpOk X pins H b) → tn i s.heap → J.stop i H →
  wpAny (model P w) X.A (pyNext (.ref it)) (fun r s1 => r = none ∧ Inv X pins σ H s1) E s
 self : ∀ (A : Around) (i : Nat) (s : Shared) (Q : Value → Shared → Prop) (E : Value → Shared → Prop), tn i s.heap → Q (.ref it) s → wpAny (model P w) A (pyIter (.ref it)) Q E s
noncomputable abbrev TI:=St → Hp → (It → Hp → Prop) → Prop
noncomputable def PIE (X : Cx) (pins : List (Addr × Obj)) (σ : St) (tg : Expr) (R : It → Hp → Prop) (itv : Value) (s2 : Shared) : Prop :=
 ∃ (it : Addr) (fp : List Addr) (tn : Nat → Heap → Prop) (J : It) (H' : Hp), itv = .ref it ∧ Inv X pins σ H' s2 ∧ Turn X.prog X.w X.K tg J fp it tn ∧ tn 0 s2.heap ∧ (∀ b ∈ fp, FpOk X pins H' b) ∧ R J H'
noncomputable def PI (X : Cx) (tg iter : Expr) (wi : TI) : Prop :=
 ∀ (pins : List (Addr × Obj)) (s : Shared) (σ : St) (H : Hp) (R : It → Hp → Prop), Inv X pins σ H s → wi σ H R →
  wpAny (model X.prog X.w) X.A (eval iter X.env) (fun v s1 => wpAny (model X.prog X.w) X.A (pyIter v) (PIE X pins σ tg R) X.xe s1) X.xe s
theorem go_of {M : Model} {A : Around} {E : Value → Shared → Prop} {s : Shared} {tg : Expr} {it : Addr} {u : Value} {o : Obj} {n : String} {vs : Array Value} {Q : Unit → Shared → Prop} (ho : s.heap.get? it = some o) (hc : o.cls = .type n) (hd : o.data = .fields vs)
    (hn : ["enumerate", "zip", "dict_itemiterator", "dict_reverseitemiterator", "odict_iterator", "itertools.zip_longest", "itertools.pairwise"].contains n = false) (hQ : Q () s) : wpAny M A (letOwnedTupleGo tg (.ref it) u) Q E s := by
  unfold letOwnedTupleGo
  cases tg <;> first
    | exact wpAny_pure hQ
    | (cases u <;> first
        | exact wpAny_pure hQ
        | (refine wpAny_bind (wpAny_load ho ?_)
           rw [hc, hd]
           show wpAny M A (if (["enumerate", "zip", "dict_itemiterator", "dict_reverseitemiterator", "odict_iterator", "itertools.zip_longest", "itertools.pairwise"].contains n && vs[0]? == some (rawInt _)) = true then _ else _) Q E s
           rw [if_neg (by intro h; rw [hn, Bool.false_and] at h; cases h)]
           exact wpAny_pure hQ))
noncomputable def Itl (K : PySem.W.Frag) (a : Addr) : It :=
 ⟨fun i H => ∃ xs x, SqL K H a xs ∧ xs[i]? = some x, fun i H x H' => H' = H ∧ ∀ xs, SqL K H a xs → xs[i]? = some x, fun i H => ∃ xs, SqL K H a xs ∧ xs.length ≤ i⟩
noncomputable def Itt (K : PySem.W.Frag) (a : Addr) : It :=
 ⟨fun i H => ∃ xs x, SqT K H a xs ∧ xs[i]? = some x, fun i H x H' => H' = H ∧ ∀ xs, SqT K H a xs → xs[i]? = some x, fun i H => ∃ xs, SqT K H a xs ∧ xs.length ≤ i⟩
noncomputable def Itr (lo : Int) (n : Nat) : It:=⟨fun i _ => i < n, fun i H x H' => H' = H ∧ x = .int (lo + i), fun i _ => n ≤ i⟩
theorem turn_list {P : Program} {w : World} {K : PySem.W.Frag} {tg : Expr} (a it : Addr) : Turn P w K tg (Itl K a) [it] it (fun i h => h.IsListIter it a i) where
 mem:=by simp
 obj:=fun i h st b hb => by
  have e : b = it:=by simpa using hb
  subst e
  obtain ⟨o, e, c, d⟩:=st
  exact ⟨o, e, fun v z => by rw [d] at z; cases z⟩
 keep:=fun i h h' st k => st.at fun o e => k it (by simp) o e
 item:=by
  intro X hP hw hK hc i pins s σ H E I hf st hg
  subst hP hw hK
  obtain ⟨xs, x, hq, hx⟩:=hg
  obtain ⟨its, rv, p, hz⟩:=I.list hq
  obtain ⟨u, hu, ru⟩:=rv.get hx
  obtain ⟨f0, f1, f2, f3, f4, f5⟩:=hf it (by simp)
  refine wpAny_pyNext_list_item st p.isList (x:=u) (by simpa using hu) fun h' st' sb => ?_
  have I1 : Inv X pins σ H { s with heap:=h' }:=I.turned (t':=s.toks) (fun b o hb e => (sb.2 b hb).trans e) f0 f1 f3 f4 f5
  obtain ⟨o, e, c, d⟩:=id st'
  exact ⟨u, rfl, go_of (s:={ s with heap:=h' }) e c d (by decide) ⟨x, H, I1, ru, ⟨rfl, fun ys hy => by rw [I.list_inj hy hq]; exact hx⟩, st', fun b hb => (hf b hb).1⟩⟩
 done:=by
  intro X hP hw hK hc i pins s σ H E I hf st hg
  subst hP hw hK
  obtain ⟨xs, hq, hx⟩:=hg
  obtain ⟨its, rv, p, hz⟩:=I.list hq
  obtain ⟨f0, f1, f2, f3, f4, f5⟩:=hf it (by simp)
  have hl:=rv.length
  exact wpAny_pyNext_list_end (I.ok.hd hc) st p.isList (by simp; omega) fun h' eb => ⟨rfl, I.turned (t':=s.toks) (fun b o hb e => eb b o hb e) f0 f1 f3 f4 f5⟩
 self:=fun _ _ _ _ _ st h => wpAny_pyIter_listiter st h
theorem turn_tuple {P : Program} {w : World} {K : PySem.W.Frag} {tg : Expr} (a it : Addr) : Turn P w K tg (Itt K a) [it] it (fun i h => h.IsTupleIter it a i) where
 mem:=by simp
 obj:=fun i h st b hb => by
  have e : b = it:=by simpa using hb
  subst e
  obtain ⟨o, e, c, d⟩:=st
  exact ⟨o, e, fun v z => by rw [d] at z; cases z⟩
 keep:=fun i h h' st k => st.at fun o e => k it (by simp) o e
 item:=by
  intro X hP hw hK hc i pins s σ H E I hf st hg
  subst hP hw hK
  obtain ⟨xs, x, hq, hx⟩:=hg
  obtain ⟨its, rv, p, hz⟩:=I.tuple hq
  obtain ⟨u, hu, ru⟩:=rv.get hx
  obtain ⟨f0, f1, f2, f3, f4, f5⟩:=hf it (by simp)
  refine wpAny_pyNext_tuple_item st (show s.heap.IsTuple a its.toArray from p) (x:=u) (by simpa using hu) fun h' st' sb => ?_
  have I1 : Inv X pins σ H { s with heap:=h' }:=I.turned (t':=s.toks) (fun b o hb e => (sb.2 b hb).trans e) f0 f1 f3 f4 f5
  obtain ⟨o, e, c, d⟩:=id st'
  exact ⟨u, rfl, go_of (s:={ s with heap:=h' }) e c d (by decide) ⟨x, H, I1, ru, ⟨rfl, fun ys hy => by rw [I.tuple_inj hy hq]; exact hx⟩, st', fun b hb => (hf b hb).1⟩⟩
 done:=by
  intro X hP hw hK hc i pins s σ H E I hf st hg
  subst hP hw hK
  obtain ⟨xs, hq, hx⟩:=hg
  obtain ⟨its, rv, p, hz⟩:=I.tuple hq
  obtain ⟨f0, f1, f2, f3, f4, f5⟩:=hf it (by simp)
  have hl:=rv.length
  exact wpAny_pyNext_tuple_end (I.ok.hd hc) st (show s.heap.IsTuple a its.toArray from p) (by simp; omega) fun h' eb => ⟨rfl, I.turned (t':=s.toks) (fun b o hb e => eb b o hb e) f0 f1 f3 f4 f5⟩
 self:=fun _ _ _ _ _ st h => wpAny_pyIter_tupleiter st h
theorem turn_range {P : Program} {w : World} {K : PySem.W.Frag} {tg : Expr} (it : Addr) (lo : Int) (n : Nat) : Turn P w K tg (Itr lo n) [it] it (fun i h => IsRangeIter h it (lo + (i : Nat) * 1) ((n : Int) - (i : Nat)) 1) where
 mem:=by simp
 obj:=fun i h st b hb => by
  have e : b = it:=by simpa using hb
  subst e
  exact ⟨_, st, fun v z => by
   have z' : Data.fields _ = Data.cell v:=z
   cases z'⟩
 keep:=fun i h h' st k => k it (by simp) _ st
 item:=by
  intro X hP hw hK hc i pins s σ H E I hf st hg
  subst hP hw hK
  obtain ⟨f0, f1, f2, f3, f4, f5⟩:=hf it (by simp)
  have W:=Walks.range (prog:=X.prog) (w:=X.w) (I.ok.hd hc) it lo 1 n
  refine W.item i s _ _ hg st fun v h' tk hv st' kk => ?_
  obtain ⟨t, rfl⟩:=hv
  have I1 : Inv X pins σ H { s with heap:=h', toks:=tk }:=I.turned (fun b o hb e => kk b o (by simpa using hb) e) f0 f1 f3 f4 f5
  refine ⟨_, rfl, go_of (s := { s with heap := h', toks := tk }) (n := "range_iterator") st' rfl rfl (by decide) ⟨.int (lo + i), H, I1, ⟨t, ?_⟩, ⟨rfl, rfl⟩, st', fun b hb => (hf b hb).1⟩⟩
  rw [Int.mul_one]
 done:=by
  intro X hP hw hK hc i pins s σ H E I hf st hg
  subst hP hw hK
  obtain ⟨f0, f1, f2, f3, f4, f5⟩:=hf it (by simp)
  exact wpAny_pyNext_range_end (I.ok.hd hc) st (by have : n ≤ i:=hg; omega) fun h' eb => ⟨rfl, I.turned (t':=s.toks) (fun b o hb e => eb b o hb e) f0 f1 f3 f4 f5⟩
 self:=fun _ _ _ _ _ st h => wpAny_pyIter_rangeiter st h
end L2
namespace L2
open PySem PySem.Spec PyProof.Rows
section
variable {X : Cx} {tg : Expr}
noncomputable def iList (K : PySem.W.Frag) (tl : TE) : TI:=fun σ H R => tl σ H fun x H1 => ∃ a, x = .ref a ∧ (∃ xs, SqL K H1 a xs) ∧ R (Itl K a) H1
noncomputable def iTup (K : PySem.W.Frag) (tl : TE) : TI:=fun σ H R => tl σ H fun x H1 => ∃ a, x = .ref a ∧ (∃ xs, SqT K H1 a xs) ∧ R (Itt K a) H1
theorem pi_list {l : Expr} {tl : TE} (hl : PE X l tl) : PI X tg l (iList X.K tl):=by
 intro pins s σ H R I h
 refine thn (hl pins s σ H _ I h) fun v s1 ⟨x, H1, I1, r1, q1⟩ => ?_
 obtain ⟨a, e, ⟨xs, hq⟩, q⟩:=q1
 subst e
 cases r1
 obtain ⟨its, rv, p, hz⟩:=I1.list hq
 refine wpAny_pyIter_list p.isList ?_
 refine ⟨s1.heap.objs.size, [s1.heap.objs.size], _, _, H1, rfl, I1.kept (t':=s1.toks) fun b o e => Heap.get?_push_of_some _ e, turn_list a _, ⟨_, Heap.get?_push_size _ rfl, rfl, rfl⟩, fun b hb => ?_, q⟩
 have e : b = s1.heap.objs.size:=by simpa using hb
 subst e
 exact I1.fpOk (Nat.le_refl _) (I1.hok.fresh (Nat.le_refl _))
theorem pi_tup {l : Expr} {tl : TE} (hl : PE X l tl) : PI X tg l (iTup X.K tl):=by
 intro pins s σ H R I h
 refine thn (hl pins s σ H _ I h) fun v s1 ⟨x, H1, I1, r1, q1⟩ => ?_
 obtain ⟨a, e, ⟨xs, hq⟩, q⟩:=q1
 subst e
 cases r1
 obtain ⟨its, rv, p, hz⟩:=I1.tuple hq
 refine wpAny_pyIter_tuple (show s1.heap.IsTuple a its.toArray from p) ?_
 refine ⟨s1.heap.objs.size, [s1.heap.objs.size], _, _, H1, rfl, I1.kept (t':=s1.toks) fun b o e => Heap.get?_push_of_some _ e, turn_tuple a _, ⟨_, Heap.get?_push_size _ rfl, rfl, rfl⟩, fun b hb => ?_, q⟩
 have e : b = s1.heap.objs.size:=by simpa using hb
 subst e
 exact I1.fpOk (Nat.le_refl _) (I1.hok.fresh (Nat.le_refl _))
theorem range_it {pins : List (Addr × Obj)} {σ : St} {H : Hp} {s : Shared} {R : It → Hp → Prop} {E : Value → Shared → Prop} {lo hi : Int} {t u v : Tok} {tk : Nat} (I : Inv X pins σ H s) (h1 : -(2 ^ 62) ≤ lo) (h2 : lo < 2 ^ 62) (h3 : -(2 ^ 62) ≤ hi) (h4 : hi < 2 ^ 62)
  (q : R (Itr lo (hi - lo).toNat) H) : wpAny (model X.prog X.w) X.A (pyIter (.ref s.heap.objs.size)) (PIE X pins σ tg R) E { s with heap := s.heap.push { cls := .type "range", data := .fields #[.int lo t, .int hi u, .int 1 v] }, toks := tk } := by
 refine wpAny_pyIter_range (IsRange.new ..) (small_one h1 h2 h3 h4) ?_
 have I1 : Inv X pins σ H { s with heap := s.heap.push { cls := .type "range", data := .fields #[.int lo t, .int hi u, .int 1 v] }, toks := tk } := I.kept fun b o e => Heap.get?_push_of_some _ e
 refine ⟨(s.heap.push { cls := .type "range", data := .fields #[.int lo t, .int hi u, .int 1 v] }).objs.size, [(s.heap.push { cls := .type "range", data := .fields #[.int lo t, .int hi u, .int 1 v] }).objs.size], _, _, H, rfl,
  I1.kept (t':=tk) fun b o e => Heap.get?_push_of_some _ e, turn_range _ lo (hi - lo).toNat, ?_, fun b hb => ?_, q⟩
 ·have e1 : lo + ((0 : Nat) : Int) * 1 = lo:=by simp
  have e2 : (((hi - lo).toNat : Nat) : Int) - ((0 : Nat) : Int) = Builtin.Range.rangeSize lo hi 1:=by rw [rangeSize_one]; split <;> omega
  show IsRangeIter _ _ (lo + ((0 : Nat) : Int) * 1) ((((hi - lo).toNat : Nat) : Int) - ((0 : Nat) : Int)) 1
  rw [e1, e2]
  exact Heap.get?_push_size _ rfl
 ·have e : b = (s.heap.push { cls := .type "range", data := .fields #[.int lo t, .int hi u, .int 1 v] }).objs.size := by simpa using hb
  subst e
  exact I1.fpOk (Nat.le_refl _) (I1.hok.fresh (Nat.le_refl _))
noncomputable def iRng1 (ta : TA) : TI:=fun σ H R => ta σ H fun vs H1 => ∃ j : Int, vs = [.int j] ∧ -(2 ^ 62) ≤ j ∧ j < 2 ^ 62 ∧ R (Itr 0 j.toNat) H1
theorem pi_range1 {a : Expr} {ta : TA} {p pos : Pos} (hg : Gl X "range") (hm : X.mg "range" = none) (ha : PA X [a] ta) (hs : starEach [a] X.env = [(false, eval a X.env)] := by rfl) : PI X tg (.Call (.Name "range" p) [a] [] pos) (iRng1 ta) := by
 intro pins s σ H R I h
 refine Call_ (ld_blt I hg hm boot_range (PyProof.Rows.callWith_type1 (thn (ha pos pins s σ H _ I h) fun us s1 ⟨vs, H1, I1, r1, q1⟩ => ?_) hs rfl))
 obtain ⟨j, e, q1, q2, q⟩:=q1
 subst e
 cases r1 with
 | cons r rr =>
  cases rr
  obtain ⟨t, rfl⟩:=r
  exact call_range_1 (range_it I1 (by omega) (by omega) q1 q2 (by simpa using q))
noncomputable def tFor (wi : TI) (g : TG) (tb : TS) : TS:=fun D σ H => wi σ H fun J H1 => ∃ W : Nat → Nat → St → Hp → Prop, (∃ m, W 0 m σ H1) ∧ ∀ i m σ H, W i m σ H →
 (J.stop i H ∧ D.nx σ H) ∨ (J.go i H ∧ ∃ N : St → Hp → Prop, (∀ σ' H', N σ' H' → ∃ m', m' < m ∧ W (i + 1) m' σ' H') ∧ ∀ x H', J.yld i H x H' → g x σ H' fun σ2 H2 => tb { D with nx:=N, ct:=N, bk:=D.nx } σ2 H2)
noncomputable def pinsAt (fp : List Addr) (h : Heap) : List (Addr × Obj):=fp.filterMap fun b => (h.get? b).map fun o => (b, o)
theorem mem_pinsAt {fp : List Addr} {h : Heap} {b : Addr} {o : Obj} (hb : b ∈ fp) (e : h.get? b = some o) : (b, o) ∈ pinsAt fp h:=List.mem_filterMap.mpr ⟨b, hb, by rw [e]; rfl⟩
theorem of_pinsAt {fp : List Addr} {h : Heap} {p : Addr × Obj} (hp : p ∈ pinsAt fp h) : p.1 ∈ fp ∧ h.get? p.1 = some p.2:=by
 obtain ⟨b, hb, e⟩:=List.mem_filterMap.mp hp
 cases q : h.get? b with
 | none => rw [q] at e; cases e
 | some o =>
  rw [q] at e
  have e' : (b, o) = p:=Option.some.inj e
  subst e'
  exact ⟨hb, q⟩
theorem Inv.pinned {pins : List (Addr × Obj)} {σ : St} {H : Hp} {s : Shared} {fp : List Addr} (I : Inv X pins σ H s) (hf : ∀ b ∈ fp, FpOk X pins H b) (ho : ∀ b ∈ fp, ∃ o, s.heap.get? b = some o ∧ ∀ v, o.data ≠ .cell v) : Inv X (pins ++ pinsAt fp s.heap) σ H s :=
 I.pins_of fun p hp => (List.mem_append.mp hp).elim (fun z => I.pin p (List.mem_append_right _ z)) fun z => by
  obtain ⟨hb, e⟩:=of_pinsAt z
  obtain ⟨f0, f1, f2, _⟩:=hf p.1 hb
  obtain ⟨o, e', d⟩:=ho p.1 hb
  rw [e] at e'; cases e'
  exact ⟨e, f0, f1, f2, d⟩
theorem Inv.unpinned {pins pl : List (Addr × Obj)} {σ : St} {H : Hp} {s : Shared} (I : Inv X (pins ++ pl) σ H s) : Inv X pins σ H s:=I.pins_of fun p hp => I.pin p (List.mem_append_right _ (List.mem_append_left _ hp))
theorem ps_for {iter : Expr} {body : List Stmt} {wi : TI} {g : TG} {tb : TS} {pos : Pos} (hp : PassesOwn (model X.prog X.w) X.A X.env X.xe) (hc : X.calm = true) (hi : PI X tg iter wi) (hg : PG X tg g) (hb : PSs X body tb)
  (hs : ∀ x, foldedSetIterable iter X.env x = pure x:=by intro _; rfl) : PS X (.For tg iter body [] pos) (tFor wi g tb):=by
 intro pins s σ H D I h
 refine wpAny_For (thn (hi pins s σ H _ I h) fun v s1 h1 => thn h1 fun itv s2 h2 => ?_) hs
 obtain ⟨it, fp, tn, J, H2, e, I2, T, st2, f2, W, ⟨m0, w0⟩, turn⟩:=h2
 subst e
 have stat : ∀ {H' : Hp}, (∀ b ∈ fp, H' b = none) → ∀ b ∈ fp, FpOk X pins H' b:=fun hn b hb => ⟨hn b hb, (f2 b hb).2⟩
 refine codeAny_forLoop_any (fun n s' => ∃ i σ' H', Inv X pins σ' H' s' ∧ tn i s'.heap ∧ (∀ b ∈ fp, H' b = none) ∧ W i n σ' H') ?_ m0 ⟨0, σ, H2, I2, st2, fun b hb => (f2 b hb).1, w0⟩
 rintro n s3 ⟨i, σ3, H3, I3, st3, fr3, w3⟩
 rcases turn i n σ3 H3 w3 with ⟨stop, qn⟩ | ⟨go, N, hN, step⟩
 ·refine wpAny_passesOwn hp (thn (T.done X rfl rfl rfl hc i pins s3 σ3 H3 X.xe I3 (stat fr3) st3 stop) fun r s4 ⟨hr, I4⟩ => ?_)
  subst hr
  exact wpAny_execs_nil ⟨σ3, H3, I4, qn⟩
 ·refine wpAny_passesOwn hp (thn (T.item X rfl rfl rfl hc i pins s3 σ3 H3 X.xe I3 (stat fr3) st3 go) fun r s4 ⟨u, hr, h4⟩ => ?_)
  subst hr
  refine wpAny_passesOwn hp (thn h4 fun _ s5 ⟨x, H5, I5, r5, y5, st5, fr5⟩ => ?_)
  have I5':=I5.pinned (stat fr5) (T.obj _ _ st5)
  refine wpAny_passesOwn hp (thn (hg _ s5 σ3 H5 x u _ I5' r5 (step x H5 y5)) fun _ s6 ⟨σ6, H6, I6, q6⟩ => ?_)
  refine wpAny_passesOwn hp (thn (hb _ s6 σ6 H6 _ I6 q6) fun f s7 q7 => ?_)
  have again : ∀ {σ7 : St} {H7 : Hp}, Inv X (pins ++ pinsAt fp s5.heap) σ7 H7 s7 → N σ7 H7 → ∃ m, m < n ∧ ∃ i σ' H', Inv X pins σ' H' s7 ∧ tn i s7.heap ∧ (∀ b ∈ fp, H' b = none) ∧ W i m σ' H':=fun {σ7 H7} I7 n7 => by
   obtain ⟨m', hm, w7⟩:=hN σ7 H7 n7
   refine ⟨m', hm, i + 1, σ7, H7, I7.unpinned, T.keep _ _ _ st5 fun b hb o e => (I7.pin (b, o) (List.mem_append_right _ (List.mem_append_right _ (mem_pinsAt hb e)))).1, fun b hb => ?_, w7⟩
   obtain ⟨o, e, d⟩:=T.obj _ _ st5 b hb
   exact (I7.pin (b, o) (List.mem_append_right _ (List.mem_append_right _ (mem_pinsAt hb e)))).2.1
  cases f with
  | next => obtain ⟨σ7, H7, I7, n7⟩:=q7; exact again I7 n7
  | cont => obtain ⟨σ7, H7, I7, n7⟩:=q7; exact again I7 n7
  | brk => obtain ⟨σ7, H7, I7, q7⟩:=q7; exact ⟨σ7, H7, I7.unpinned, q7⟩
  | ret v => obtain ⟨x7, σ7, H7, I7, r7, q7⟩:=q7; exact ⟨x7, σ7, H7, I7.unpinned, r7, q7⟩
end
end L2
namespace L2
open PySem PySem.Spec PyProof.Rows
noncomputable abbrev R2:=V → V → Hp → VK → Prop
noncomputable def OpR (X : Cx) (f : Value → Value → Sem Value) (r : R2) : Prop :=
 ∀ (pins : List (Addr × Obj)) (s : Shared) (σ : St) (H : Hp) (x y : V) (v u : Value) (Q : VK), Inv X pins σ H s → RelV x v → RelV y u → r x y H Q →
  wpAny (model X.prog X.w) X.A (f v u) (EP X pins σ Q) X.xe s
noncomputable def UnR (X : Cx) (f : Value → Sem Value) (r : V → Hp → VK → Prop) : Prop :=
 ∀ (pins : List (Addr × Obj)) (s : Shared) (σ : St) (H : Hp) (x : V) (v : Value) (Q : VK), Inv X pins σ H s → RelV x v → r x H Q →
  wpAny (model X.prog X.w) X.A (f v) (EP X pins σ Q) X.xe s
noncomputable def CallR (X : Cx) (f : Value) (r : List V → Hp → VK → Prop) : Prop :=
 ∀ (pins : List (Addr × Obj)) (s : Shared) (σ : St) (H : Hp) (xs : List V) (us : List Value) (Q : VK), Inv X pins σ H s → Vals xs us → r xs H Q →
  wpAny (model X.prog X.w) X.A (call f us) (EP X pins σ Q) X.xe s
noncomputable def tOp (r : R2) (ta tb : TE) : TE:=fun σ H Q => ta σ H fun x H1 => tb σ H1 fun y H2 => r x y H2 Q
noncomputable def tUn (r : V → Hp → VK → Prop) (ta : TE) : TE:=fun σ H Q => ta σ H fun x H1 => r x H1 Q
noncomputable def rI (C : Int → Int → Prop) (g : Int → Int → V) : R2:=fun x y H Q => ∃ i j, x = .int i ∧ y = .int j ∧ C i j ∧ Q (g i j) H
noncomputable def rI0 (g : Int → Int → V) : R2:=fun x y H Q => ∃ i j, x = .int i ∧ y = .int j ∧ Q (g i j) H
noncomputable def rU (g : Int → V) : V → Hp → VK → Prop:=fun x H Q => ∃ i, x = .int i ∧ Q (g i) H
section
variable {X : Cx} {a b c : Expr} {ta tb tc : TE} {pos : Pos}
theorem binT (ha : PE X a ta) (hb : PE X b tb) {pins : List (Addr × Obj)} {s : Shared} {σ : St} {H : Hp} {R : V → V → Hp → Prop} (I : Inv X pins σ H s)
  (h : ta σ H fun x H1 => tb σ H1 fun y H2 => R x y H2) {Q : Value → Shared → Prop} {f : Value → Value → Sem Value}
  (hf : ∀ v u s2 x y H2, Inv X pins σ H2 s2 → RelV x v → RelV y u → R x y H2 → wpAny (model X.prog X.w) X.A (f v u) Q X.xe s2) :
  wpAny (model X.prog X.w) X.A (eval a X.env) (fun v s₁ => wpAny (model X.prog X.w) X.A (eval b X.env) (fun u s₂ => wpAny (model X.prog X.w) X.A (f v u) Q X.xe s₂) X.xe s₁) X.xe s:=by
 refine thn (ha pins s σ H _ I h) fun v s1 ⟨x, H1, I1, r1, q1⟩ => ?_
 refine thn (hb pins s1 σ H1 _ I1 q1) fun u s2 ⟨y, H2, I2, r2, q2⟩ => ?_
 exact hf v u s2 x y H2 I2 r1 r2 q2
theorem pe_op {op : Operator} {r : R2} (ho : OpR X (binaryOp op) r) (ha : PE X a ta) (hb : PE X b tb) : PE X (.BinOp a op b pos) (tOp r ta tb):=by
 intro pins s σ H Q I h
 exact wpAny_BinOp (binT ha hb I h fun v u s2 x y H2 I2 rx ry q => ho pins s2 σ H2 x y v u Q I2 rx ry q)
theorem pe_un {op : UnaryOp} {r : V → Hp → VK → Prop} (ho : UnR X (unaryOp op) r) (ha : PE X a ta) : PE X (.UnaryOp op a pos) (tUn r ta):=by
 intro pins s σ H Q I h
 exact UnaryOp_ (thn (ha pins s σ H _ I h) fun v s1 ⟨x, H1, I1, r1, q1⟩ => ho pins s1 σ H1 x v Q I1 r1 q1)
theorem opI {f : Value → Value → Sem Value} {C : Int → Int → Prop} {g : Int → Int → Int}
  (rule : ∀ (i j : Int) (t u : Tok) (s : Shared) (Q : Value → Shared → Prop) (E : Value → Shared → Prop), C i j → Q (.int (g i j) s.toks) { s with toks:=s.toks + 1 } → wpAny (model X.prog X.w) X.A (f (.int i t) (.int j u)) Q E s) :
  OpR X f (rI C fun i j => .int (g i j)):=by
 intro pins s σ H x y v u Q I rx ry h
 obtain ⟨i, j, rfl, rfl, hc, q⟩:=h
 obtain ⟨t, rfl⟩:=rx
 obtain ⟨t', rfl⟩:=ry
 exact rule i j t t' s _ _ hc ⟨.int (g i j), H, I.tok _, ⟨_, rfl⟩, q⟩
theorem opI0 {f : Value → Value → Sem Value} {g : Int → Int → Int}
  (rule : ∀ (i j : Int) (t u : Tok) (s : Shared) (Q : Value → Shared → Prop) (E : Value → Shared → Prop), Q (.int (g i j) s.toks) { s with toks:=s.toks + 1 } → wpAny (model X.prog X.w) X.A (f (.int i t) (.int j u)) Q E s) :
  OpR X f (rI0 fun i j => .int (g i j)):=by
 intro pins s σ H x y v u Q I rx ry h
 obtain ⟨i, j, rfl, rfl, q⟩:=h
 obtain ⟨t, rfl⟩:=rx
 obtain ⟨t', rfl⟩:=ry
 exact rule i j t t' s _ _ ⟨.int (g i j), H, I.tok _, ⟨_, rfl⟩, q⟩
theorem opB0 {f : Value → Value → Sem Value} {g : Int → Int → Bool}
  (rule : ∀ (i j : Int) (t u : Tok) (s : Shared) (Q : Value → Shared → Prop) (E : Value → Shared → Prop), Q (.bool (g i j)) s → wpAny (model X.prog X.w) X.A (f (.int i t) (.int j u)) Q E s) :
  OpR X f (rI0 fun i j => .bl (g i j)):=by
 intro pins s σ H x y v u Q I rx ry h
 obtain ⟨i, j, rfl, rfl, q⟩:=h
 obtain ⟨t, rfl⟩:=rx
 obtain ⟨t', rfl⟩:=ry
 exact rule i j t t' s _ _ ⟨.bl (g i j), H, I, rfl, q⟩
noncomputable def CDiv (i j : Int) : Prop:=0 < j ∧ j < 1073741824
noncomputable def CMul (i j : Int) : Prop:=(-(2 ^ 64) < i ∧ i < 2 ^ 64) ∨ (-(2 ^ 64) < j ∧ j < 2 ^ 64)
theorem CMul.ok {i j : Int} (h : CMul i j) : IntMulOk i j:=by
 rcases h with ⟨h1, h2⟩ | ⟨h1, h2⟩
 ·exact .of_left (intBits_le_64 h1 h2)
 ·exact .of_right (intBits_le_64 h1 h2)
theorem op_add : OpR X (binaryOp .Add) (rI0 fun i j => .int (i + j)):=opI0 fun _ _ _ _ _ _ _ q => add_int q
theorem op_sub : OpR X (binaryOp .Sub) (rI0 fun i j => .int (i - j)):=opI0 fun _ _ _ _ _ _ _ q => sub_int q
theorem op_mul : OpR X (binaryOp .Mult) (rI CMul fun i j => .int (i * j)):=opI fun _ _ _ _ _ _ _ hc q => mul_int q hc.ok
theorem op_fdiv : OpR X (binaryOp .FloorDiv) (rI CDiv fun i j => .int (i / j)):=opI fun i j _ _ _ _ _ hc q => by
 have h1 : (0 : Int) < j:=hc.1
 have h2 : j < 1073741824:=hc.2
 exact floordiv_int (by omega) (by rw [Int.fdiv_eq_ediv_of_nonneg i (by omega)]; exact q) (.inl (PyProof.noPylong_small (by omega)))
theorem op_mod : OpR X (binaryOp .Mod) (rI (fun _ j => 0 < j) fun i j => .int (i % j)):=opI fun i j _ _ _ _ _ hc q => by
 have h1 : (0 : Int) < j:=hc
 exact mod_int' (by omega) (by rw [Int.fmod_eq_emod_of_nonneg i (by omega)]; exact q)
theorem unI {f : Value → Sem Value} {g : Int → Int}
  (rule : ∀ (i : Int) (t : Tok) (s : Shared) (Q : Value → Shared → Prop) (E : Value → Shared → Prop), Q (.int (g i) s.toks) { s with toks:=s.toks + 1 } → wpAny (model X.prog X.w) X.A (f (.int i t)) Q E s) :
  UnR X f (rU fun i => .int (g i)):=by
 intro pins s σ H x v Q I rx h
 obtain ⟨i, rfl, q⟩:=h
 obtain ⟨t, rfl⟩:=rx
 exact rule i t s _ _ ⟨.int (g i), H, I.tok _, ⟨_, rfl⟩, q⟩
theorem un_neg : UnR X (unaryOp .USub) (rU fun i => .int (-i)):=unI fun _ _ _ _ _ q => neg_int q
end
section
variable {X : Cx} {a b c : Expr} {ta tb tc : TE} {pos : Pos}
theorem op_lt : OpR X (compareOp .Lt) (rI0 fun i j => .bl (decide (i < j))):=opB0 fun _ _ _ _ _ _ _ q => lt_int q
theorem op_le : OpR X (compareOp .LtE) (rI0 fun i j => .bl (decide (i ≤ j))):=opB0 fun _ _ _ _ _ _ _ q => le_int q
theorem op_gt : OpR X (compareOp .Gt) (rI0 fun i j => .bl (decide (j < i))):=opB0 fun _ _ _ _ _ _ _ q => gt_int q
theorem nomark (b : Expr) {op : CmpOp} (h : op ≠ .In:=by decide) (h2 : op ≠ .NotIn:=by decide) : behindInMarks op b = false:=by
 have e1 : (op == CmpOp.In) = false:=by cases op <;> first | rfl | exact absurd rfl h
 have e2 : (op == CmpOp.NotIn) = false:=by cases op <;> first | rfl | exact absurd rfl h2
 cases b <;> simp [behindInMarks, e1, e2]
theorem pe_cmpR {op : CmpOp} {r : R2} (ho : OpR X (compareOp op) r) (ha : PE X a ta) (hb : PE X b tb) (hm : behindInMarks op b = false) : PE X (.Compare a [op] [b] pos) (tOp r ta tb):=by
 intro pins s σ H Q I h
 exact wpAny_Compare1 (binT ha hb I h fun v u s2 x y H2 I2 rx ry q => ho pins s2 σ H2 x y v u Q I2 rx ry q) hm
noncomputable def tTest (t : TE) : TT:=fun σ H Q => t σ H fun x H' => ∃ k, x = .bl k ∧ Q k H'
theorem pt_cmpR {op : CmpOp} {r : R2} (ho : OpR X (compareOp op) r) (ha : PE X a ta) (hb : PE X b tb) (hm : behindInMarks op b = false) : PT X (.Compare a [op] [b] pos) (tTest (tOp r ta tb)):=by
 intro pins s σ H Q I h
 refine wpAny_isTrue_Compare1 (thn (ha pins s σ H _ I h) fun v s1 ⟨x, H1, I1, r1, q1⟩ => thn (hb pins s1 σ H1 _ I1 q1) fun u s2 ⟨y, H2, I2, r2, q2⟩ =>
  thn (ho pins s2 σ H2 x y v u _ I2 r1 r2 q2) fun c s3 ⟨z, H3, I3, r3, k, e, q3⟩ => ?_) hm
 subst e
 cases r3
 exact wpAny_truthy_bool ⟨H3, I3, q3⟩
noncomputable def tChain (r r' : R2) (ta tb tc : TE) : TE:=fun σ H Q => ta σ H fun x H1 => tb σ H1 fun y H2 => r x y H2 fun z H3 => ∃ k, z = .bl k ∧
 (if k = true then tc σ H3 fun w' H4 => r' y w' H4 Q else Q (.bl false) H3)
theorem pe_chain {op op' : CmpOp} {r r' : R2} (ho : OpR X (compareOp op) r) (ho' : OpR X (compareOp op') r') (ha : PE X a ta) (hb : PE X b tb) (hc : PE X c tc)
  (hm : lastMarks [op, op'] [b, c] = false:=by with_unfolding_all rfl) : PE X (.Compare a [op, op'] [b, c] pos) (tChain r r' ta tb tc):=by
 intro pins s σ H Q I h
 refine Compare_chain (thn (ha pins s σ H _ I h) fun v s1 ⟨x, H1, I1, r1, q1⟩ => chain_link (thn (hb pins s1 σ H1 _ I1 q1) fun u s2 ⟨y, H2, I2, r2, q2⟩ =>
  thn (ho pins s2 σ H2 x y v u _ I2 r1 r2 q2) fun d s3 ⟨z, H3, I3, r3, k, e, q3⟩ => ?_)) hm
 subst e
 cases r3
 refine wpAny_truthy_bool ?_
 cases k with
 | false => exact ite_ff ⟨.bl false, H3, I3, rfl, q3⟩
 | true => exact ite_tt (chain_last (thn (hc pins s3 σ H3 _ I3 q3) fun w' s4 ⟨z', H4, I4, r4, q4⟩ => ho' pins s4 σ H4 y z' u w' Q I4 r2 r4 q4))
theorem line63 : (sizeLine : Nat) < 2 ^ 63:=by rw [sizeLine_eq]; decide
theorem op_add_str : OpR X (binaryOp .Add) (fun x y H Q => ∃ i j, x = .str i ∧ y = .str j ∧ i.length + j.length ≤ sizeLine ∧ Q (.str (i ++ j)) H):=by
 intro pins s σ H x y v u Q I rx ry h
 obtain ⟨i, j, rfl, rfl, hz, q⟩:=h
 obtain ⟨t, rfl⟩:=rx
 obtain ⟨t', rfl⟩:=ry
 exact add_str (fun t' tk => ⟨.str (i ++ j), H, I.tok _, ⟨_, rfl⟩, q⟩) hz
theorem vals1 {x : V} {us : List Value} (r : Vals [x] us) : ∃ u, us = [u] ∧ RelV x u:=by
 cases r with
 | cons r1 r2 => cases r2; exact ⟨_, rfl, r1⟩
theorem vals2 {x y : V} {us : List Value} (r : Vals [x, y] us) : ∃ u w', us = [u, w'] ∧ RelV x u ∧ RelV y w':=by
 cases r with
 | cons r1 r2 =>
  cases r2 with
  | cons r3 r4 => cases r4; exact ⟨_, _, rfl, r1, r3⟩
theorem call_max2 (hc : X.calm = true) : CallR X (.builtin "max") (fun xs H Q => ∃ i j, xs = [.int i, .int j] ∧ Q (.int (if j > i then j else i)) H) := by
 intro pins s σ H xs us Q I r h
 obtain ⟨i, j, rfl, q⟩:=h
 obtain ⟨u, w', rfl, ⟨t, rfl⟩, ⟨t', rfl⟩⟩:=vals2 r
 refine max_two_ints (I.ok.hd hc) fun h' tk k => ⟨_, H, I.kept k, ?_, q⟩
 by_cases hj : j > i
 ·rw [if_pos hj, if_pos hj]; exact ⟨_, rfl⟩
 ·rw [if_neg hj, if_neg hj]; exact ⟨_, rfl⟩
theorem call_int1 : CallR X (.type "int") (fun xs H Q => (∃ i, xs = [.int i] ∧ Q (.int i) H) ∨ ∃ k, xs = [.bl k] ∧ Q (.int (if k then 1 else 0)) H) := by
 intro pins s σ H xs us Q I r h
 rcases h with ⟨i, rfl, q⟩ | ⟨k, rfl, q⟩
 ·obtain ⟨u, rfl, t, rfl⟩:=vals1 r
  exact call_int_int ⟨.int i, H, I, ⟨_, rfl⟩, q⟩
 ·obtain ⟨u, rfl, r1⟩:=vals1 r
  cases r1
  exact call_int_bool ⟨.int (if k then 1 else 0), H, I.tok _, ⟨_, rfl⟩, q⟩
end
end L2
namespace L2
open PySem PySem.Spec PyProof.Rows
structure ObjM (h : Heap) (x dx C : Addr) (mA : Str → Option Value) : Prop where
 obj : h.get? x = some (PySem.W.instObj C dx)
 ns : h.Ns1 dx mA
 ne : dx ≠ x
theorem lookIn_ns {h : Heap} {dx : Addr} {mA : Str → Option Value} (n : h.Ns1 dx mA) : ∃ od, h.get? dx = some od ∧ ∀ name, PySem.W.lookIn name od = some (mA name):=by
 obtain ⟨o, es, ep, ho, hd, hk, _, hm⟩:=n
 refine ⟨o, ho, fun name => ?_⟩
 have e:=hm name
 unfold nsFind findBy at e
 rw [← Array.find?_toList] at e
 unfold PySem.W.lookIn
 rw [hd]
 dsimp only
 split
 ·rename_i y q
  rw [q] at e
  exact congrArg some e
 ·rename_i q
  rw [q] at e
  have a : es.toList.any (·.refKey) = false:=by
   rw [List.any_eq_false]
   intro y hy
   obtain ⟨z, t, hkey⟩:=hk y (Array.mem_toList_iff.mp hy)
   simp [DictEntry.refKey, hkey]
  have a' : ¬ es.toList.any (·.refKey) = true:=by rw [a]; exact Bool.false_ne_true
  rw [if_neg a']
  exact congrArg some e
theorem ObjM.look {h : Heap} {x dx C : Addr} {mA : Str → Option Value} (I : ObjM h x dx C mA) : ∃ od, PySem.W.InstAt h x (PySem.W.instObj C dx) C (some od) ∧ ∀ name, PySem.W.lookIn name od = some (mA name) :=
 let ⟨od, ho, hl⟩:=lookIn_ns I.ns
 ⟨od, ⟨I.obj, rfl, rfl, ho⟩, hl⟩
section
variable {prog : Program} {w : World} {A : Around} {E : Value → Shared → Prop} {s : Shared} {K : PySem.W.Frag} {x dx C f : Addr} {mA : Str → Option Value} {name : Str} {v : Value}
theorem get_map {expr : Bool} {Q : Value → Shared → Prop} (X : K.In s.heap) (I : ObjM s.heap x dx C mA) (hg : PySem.W.plainGet K C name = true) (hh : PySem.W.hasDictIn K C = true)
  (ha : PySem.W.findIn K (.ref C) name = some none) (hv : mA name = some v) (hv' : PySem.W.handedIn v = true) (h : Q v { s with toks:=s.toks + 1 }) :
  wpAny (model prog w) A (getAttr (.ref x) name expr) Q E s:=by
 obtain ⟨od, J, hl⟩:=I.look
 exact PySem.W.get_value X J (PySem.W.plainGet_of hg).1 (PySem.W.findObj_own hh ha rfl (by rw [hl, hv])) hv' h
theorem get_meth {pl : Sem Bool} {Q : Value × List Value → Shared → Prop} (X : K.In s.heap) (I : ObjM s.heap x dx C mA) (hg : PySem.W.plainGet K C name = true)
  (hf : PySem.W.findIn K (.ref C) name = some (some (.ref f))) (ht : PySem.W.isFn K (.ref f) = true) (hv : mA name = none) (h : Q (.ref f, [.ref x]) s) :
  wpAny (model prog w) A (getMethod (.ref x) name pl) Q E s:=by
 obtain ⟨od, J, hl⟩:=I.look
 exact PySem.W.method_fn X J (PySem.W.plainGet_of hg).1 (PySem.W.plainGet_of hg).2 hf (beq_iff_eq.mp ht) (by show (PySem.W.lookIn name od).map (·.isSome) = some false; rw [hl, hv]; rfl) h
theorem set_map {ns : List Str} {Q : Unit → Shared → Prop} (X : K.In s.heap) (I : ObjM s.heap x dx C mA)
  (hs : PySem.W.findIn K (.ref C) "__setattr__" = some (some (.builtin "object.__setattr__"))) (hp : PySem.W.plainOver K C = true) (ht : PySem.W.takerIn K C name = some none) (hh : PySem.W.hasDictIn K C = true)
  (hw : PySem.Within mA ns) (hsz : ns.length ≤ sizeLine)
  (h : ∀ h', ObjM h' x dx C (fun y => if y = name then some v else mA y) → Heap.SameBut dx s.heap h' → Q () { s with heap:=h', toks:=s.toks + 2 }) :
  wpAny (model prog w) A (setAttr (.ref x) name v) Q E s:=by
 obtain ⟨od, J, hl⟩:=I.look
 refine PySem.W.set_plain X J hs (PySem.W.osa_open (s:={ s with toks:=s.toks + 1 }) (r:=none) X J hp ht fun b => ?_)
 obtain ⟨cd, hc, hd'⟩:=PySem.W.any_some hh
 have hx : s.heap.get? x = some ⟨.ref C, some dx, .plain, #[]⟩:=I.obj
 refine wpAny_bind (wpAny_pure (wpAny_bind (wpAny_bind (wpAny_loadPart hx (wpAny_bind (PySem.W.Looks.here (s:={ s with toks:=s.toks + 1 }) (PySem.W.looks_clsIn X hc) ?_))))))
 rw [hd']
 refine wpAny_pure (a:=some dx) (wpAny_bind (wpAny_pure (wpAny_bind ?_)))
 refine wpAny_nsSet1 (s:={ s with toks:=s.toks + 1 }) I.ns fun h' hn2 hs2 => ?_
 obtain ⟨oD, esD, epD, hoD, hdD, hcD⟩:=hn2.count (PySem.Within.cons name v hw)
 refine wpAny_bind (wpAny_lookBehind hoD (by rw [hdD]; exact pastItsLine_dict (Nat.le_trans hcD (by rw [List.length_cons]; omega))) ?_)
 exact wpAny_pure (h _ ⟨(hs2.2 _ (Ne.symm I.ne)).trans I.obj, hn2, I.ne⟩ hs2)
theorem make_map {R : Result → Shared → Prop} {vs : List Value} {kw : List (Str × Value)} (X : K.In s.heap) (hm : PySem.W.makesIn K C = true)
  (hi : PySem.W.findIn K (.ref C) "__init__" = some (some (.ref f))) (hf : PySem.W.typeIn K (.ref f) = some (.type "function"))
  (h : codeAny (model prog w) (A.under (.builtin "type.__call__" ⟨.ref C :: vs, kw⟩)) (.call (.ref f) ⟨.ref (s.heap.objs.size + 1) :: vs, kw⟩) (PySem.W.InitBack (s.heap.objs.size + 1) R)
   { s with heap:=(s.heap.push PySem.W.emptyDict).push (PySem.W.instObj C s.heap.objs.size) }) :
  codeAny (model prog w) A (.call (.ref C) ⟨vs, kw⟩) R s:=by
 obtain ⟨hh, g, d, t, os⟩:=s
 exact PySem.W.make_core (PySem.W.makes_of X hm) (PySem.W.looks_findIn X hi) (fun self => PySem.W.bind_fn X self hf) (.inl rfl) h
end
noncomputable def putF (f : Str) (v : V) : List (Str × V) → List (Str × V)
 | [] => [(f, v)]
 | (g, x) :: r => if g = f then (g, v) :: r else (g, x) :: putF f v r
theorem lookup_putF (f g : Str) (v : V) : ∀ fs : List (Str × V), (putF f v fs).lookup g = if g = f then some v else fs.lookup g
 | [] => by
  show List.lookup g [(f, v)] = _
  by_cases h : g = f
  ·have hb : (g == f) = true:=beq_iff_eq.mpr h
   simp only [List.lookup, hb, if_pos h]
  ·have hb : (g == f) = false:=beq_eq_false_iff_ne.mpr h
   simp only [List.lookup, hb, if_neg h]
 | (k, x) :: r => by
  have ih:=lookup_putF f g v r
  rw [show putF f v ((k, x) :: r) = (if k = f then (k, v) :: r else (k, x) :: putF f v r) from rfl]
  by_cases hk : k = f
  ·rw [if_pos hk]
   by_cases h : g = k
   ·have hb : (g == k) = true:=beq_iff_eq.mpr h
    simp only [List.lookup, hb, if_pos (h.trans hk)]
   ·have hb : (g == k) = false:=beq_eq_false_iff_ne.mpr h
    simp only [List.lookup, hb, if_neg (fun e : g = f => h (e.trans hk.symm))]
  ·rw [if_neg hk]
   by_cases h : g = k
   ·have hb : (g == k) = true:=beq_iff_eq.mpr h
    simp only [List.lookup, hb, if_neg (fun e : g = f => hk (h.symm.trans e))]
   ·have hb : (g == k) = false:=beq_eq_false_iff_ne.mpr h
    simp only [List.lookup, hb]
    exact ih
theorem keys_putF (f : Str) (v : V) : ∀ fs : List (Str × V), f ∈ (putF f v fs).map (·.1) ∧ ∀ g, g ∈ fs.map (·.1) → g ∈ (putF f v fs).map (·.1)
 | [] => ⟨by simp [putF], fun g h => by simp at h⟩
 | (k, x) :: r => by
  obtain ⟨i1, i2⟩:=keys_putF f v r
  rw [show putF f v ((k, x) :: r) = (if k = f then (k, v) :: r else (k, x) :: putF f v r) from rfl]
  by_cases hk : k = f
  ·rw [if_pos hk]
   subst hk
   exact ⟨by simp, fun g h => by simpa using h⟩
  ·rw [if_neg hk]
   refine ⟨?_, fun g h => ?_⟩
   ·rw [List.map_cons]
    exact List.mem_cons_of_mem _ i1
   ·rw [List.map_cons] at h ⊢
    rcases List.mem_cons.mp h with e | e
    ·exact List.mem_cons.mpr (.inl e)
    ·exact List.mem_cons_of_mem _ (i2 g e)
theorem length_putF (f : Str) (v : V) : ∀ fs : List (Str × V), (putF f v fs).length ≤ fs.length + 1
 | [] => by simp [putF]
 | (k, x) :: r => by
  have ih:=length_putF f v r
  rw [show putF f v ((k, x) :: r) = (if k = f then (k, v) :: r else (k, x) :: putF f v r) from rfl]
  by_cases hk : k = f
  ·rw [if_pos hk, List.length_cons, List.length_cons]; omega
  ·rw [if_neg hk, List.length_cons, List.length_cons]; omega
theorem RelO.some_of {v : V} {o : Option Value} (r : RelO (some v) o) : ∃ u, o = some u ∧ RelV v u:=by
 cases o with
 | none => exact (show False from r).elim
 | some u => exact ⟨u, rfl, r⟩
theorem RelO.none_of {o : Option Value} (r : RelO none o) : o = none:=by
 cases o with
 | none => rfl
 | some u => exact (show False from r).elim
theorem handed_of {v : V} {u : Value} (r : RelV v u) : PySem.W.handedIn u = true:=by
 cases v with
 | non => cases (show u = Value.none from r); rfl
 | bl b => cases (show u = Value.bool b from r); rfl
 | int i => obtain ⟨t, e⟩:=(show ∃ t, u = Value.int i t from r); cases e; rfl
 | str x => obtain ⟨t, e⟩:=(show ∃ t, u = Value.str x t from r); cases e; rfl
 | byt b => obtain ⟨t, e⟩:=(show ∃ t, u = Value.bytes b t from r); cases e; rfl
 | flt b => obtain ⟨t, e⟩:=(show ∃ t, u = Value.float b t from r); cases e; rfl
 | ref a => cases (show u = Value.ref a from r); rfl
 | ty n => cases (show u = Value.type n from r); rfl
section
variable {P : Program} {w : World} {H H' : Hp} {h h' : Heap} {a C dx : Addr} {fs fs' : List (Str × V)}
theorem ins_get (hok : HOk P w H h) (e : H a = some (.ins C dx fs)) : ∃ mA, ObjM h a dx C mA ∧ (∀ f, RelO (fs.lookup f) (mA f)) ∧ PySem.Within mA (fs.map (·.1)) ∧ fs.length ≤ 1000 ∧ H dx = some (.own a):=by
 obtain ⟨d, z, ne, ob, mA, n, r, q⟩:=(show ObjOk P w H h a (.ins C dx fs) from hok a _ e)
 exact ⟨mA, ⟨ob, n, ne⟩, r, q, z, d⟩
end
structure Cls (K : PySem.W.Frag) (C : Addr) : Prop where
 pg : PySem.W.plainGet K C Str.empty = true
 hd : PySem.W.hasDictIn K C = true
 po : PySem.W.plainOver K C = true
 sa : PySem.W.findIn K (.ref C) "__setattr__" = some (some (.builtin "object.__setattr__"))
theorem Cls.get {K : PySem.W.Frag} {C : Addr} (c : Cls K C) (f : Str) : PySem.W.plainGet K C f = true:=c.pg
noncomputable def NoAttr (K : PySem.W.Frag) (C : Addr) (f : Str) : Prop:=PySem.W.findIn K (.ref C) f = some none
theorem NoAttr.taker {K : PySem.W.Frag} {C : Addr} {f : Str} (n : NoAttr K C f) : PySem.W.takerIn K C f = some none:=by
 unfold PySem.W.takerIn
 rw [show PySem.W.findIn K (.ref C) f = some none from n]
 rfl
structure Con (K : PySem.W.Frag) (C : Addr) (f : Str) (v : V) (u : Value) : Prop where
 at_ : PySem.W.findIn K (.ref C) f = some (some u)
 rel : RelV v u
 get : PySem.W.specialIn K u "__get__" = some none
 cp : PySem.W.copiedNames.contains f = false
structure Meth (K : PySem.W.Frag) (C : Addr) (m : Str) (f : Addr) : Prop where
 at_ : PySem.W.findIn K (.ref C) m = some (some (.ref f))
 fn : PySem.W.isFn K (.ref f) = true
 kp : PySem.W.keepIn K (.ref f) = true
section
variable {X : Cx} {pins : List (Addr × Obj)} {σ : St} {H : Hp} {s : Shared} {a C dx : Addr} {fs : List (Str × V)} {f : Str} {v : V} {A : Around} {E : Value → Shared → Prop}
theorem getattr_ok {b : Bool} {Q : Value → Shared → Prop} (I : Inv X pins σ H s) (e : H a = some (.ins C dx fs)) (c : Cls X.K C) (n : NoAttr X.K C f) (l : fs.lookup f = some v)
  (h : ∀ u s', Inv X pins σ H s' → RelV v u → Q u s') : wpAny (model X.prog X.w) A (getAttr (.ref a) f b) Q E s:=by
 obtain ⟨mA, O, r, _, _, _⟩:=ins_get I.hok e
 obtain ⟨u, hu, ru⟩:=RelO.some_of (v:=v) (o:=mA f) (by rw [← l]; exact r f)
 exact get_map I.kIn O (c.get f) c.hd n hu (handed_of ru) (h u _ (I.tok _) ru)
theorem getmeth_ok {m : Str} {g : Addr} {pl : Sem Bool} {Q : Value × List Value → Shared → Prop} (I : Inv X pins σ H s) (e : H a = some (.ins C dx fs)) (c : Cls X.K C) (k : Meth X.K C m g) (l : fs.lookup m = none)
  (h : Q (.ref g, [.ref a]) s) : wpAny (model X.prog X.w) A (getMethod (.ref a) m pl) Q E s:=by
 obtain ⟨mA, O, r, _, _, _⟩:=ins_get I.hok e
 have hn : mA m = none:=RelO.none_of (by rw [← l]; exact r m)
 exact get_meth I.kIn O (c.get m) k.at_ k.fn hn h
theorem setattr_ok {y : V} {u : Value} {Q : Unit → Shared → Prop} (I : Inv X pins σ H s) (e : H a = some (.ins C dx fs)) (c : Cls X.K C) (n : NoAttr X.K C f) (hl : fs.length < 1000) (ry : RelV y u)
  (h : ∀ s', Inv X pins σ (upd H a (.ins C dx (putF f y fs))) s' → Q () s') : wpAny (model X.prog X.w) A (setAttr (.ref a) f u) Q E s:=by
 obtain ⟨mA, O, r, wi, _, ho⟩:=ins_get I.hok e
 have hz : (fs.map (·.1)).length ≤ sizeLine:=by rw [List.length_map, sizeLine_eq]; omega
 refine set_map I.kIn O c.sa c.po n.taker c.hd wi hz fun h' O' sb => h _ ?_
 have hd : ∃ o, h'.get? dx = some o:=let ⟨o, _, _, e', _⟩:=O'.ns; ⟨o, e'⟩
 refine I.write (x:=a) (e:=dx) (by rw [e]; exact True.intro) (.inr ho) (fun b q hb z => (sb.2 b hb).trans z) hd ?_
 refine ⟨by rw [upd_ne O.ne]; exact ho, ?_, O.ne, O'.obj, _, O'.ns, fun g => ?_, fun g hg => ?_⟩
 ·have:=length_putF f y fs; omega
 ·show RelO ((putF f y fs).lookup g) (if g = f then some u else mA g)
  rw [lookup_putF]
  by_cases q : g = f
  ·rw [if_pos q, if_pos q]; exact ry
  ·rw [if_neg q, if_neg q]; exact r g
 ·by_cases q : g = f
  ·rw [q]; exact (keys_putF f y fs).1
  ·refine (keys_putF f y fs).2 g (wi g fun z => hg ?_)
   show (if g = f then some u else mA g) = none
   rw [if_neg q]; exact z
theorem Inv.made (I : Inv X pins σ H s) : Inv X pins σ (upd (upd H s.heap.objs.size (.own (s.heap.objs.size + 1))) (s.heap.objs.size + 1) (.ins C s.heap.objs.size []))
  { s with heap:=(s.heap.push PySem.W.emptyDict).push (PySem.W.instObj C s.heap.objs.size) }:=by
 have e1 : (s.heap.push PySem.W.emptyDict).get? s.heap.objs.size = some PySem.W.emptyDict:=Heap.get?_push_size s.heap rfl
 have e2 : ((s.heap.push PySem.W.emptyDict).push (PySem.W.instObj C s.heap.objs.size)).get? (s.heap.objs.size + 1) = some (PySem.W.instObj C s.heap.objs.size):=by
  have:=Heap.get?_push_size (s.heap.push PySem.W.emptyDict) (o:=PySem.W.instObj C s.heap.objs.size) rfl
  rwa [Heap.size_push] at this
 have e3 : (s.heap.push PySem.W.emptyDict).Ns s.heap.objs.size (fun _ => none):=⟨PySem.W.emptyDict, #[], _, e1, rfl, (fun e he => absurd he (by simp)), fun _ => rfl⟩
 have I1:=I.laid (a:=s.heap.objs.size) (o:=.own (s.heap.objs.size + 1)) (h':=s.heap.push PySem.W.emptyDict) (t':=s.toks) (fun b u q => Heap.get?_push_of_some _ q) (Nat.le_refl _) ⟨_, e1⟩
 refine I1.laid (a:=s.heap.objs.size + 1) (o:=.ins C s.heap.objs.size []) (t':=s.toks) (fun b u q => Heap.get?_push_of_some _ q) (Nat.le_of_eq (Heap.size_push _ _)) ?_
 have ne : s.heap.objs.size ≠ s.heap.objs.size + 1:=Nat.ne_of_lt (Nat.lt_succ_self _)
 refine ⟨by rw [upd_ne ne, upd_same], Nat.zero_le _, ne, e2, fun _ => none, (Heap.Ns1.of_empty e3).at fun o q => Heap.get?_push_of_some _ q, fun _ => True.intro, fun y hy => absurd rfl hy⟩
theorem attr_of {prog : Program} {w : World} {env : Env} {e : Expr} {f : Str} {pos : Pos} {s : Shared} {Q : Value → Shared → Prop} (hb : attributeBase e f env (eval e env) = eval e env)
  (h : wpAny (model prog w) A (eval e env) (fun o s₁ => wpAny (model prog w) A (getAttr o f true) Q E s₁) E s) : wpAny (model prog w) A (eval (.Attribute e f pos) env) Q E s :=
 Attribute_any_ h (by rw [arm_eval_Attribute, hb])
end
noncomputable def tFld (K : PySem.W.Frag) (ta : TE) (f : Str) : TE:=fun σ H Q => ta σ H fun x H1 => ∃ a C dx fs v, x = .ref a ∧ H1 a = some (.ins C dx fs) ∧ Cls K C ∧ NoAttr K C f ∧ fs.lookup f = some v ∧ Q v H1
noncomputable def sFld (K : PySem.W.Frag) (ta tv : TE) (f : Str) : TS:=fun D σ H => tv σ H fun y H1 => ta σ H1 fun x H2 => ∃ a C dx fs, x = .ref a ∧ H2 a = some (.ins C dx fs) ∧ Cls K C ∧ NoAttr K C f ∧ fs.length < 1000 ∧
 D.nx σ (upd H2 a (.ins C dx (putF f y fs)))
noncomputable def InOp (X : Cx) (op : Operator) (rd : V → V → Hp → VK → Prop) : Prop :=
 ∀ (pins : List (Addr × Obj)) (s : Shared) (σ : St) (H : Hp) (x y : V) (u v : Value) (Q : VK), Inv X pins σ H s → RelV x u → RelV y v → rd x y H Q → wpAny (model X.prog X.w) X.A (inplaceOp op u v) (EP X pins σ Q) X.xe s
noncomputable def sFldAug (K : PySem.W.Frag) (ta tv : TE) (rd : V → V → Hp → VK → Prop) (f : Str) : TS:=fun D σ H => ta σ H fun x H1 => ∃ a C dx fs v, x = .ref a ∧ H1 a = some (.ins C dx fs) ∧ Cls K C ∧ NoAttr K C f ∧ fs.lookup f = some v ∧
 tv σ H1 fun y H2 => rd v y H2 fun z H3 => ∃ dx' fs', H3 a = some (.ins C dx' fs') ∧ fs'.length < 1000 ∧ D.nx σ (upd H3 a (.ins C dx' (putF f z fs')))
section
variable {X : Cx} {o e value : Expr} {f : Str} {pos pos' tpos : Pos} {ta tv : TE}
theorem pe_fld (he : PE X e ta) (hb : attributeBase e f X.env (eval e X.env) = eval e X.env) : PE X (.Attribute e f pos) (tFld X.K ta f):=by
 intro pins s σ H Q I h
 refine attr_of hb (thn (he pins s σ H _ I h) fun u s1 ⟨x, H1, I1, rx, a, C, dx, fs, v, ex, ea, c, n, l, q⟩ => ?_)
 subst ex
 obtain rfl : u = Value.ref a:=rx
 exact getattr_ok I1 ea c n l fun u' s2 I2 ru => ⟨v, H1, I2, ru, q⟩
theorem ps_fld (ha : PE X o ta) (hv : PE X value tv) (hs : swapsWith value (some (.Attribute o f pos')) pos.line X.env = pure false) : PS X (.Assign [.Attribute o f pos'] value pos) (sFld X.K ta tv f):=by
 intro pins s σ H D I h
 refine plainObj_wpAny_Assign_Attribute (thn (hv pins s σ H _ I h) fun u s1 ⟨y, H1, I1, ry, q⟩ => thn (ha pins s1 σ H1 _ I1 q) fun ov s2 ⟨x, H2, I2, rx, a, C, dx, fs, ex, ea, c, n, l, q2⟩ => ?_) hs
 subst ex
 obtain rfl : ov = Value.ref a:=rx
 exact setattr_ok I2 ea c n l ry fun s3 I3 => ⟨σ, _, I3, q2⟩
theorem ps_fldaug {op : Operator} {rd : V → V → Hp → VK → Prop} (ha : PE X o ta) (hv : PE X value tv) (hop : InOp X op rd) : PS X (.AugAssign (.Attribute o f tpos) op value pos) (sFldAug X.K ta tv rd f):=by
 intro pins s σ H D I h
 refine wpAny_AugAssign_AttributeAny (thn (ha pins s σ H _ I h) fun ov s1 ⟨x, H1, I1, rx, a, C, dx, fs, v, ex, ea, c, n, l, q⟩ => ?_)
 subst ex
 obtain rfl : ov = Value.ref a:=rx
 refine getattr_ok I1 ea c n l fun u s2 I2 ru => thn (hv pins s2 σ H1 _ I2 q) fun w3 s3 ⟨y, H2, I3, ry, q3⟩ => thn (hop pins s3 σ H2 v y u w3 _ I3 ru ry q3) fun w4 s4 ⟨z, H3, I4, rz, dx', fs', ea', l', q4⟩ => ?_
 exact setattr_ok I4 ea' c n l' rz fun s5 I5 => ⟨σ, _, I5, q4⟩
noncomputable def rAdd : V → V → Hp → VK → Prop:=fun x y H Q => ∃ i j, x = .int i ∧ y = .int j ∧ Q (.int (i + j)) H
theorem in_add : InOp X .Add rAdd:=by
 rintro pins s σ H x y u v Q I rx ry ⟨i, j, rfl, rfl, q⟩
 obtain ⟨t, rfl⟩:=(show ∃ t, u = Value.int i t from rx)
 obtain ⟨t', rfl⟩:=(show ∃ t', v = Value.int j t' from ry)
 exact PyProof.Rows.iadd_int ⟨.int (i + j), H, I.tok _, ⟨_, rfl⟩, q⟩
end
section
variable {X : Cx} {pins : List (Addr × Obj)} {σ : St} {H : Hp} {s : Shared} {A : Around} {E : Value → Shared → Prop} {Q : Value → Shared → Prop} {c : Value} {b : Bool}
inductive TyOf (K : PySem.W.Frag) (H : Hp) : V → Value → Prop where
 | non : TyOf K H .non (.type "NoneType")
 | bl (x : Bool) : TyOf K H (.bl x) (.type "bool")
 | int (i : Int) : TyOf K H (.int i) (.type "int")
 | str (x : Str) : TyOf K H (.str x) (.type "str")
 | flt (x : UInt64) : TyOf K H (.flt x) (.type "float")
 | lst {a : Addr} {xs : List V} (e : H a = some (.lst xs)) : TyOf K H (.ref a) (.type "list")
 | frz {a : Addr} {o : Obj} {xs : List V} (e : H a = some (.frz o (.lst xs))) : TyOf K H (.ref a) (.type "list")
 | tup {a : Addr} {xs : List V} (e : H a = some (.tup xs)) : TyOf K H (.ref a) (.type "tuple")
 | dK {a : Addr} {kvs : List (Key × V)} (e : H a = some (.dK kvs)) : TyOf K H (.ref a) (.type "dict")
 | dT {a : Addr} {kvs : List (List Key × V)} (e : H a = some (.dT kvs)) : TyOf K H (.ref a) (.type "dict")
 | ins {a C dx : Addr} {fs : List (Str × V)} (e : H a = some (.ins C dx fs)) (cl : Cls K C) (ha : PySem.W.findIn K (.ref C) "__class__" = some (some (.builtin "object.__class__")))
   (hn : PySem.W.specialIn K (.builtin "object.__class__") "__get__" = some (some (.builtin "getset_descriptor.__get__"))) (htk : PySem.W.takesIn K (.builtin "object.__class__") = some true)
   (hm : PySem.W.mroIn K C (.type "object") = some true) : TyOf K H (.ref a) (.ref C)
end
end L2
namespace L2
open PySem PySem.Spec PyProof.Rows
structure Room (k : Nat) (A : Around) : Prop where
 hd : A.handled = none
 dp : A.depth + 3 * k + 5 < recursionLimit
 un : A.units + 16 * k + 200 < cLine
theorem Room.mono {j k : Nat} {A : Around} (r : Room k A) (h : j ≤ k) : Room j A:=⟨r.hd, by have:=r.dp; omega, by have:=r.un; omega⟩
theorem Room.deeper {k : Nat} {A : Around} (r : Room (k + 1) A) (env : Env) : Room k (A.deeper env) :=
 ⟨r.hd, by have:=r.dp; show A.depth + 1 + 3 * k + 5 < _; omega, by have:=r.un; show A.units + 3 + 16 * k + 200 < _; omega⟩
theorem make_depth {A : Around} {C : Addr} {us : List Value} {kw : List (Str × Value)} : (A.under (.builtin "type.__call__" ⟨.ref C :: us, kw⟩)).depth = A.depth + 1 := by
 first | rfl | simp [Around.under, Code.weight, Code.isCreation, Code.isGuard, Code.isCaller, Code.frames, Code.isFrame, guardIds]
theorem make_units {A : Around} {C : Addr} {us : List Value} {kw : List (Str × Value)} : (A.under (.builtin "type.__call__" ⟨.ref C :: us, kw⟩)).units = A.units + 1 := by
 first | rfl | simp [Around.under, Code.cUnits, Code.frames, Code.isFrame]
theorem Room.make {k : Nat} {A : Around} (r : Room (k + 1) A) (C : Addr) (us : List Value) (kw : List (Str × Value)) : Room k (A.under (.builtin "type.__call__" ⟨.ref C :: us, kw⟩)) :=
 ⟨r.hd, by have:=r.dp; rw [make_depth]; omega, by have:=r.un; rw [make_units]; omega⟩
theorem Room.depth {k : Nat} {A : Around} (r : Room k A) : A.depth < recursionLimit:=by have:=r.dp; omega
theorem Room.units {k : Nat} {A : Around} (r : Room k A) : A.units + 64 < cLine:=by have:=r.un; omega
noncomputable def tNil : TA:=fun _ H Q => Q [] H
noncomputable def tCons (ta : TE) (tr : TA) : TA:=fun σ H Q => ta σ H fun x H1 => tr σ H1 fun xs H2 => Q (x :: xs) H2
section
variable {X : Cx} {e : Expr} {es : List Expr} {te : TE} {t : TA} {pos : Pos}
theorem pa_nil : PA X [] tNil:=fun _ _ _ _ H Q I h => Calls.spliced_nil ⟨[], H, I, .nil, h⟩
theorem pa_cons (ha : PE X e te) (hr : PA X es t) (hs : starEach (e :: es) X.env = (false, eval e X.env) :: starEach es X.env:=by rfl) : PA X (e :: es) (tCons te t):=by
 intro pos pins s σ H Q I h
 rw [hs]
 show wpAny _ _ (spliced ((false, eval e X.env) :: backTo pos (starEach es X.env))) _ _ s
 refine Calls.spliced_cons (thn (ha pins s σ H _ I h) fun u s1 ⟨x, H1, I1, r1, q1⟩ => ?_)
 exact thn (hr pos pins s1 σ H1 _ I1 q1) fun us s2 ⟨xs, H2, I2, r2, q2⟩ => ⟨x :: xs, H2, I2, .cons r1 r2, q2⟩
noncomputable def tTup (t : TA) : TE:=fun σ H Q => t σ H fun xs H1 => xs.length ≤ sizeLine ∧ ∀ p, H1 p = none → Q (.ref p) (upd H1 p (.tup xs))
noncomputable def tLst (t : TA) : TE:=fun σ H Q => t σ H fun xs H1 => xs.length ≤ sizeLine ∧ ∀ p, H1 p = none → Q (.ref p) (upd H1 p (.lst xs))
theorem pe_tup {x1} (h : PA X es t) : PE X (.Tuple es x1 pos) (tTup t):=by
 intro pins s σ H Q I hq
 refine wpAny_Tuple_spliced (thn (h pos pins s σ H _ I hq) fun us s1 ⟨xs, H1, I1, r, z, q⟩ => ⟨by rw [← r.length]; exact z, ?_⟩)
 have hf : H1 s1.heap.objs.size = none:=I1.hok.fresh (Nat.le_refl _)
 refine ⟨.ref s1.heap.objs.size, upd H1 s1.heap.objs.size (.tup xs), I1.laid (t':=s1.toks) (fun b u e => Heap.get?_push_of_some _ e) (Nat.le_refl _) ?_, rfl, q _ hf⟩
 exact ⟨z, us, r, ⟨_, Heap.get?_push_size _ rfl, rfl, _, rfl⟩⟩
theorem pe_lst (h : PA X es t) : PE X (.List es pos) (tLst t):=by
 intro pins s σ H Q I hq
 refine wpAny_List_spliced (thn (h pos pins s σ H _ I hq) fun us s1 ⟨xs, H1, I1, r, z, q⟩ => ⟨by rw [← r.length]; exact z, ?_⟩)
 have hf : H1 s1.heap.objs.size = none:=I1.hok.fresh (Nat.le_refl _)
 refine ⟨.ref s1.heap.objs.size, upd H1 s1.heap.objs.size (.lst xs), I1.laid (t':=s1.toks) (fun b u e => Heap.get?_push_of_some _ e) (Nat.le_refl _) ?_, rfl, q _ hf⟩
 exact ⟨z, us, 0, r, Heap.get?_push_size _ rfl⟩
end
noncomputable abbrev Sp:=List V → Hp → VK → XK → Prop
noncomputable abbrev CXT:=List Env → Hp → Shared → XK → Value → Shared → Prop
structure Env0 (P : Program) (w : World) (K : PySem.W.Frag) (mg : Str → Option Value) (base : Heap) (A : Around) (outer : List Env) (s : Shared) (H : Hp) : Prop where
 frames : A.frames = some outer
 mod : Mod K mg base
 bs : ∀ b o, base.get? b = some o → s.heap.get? b = some o ∧ H b = none
 bsz : base.objs.size ≤ s.heap.objs.size
 funs : s.heap.FunFrames base outer
 frf : ∀ b ∈ frs outer, H b = none
 hok : HOk P w H s.heap
 bare : AllBare s.gens
noncomputable def CE (outer : List Env) (P : Program) (w : World) (H : Hp) (s : Shared) (Q : VK) (u : Value) (s' : Shared) : Prop :=
 ∃ v H', s'.os = s.os ∧ AllBare s'.gens ∧ Un (frs outer) [] H H' s.heap s'.heap ∧ HOk P w H' s'.heap ∧ RelV v u ∧ Q v H'
noncomputable def CR (CX : CXT) (outer : List Env) (P : Program) (w : World) (H : Hp) (s : Shared) (Q : VK) (E : XK) (r : Result) (s' : Shared) : Prop :=
 match r with
 | .ok (.ret u) => CE outer P w H s Q u s'
 | .ok _ => False
 | .error e => CX outer H s E e s'
structure FnOk (P : Program) (w : World) (K : PySem.W.Frag) (mg : Str → Option Value) (base : Heap) (CX : CXT) (k : Nat) (f : Addr) (fd : FuncData) (ps : List Str) (sp : Sp) : Prop where
 len : ∀ vs H Q E, sp vs H Q E → vs.length = ps.length
 run : ∀ (A : Around) (outer : List Env) (s : Shared) (H : Hp) (args : Args) (us : List Value) (vs : List V) (Q : VK) (E : XK), Room k A → Env0 P w K mg base A outer s H → BindsTo s fd args (ps.zip us) → Vals vs us → sp vs H Q E →
  codeAny (model P w) A (.call (.ref f) args) (CR CX outer P w H s Q E) s
theorem FnOk.imp {P : Program} {w : World} {K : PySem.W.Frag} {mg : Str → Option Value} {base : Heap} {CX : CXT} {k : Nat} {f : Addr} {fd : FuncData} {ps : List Str} {sp sp' : Sp} (F : FnOk P w K mg base CX k f fd ps sp)
  (h : ∀ vs H Q E, sp' vs H Q E → sp vs H Q E) : FnOk P w K mg base CX k f fd ps sp' :=
 ⟨fun vs H Q E q => F.len vs H Q E (h _ _ _ _ q), fun A outer s H args us vs Q E hr he hb hv hs => F.run A outer s H args us vs Q E hr he hb hv (h _ _ _ _ hs)⟩
theorem Env0.make {P : Program} {w : World} {K : PySem.W.Frag} {mg : Str → Option Value} {base : Heap} {A : Around} {outer : List Env} {s : Shared} {H : Hp} (e : Env0 P w K mg base A outer s H) (C : Addr) (us : List Value) (kw : List (Str × Value)) :
  Env0 P w K mg base (A.under (.builtin "type.__call__" ⟨.ref C :: us, kw⟩)) outer s H := ⟨by first | exact e.frames | (simpa [Around.under, Code.envs, Code.isFrame, pushEnvs] using e.frames), e.mod, e.bs, e.bsz, e.funs, e.frf, e.hok, e.bare⟩
section
variable {X : Cx} {pins : List (Addr × Obj)} {σ : St} {H : Hp} {s s' : Shared}
theorem Inv.env0 (I : Inv X pins σ H s) : Env0 X.prog X.w X.K X.mg X.base X.A X.stack s H :=
 ⟨I.ok.frames, I.ok.mod, I.bs, Nat.le_trans I.ok.bsz I.sz, I.stack, I.stkFree, I.hok, I.bare⟩
theorem Inv.after {Q : VK} {u : Value} (I : Inv X pins σ H s) (h : CE X.stack X.prog X.w H s Q u s') : EP X pins σ Q u s':=by
 obtain ⟨v, H', os, bare, un, hok, r, q⟩:=h
 obtain ⟨hh, g, d, t, os'⟩:=s'
 obtain rfl : os' = s.os:=os
 exact ⟨v, H', I.call (h':=hh) (g':=g) (d':=d) (t':=t) (ch:=[]) un hok bare (fun b z => absurd z (by simp)), r, q⟩
end
noncomputable def tCall (sp : Sp) (dvs : List V) (E : XK) (t : TA) : TE:=fun σ H Q => t σ H fun vs H1 => sp (vs ++ dvs) H1 Q E
noncomputable def tMeth (C : Addr) (m : Str) (sp : Sp) (dvs : List V) (E : XK) (ta : TE) (t : TA) : TE:=fun σ H Q => ta σ H fun x H1 => ∃ a dx fs, x = .ref a ∧ H1 a = some (.ins C dx fs) ∧ fs.lookup m = none ∧
 t σ H1 fun vs H2 => sp (x :: (vs ++ dvs)) H2 Q E
noncomputable def tMake (C : Addr) (sp : Sp) (dvs : List V) (E : XK) (t : TA) : TE:=fun σ H Q => t σ H fun vs H1 => ∀ x dx, H1 x = none → H1 dx = none → dx ≠ x →
 sp (.ref x :: (vs ++ dvs)) (upd (upd H1 dx (.own x)) x (.ins C dx [])) (fun v H2 => v = .non ∧ Q (.ref x) H2) E
noncomputable def Binds (K : PySem.W.Frag) (fd : FuncData) (ps : List Str) (ds : List Value) : Prop :=
 ∀ (s : Shared) (us : List Value), K.In s.heap → (us ++ ds).length = ps.length → BindsTo s fd ⟨us, []⟩ (ps.zip (us ++ ds))
theorem Binds.all {K : PySem.W.Frag} {fd : FuncData} {ps : List Str} (h : ∀ us : List Value, us.length = ps.length → bindArgs fd ⟨us, []⟩ = pure (ps.zip us)) : Binds K fd ps []:=fun s us _ hl => by
 rw [List.append_nil] at hl ⊢
 exact .of_eq (h us hl)
noncomputable def Passes (CX : CXT) (X : Cx) (E : XK) : Prop:=∀ (pins : List (Addr × Obj)) (σ : St) (H : Hp) (s : Shared) (e : Value) (s' : Shared), Inv X pins σ H s → CX X.stack H s E e s' → X.xe e s'
section
variable {X : Cx} {CX : CXT} {k : Nat} {f C : Addr} {fd : FuncData} {ps : List Str} {sp : Sp} {dvs : List V} {ds : List Value} {E : XK} {x m : Str} {p pos apos : Pos} {e o : Expr} {es : List Expr} {ta : TE} {t : TA}
theorem run_fn {pins : List (Addr × Obj)} {σ : St} {H : Hp} {s : Shared} {Q : VK} {us : List Value} {vs : List V} (F : FnOk X.prog X.w X.K X.mg X.base CX k f fd ps sp) (hr : Room k X.A) (hb : Binds X.K fd ps ds) (hd : Vals dvs ds) (hx : Passes CX X E)
  (I : Inv X pins σ H s) (r : Vals vs us) (h : sp (vs ++ dvs) H Q E) : wpAny (model X.prog X.w) X.A (call (.ref f) us) (EP X pins σ Q) X.xe s:=by
 have r2 : Vals (vs ++ dvs) (us ++ ds):=r.append hd
 have hl : (us ++ ds).length = ps.length:=by rw [← r2.length]; exact F.len _ _ _ _ h
 refine wpAny_call (codeAny_mono (F.run X.A X.stack s H ⟨us, []⟩ (us ++ ds) (vs ++ dvs) Q E hr I.env0 (hb s us I.kIn hl) r2 h) fun r s' hq => ?_)
 cases r with
 | error e => exact hx pins σ H s e s' I hq
 | ok fl =>
  cases fl with
  | ret u => exact I.after hq
  | next => exact False.elim hq
  | brk => exact False.elim hq
  | cont => exact False.elim hq
theorem pe_call (F : FnOk X.prog X.w X.K X.mg X.base CX k f fd ps sp) (hr : Room k X.A) (hg : Gl X x) (hm : X.mg x = some (.ref f)) (hk : PySem.W.keepIn X.K (.ref f) = true) (hb : Binds X.K fd ps ds) (hd : Vals dvs ds) (hx : Passes CX X E)
  (ha : PA X (e :: es) t) (hdb : (x == ("__debug__" : Str)) = false := by decide) (he : starEach (e :: es) X.env = (false, eval e X.env) :: starEach es X.env := by rfl) (hpl : (backTo pos (starEach es X.env)).any (·.1) = false := by rfl) :
  PE X (.Call (.Name x p) (e :: es) [] pos) (tCall sp dvs E t):=by
 intro pins s σ H Q I h
 refine wpAny_Call_Name_kw (ld_glob I hg hm ?_ hdb)
 refine PySem.W.callWith_K (h₀:=X.base) I.ok.mod.kin hk (thn (ha pos pins s σ H _ I h) fun us s1 ⟨vs, H1, I1, r, q⟩ => ⟨I1.kIn, ?_⟩) he hpl
 exact run_fn F hr hb hd hx I1 r q
theorem pe_meth {pl : Sem Bool} (he : PE X o ta) (c : Cls X.K C) (hm : Meth X.K C m f) (F : FnOk X.prog X.w X.K X.mg X.base CX k f fd ps sp) (hr : Room k X.A) (hb : Binds X.K fd ps ds) (hd : Vals dvs ds) (hx : Passes CX X E) (ha : PA X (e :: es) t)
  (hst : starEach (e :: es) X.env = (false, eval e X.env) :: starEach es X.env:=by rfl) (hpl : (backTo pos (starEach es X.env)).any (·.1) = false:=by rfl)
  (ht : eval (.Call (.Attribute o m apos) (e :: es) [] pos) X.env = (do
   let ov ← eval o X.env
   standAt apos.atName
   let (f, first) ← holding [ov] (getMethod ov m pl)
   callWith pos f first (backTo pos (starEach (e :: es) X.env)) (backToKw pos (keywordEach [] X.env))):=by rfl) :
  PE X (.Call (.Attribute o m apos) (e :: es) [] pos) (tMeth C m sp dvs E ta t):=by
 intro pins s σ H Q I h
 refine PySem.W.methodCall_KW (pl:=pl) (thn (he pins s σ H _ I h) fun u s1 ⟨x, H1, I1, rx, a, dx, fs, ex, ea, l, q⟩ => ?_) ht
 subst ex
 obtain rfl : u = Value.ref a:=rx
 refine getmeth_ok I1 ea c hm l ?_
 refine PySem.W.callWith_K (first:=[.ref a]) (h₀:=X.base) I.ok.mod.kin hm.kp (thn (ha pos pins s1 σ H1 _ I1 q) fun us s2 ⟨vs, H2, I2, r, q2⟩ => ⟨I2.kIn, ?_⟩) hst hpl
 exact run_fn (us:=.ref a :: us) (vs:=.ref a :: vs) F hr hb hd hx I2 (.cons rfl r) q2
theorem pe_meth0 {pl : Sem Bool} (he : PE X o ta) (c : Cls X.K C) (hm : Meth X.K C m f) (F : FnOk X.prog X.w X.K X.mg X.base CX k f fd ps sp) (hr : Room k X.A) (hb : Binds X.K fd ps ds) (hd : Vals dvs ds) (hx : Passes CX X E)
  (ht : eval (.Call (.Attribute o m apos) [] [] pos) X.env = (do
   let ov ← eval o X.env
   standAt apos.atName
   let (f, first) ← holding [ov] (getMethod ov m pl)
   callWith pos f first (backTo pos (starEach [] X.env)) (backToKw pos (keywordEach [] X.env))):=by rfl) :
  PE X (.Call (.Attribute o m apos) [] [] pos) (tMeth C m sp dvs E ta tNil):=by
 intro pins s σ H Q I h
 refine PySem.W.methodCall_KW (pl:=pl) (thn (he pins s σ H _ I h) fun u s1 ⟨x, H1, I1, rx, a, dx, fs, ex, ea, l, q⟩ => ?_) ht
 subst ex
 obtain rfl : u = Value.ref a:=rx
 refine getmeth_ok I1 ea c hm l ?_
 exact PySem.W.callWith_K0 (first:=[.ref a]) I1.kIn hm.kp (run_fn (us:=[.ref a]) (vs:=[.ref a]) F hr hb hd hx I1 (.cons rfl .nil) q)
structure Mk (K : PySem.W.Frag) (C f : Addr) : Prop where
 makes : PySem.W.makesIn K C = true
 init : PySem.W.findIn K (.ref C) "__init__" = some (some (.ref f))
 fn : PySem.W.isFn K (.ref f) = true
 kp : PySem.W.keepIn K (.ref C) = true
theorem run_make {pins : List (Addr × Obj)} {σ : St} {H : Hp} {s : Shared} {Q : VK} {us : List Value} {vs : List V} (M : Mk X.K C f) (F : FnOk X.prog X.w X.K X.mg X.base CX k f fd ps sp) (hr : Room (k + 1) X.A) (hb : Binds X.K fd ps ds) (hd : Vals dvs ds)
  (hx : Passes CX X E) (I : Inv X pins σ H s) (r : Vals vs us)
  (h : ∀ x dx, H x = none → H dx = none → dx ≠ x → sp (.ref x :: (vs ++ dvs)) (upd (upd H dx (.own x)) x (.ins C dx [])) (fun v H2 => v = .non ∧ Q (.ref x) H2) E) :
  wpAny (model X.prog X.w) X.A (call (.ref C) us) (EP X pins σ Q) X.xe s:=by
 have hq:=h (s.heap.objs.size + 1) s.heap.objs.size (I.hok.fresh (Nat.le_succ _)) (I.hok.fresh (Nat.le_refl _)) (Nat.ne_of_lt (Nat.lt_succ_self _))
 have I2:=Inv.made (C:=C) I
 have r2 : Vals (V.ref (s.heap.objs.size + 1) :: (vs ++ dvs)) (Value.ref (s.heap.objs.size + 1) :: (us ++ ds)):=.cons rfl (r.append hd)
 have hl : (Value.ref (s.heap.objs.size + 1) :: us ++ ds).length = ps.length:=by
  have e:=r2.length
  rw [F.len _ _ _ _ hq] at e
  exact e.symm
 refine wpAny_call (make_map (f:=f) I.kIn M.makes M.init (beq_iff_eq.mp M.fn) (codeAny_mono (F.run _ X.stack _ _ ⟨Value.ref (s.heap.objs.size + 1) :: us, []⟩ (Value.ref (s.heap.objs.size + 1) :: (us ++ ds)) _ _ E (hr.make C us [])
  (I2.env0.make C us []) (hb _ (Value.ref (s.heap.objs.size + 1) :: us) I2.kIn hl) r2 hq) fun r s' hq' => ?_))
 cases r with
 | error e => exact hx pins σ _ _ e s' I2 hq'
 | ok fl =>
  cases fl with
  | ret u =>
   obtain ⟨v, H', I3, rv, ev, q3⟩:=I2.after hq'
   subst ev
   exact ⟨rv, ⟨V.ref (s.heap.objs.size + 1), H', I3, rfl, q3⟩⟩
  | next => exact False.elim hq'
  | brk => exact False.elim hq'
  | cont => exact False.elim hq'
theorem pe_make (M : Mk X.K C f) (F : FnOk X.prog X.w X.K X.mg X.base CX k f fd ps sp) (hr : Room (k + 1) X.A) (hg : Gl X x) (hm : X.mg x = some (.ref C)) (hb : Binds X.K fd ps ds) (hd : Vals dvs ds) (hx : Passes CX X E)
  (ha : PA X (e :: es) t) (hdb : (x == ("__debug__" : Str)) = false := by decide) (he : starEach (e :: es) X.env = (false, eval e X.env) :: starEach es X.env := by rfl) (hpl : (backTo pos (starEach es X.env)).any (·.1) = false := by rfl) :
  PE X (.Call (.Name x p) (e :: es) [] pos) (tMake C sp dvs E t):=by
 intro pins s σ H Q I h
 refine wpAny_Call_Name_kw (ld_glob I hg hm ?_ hdb)
 refine PySem.W.callWith_K (h₀:=X.base) I.ok.mod.kin M.kp (thn (ha pos pins s σ H _ I h) fun us s1 ⟨vs, H1, I1, r, q⟩ => ⟨I1.kIn, ?_⟩) he hpl
 exact run_make M F hr hb hd hx I1 r q
end
section
variable {X : Cx} {CX : CXT} {k : Nat} {f C : Addr} {fd : FuncData} {ps ks : List Str} {sp : Sp} {E : XK} {x m : Str} {p pos apos kpos : Pos} {e o : Expr} {es : List Expr} {kws : List Keyword} {te ta : TE} {t tk : TA} {nm : Option Str}
structure KBinds (K : PySem.W.Frag) (fd : FuncData) (ps ks : List Str) (g : List Value → List Value → List Value) (gV : List V → List V → List V) : Prop where
 to : ∀ (s : Shared) (us ws : List Value), K.In s.heap → (g us ws).length = ps.length → BindsTo s fd ⟨us, ks.zip ws⟩ (ps.zip (g us ws))
 rel : ∀ {vs : List V} {us : List Value} {zs : List V} {ws : List Value}, Vals vs us → Vals zs ws → Vals (gV vs zs) (g us ws)
variable {g : List Value → List Value → List Value} {gV : List V → List V → List V}
end
structure FnScope (N P : List Str) (sc : Scope) : Prop where
 kind : sc.kind = .function
 co : sc.isCoroutine = false
 gen : sc.isGenerator = false
 nd : N.Nodup
 pre : N.take P.length = P
 par : ∀ x ∈ P, sc.names.lookup x = some .local ∨ sc.names.lookup x = some .cell
 nofree : ∀ y ∈ sc.names, y.2 ≠ .free
theorem bindL_out {kindOf : Str → Option NameKind} {x : Str} : ∀ {binds : List (Str × Value)} {m : Str → Option Value}, (∀ v, (x, v) ∉ binds) → bindL kindOf binds m x = m x
 | [], _, _ => rfl
 | (n, v) :: r, m, h => by
  unfold bindL
  rw [bindL_out fun w hw => h w (List.mem_cons_of_mem _ hw)]
  split
  ·have : x ≠ n:=by rintro rfl; exact h v List.mem_cons_self
   simp [this]
  ·rfl
theorem bindC_out {kindOf : Str → Option NameKind} {x : Str} : ∀ {binds : List (Str × Value)} {m : Str → Option Value}, (∀ v, (x, v) ∉ binds) → bindC kindOf binds m x = m x
 | [], _, _ => rfl
 | (n, v) :: r, m, h => by
  unfold bindC
  rw [bindC_out fun w hw => h w (List.mem_cons_of_mem _ hw)]
  split
  ·rfl
  ·have : x ≠ n:=by rintro rfl; exact h v List.mem_cons_self
   simp [this]
theorem bindL_get {kindOf : Str → Option NameKind} {x : Str} {v : Value} : ∀ {P : List Str} {vs : List Value} {i : Nat} {m : Str → Option Value}, P.Nodup → P[i]? = some x → vs[i]? = some v → kindOf x = some .local →
  bindL kindOf (P.zip vs) m x = some v
 | [], _, _, _, _, h, _, _ => by simp at h
 | _ :: _, [], _, _, _, _, h, _ => by simp at h
 | p :: P, w :: vs, 0, m, nd, h1, h2, hk => by
  simp at h1 h2; subst h1; subst h2
  show bindL kindOf ((p, w) :: P.zip vs) m p = _
  unfold bindL
  rw [bindL_out fun v hv => (List.nodup_cons.mp nd).1 (List.of_mem_zip hv).1, if_pos hk]
  simp
 | p :: P, w :: vs, i + 1, m, nd, h1, h2, hk => by
  show bindL kindOf ((p, w) :: P.zip vs) m x = _
  unfold bindL
  exact bindL_get (i:=i) (List.nodup_cons.mp nd).2 (by simpa using h1) (by simpa using h2) hk
theorem bindC_get {kindOf : Str → Option NameKind} {x : Str} {v : Value} : ∀ {P : List Str} {vs : List Value} {i : Nat} {m : Str → Option Value}, P.Nodup → P[i]? = some x → vs[i]? = some v → kindOf x ≠ some .local →
  bindC kindOf (P.zip vs) m x = some v
 | [], _, _, _, _, h, _, _ => by simp at h
 | _ :: _, [], _, _, _, _, h, _ => by simp at h
 | p :: P, w :: vs, 0, m, nd, h1, h2, hk => by
  simp at h1 h2; subst h1; subst h2
  show bindC kindOf ((p, w) :: P.zip vs) m p = _
  unfold bindC
  rw [bindC_out fun v hv => (List.nodup_cons.mp nd).1 (List.of_mem_zip hv).1, if_neg hk]
  simp
 | p :: P, w :: vs, i + 1, m, nd, h1, h2, hk => by
  show bindC kindOf ((p, w) :: P.zip vs) m x = _
  unfold bindC
  exact bindC_get (i:=i) (List.nodup_cons.mp nd).2 (by simpa using h1) (by simpa using h2) hk
noncomputable def start (N : List Str) (vs : List V) : St:=vs.map some ++ List.replicate (N.length - vs.length) none
noncomputable def cxOf (CX : CXT) (P : Program) (w : World) (K : PySem.W.Frag) (mg : Str → Option Value) (base : Heap) (N : List Str) (qual : Str) (scope : Scope) (f : Addr) (cd : Value) (A : Around) (outer : List Env) (s : Shared) (H : Hp) (E : XK) : Cx where
 prog:=P
 w:=w
 K:=K
 mg:=mg
 base:=base
 A:=A.deeper (envOfC qual scope s.heap.objs.size f cd)
 N:=N
 s₀:=s
 H₀:=H
 env:=envOfC qual scope s.heap.objs.size f cd
 outer:=outer
 stack:=envOfC qual scope s.heap.objs.size f cd :: outer
 ex:=[]
 calm:=true
 fn:=fun _ => true
 pn:=[]
 xe:=fun e s' => wpAny (model P w) (A.deeper (envOfC qual scope s.heap.objs.size f cd)) (leaving (envOfC qual scope s.heap.objs.size f cd) e) (fun _ s'' => CX outer H s E e s'') (fun e' s'' => CX outer H s E e' s'') s'
theorem cell_has {sc : Scope} {n : Nat} {x : Str} (h : sc.names.lookup x = some .cell) : ∃ c, (cellsFrom n sc.names []).lookup x = some c:=by
 have q:=PySem.W.cellsFrom_some sc.names n [] (.inl h)
 exact Option.isSome_iff_exists.mp q
theorem inv_start {CX : CXT} {P : Program} {w : World} {K : PySem.W.Frag} {mg : Str → Option Value} {base : Heap} {N ps : List Str} {qual : Str} {scope : Scope} {f : Addr} {cd : Value} {A : Around} {outer : List Env} {s s1 : Shared} {H : Hp} {E : XK} {us : List Value} {vs : List V}
  (S : FnScope N ps scope) (hd : A.handled = none) (e0 : Env0 P w K mg base A outer s H) (hl : vs.length = ps.length) (r : Vals vs us)
  (x : InCallC s s.heap.objs.size (bindL (envOfC qual scope s.heap.objs.size f cd).kindOf (ps.zip us) fun _ => none) (cellsFrom (s.heap.objs.size + 1) scope.names []) (bindC (envOfC qual scope s.heap.objs.size f cd).kindOf (ps.zip us) fun _ => none) s1) :
  Inv (cxOf CX P w K mg base N qual scope f cd A outer s H E) [] (start N vs) H s1:=by
 have hpl : ps.length ≤ N.length:=by have:=congrArg List.length S.pre; rw [List.length_take] at this; omega
 obtain ⟨h1, tk, rfl, hk⟩:=x.done
 have noA : ∀ b : Addr, b ∉ (cxOf CX P w K mg base N qual scope f cd A outer s H E).ex:=fun b z => absurd (show b ∈ ([] : List Addr) from z) (by simp)
 refine ⟨⟨e0.mod, S.kind, rfl, rfl, Nat.le_refl _, fun y z c h1 h2 => ?_, fun y hy => ?_, fun y c _ h => ?_, fun _ => hd, Around.frames_deeper e0.frames, .inr ⟨rfl, rfl⟩, fun b z => absurd z (noA b), e0.bs, e0.bsz, fun b _ _ => noA b, fun b z => absurd z (noA b), e0.funs, e0.frf⟩,
  rfl, e0.bare, Un.kept hk, ⟨_, x.toInCall.ns, fun i y v h1 h2 h3 => ?_⟩, fun y c h => ⟨_, x.cell y c h⟩, e0.hok.fresh (Nat.le_refl _), fun y c h => ?_, fun p hp => absurd (show p ∈ ([] : List (Addr × Obj)) from hp) (by simp), e0.hok.kept hk, ?_⟩
 ·exact name_of_addr x.apart (PySem.mem_of_lookup h1) (PySem.mem_of_lookup h2)
 ·have hy : scope.names.lookup y = some .cell ∨ scope.names.lookup y = some .free:=hy
  rcases hy with hy | hy
  ·exact cell_has hy
  ·exact absurd rfl (S.nofree _ (PySem.mem_of_lookup hy))
 ·exact Nat.le_of_lt (x.above y c (PySem.mem_of_lookup h))
 ·have hi : i < vs.length:=by
   unfold start at h2
   by_cases hi : i < vs.length
   ·exact hi
   ·rw [List.getElem?_append_right (by simpa using hi)] at h2
    rw [List.getElem?_replicate] at h2
    split at h2 <;> cases h2
  have ha : vs[i]? = some v:=by
   unfold start at h2
   rw [List.getElem?_append_left (by simpa using hi), List.getElem?_map] at h2
   cases e : vs[i]? with
   | none => rw [e] at h2; cases h2
   | some a => rw [e] at h2; cases h2; rfl
  obtain ⟨u, hu, rv⟩:=r.get ha
  have hp : ps[i]? = some y:=by
   rw [← S.pre, List.getElem?_take_of_lt (by omega)]; exact h1
  have ndP : ps.Nodup:=by rw [← S.pre]; exact S.nd.sublist (List.take_sublist _ _)
  refine ⟨u, rv, ?_⟩
  rcases S.par y (List.mem_of_getElem? hp) with k | k
  ·exact .inl ⟨k, bindL_get ndP hp hu k⟩
  ·obtain ⟨c, e⟩:=cell_has (n:=s.heap.objs.size + 1) k
   refine .inr ⟨.inl k, c, e, ?_⟩
   have q:=x.cell y c e
   rw [bindC_get ndP hp hu (by show scope.names.lookup y ≠ _; rw [k]; decide)] at q
   exact q
 ·exact e0.hok.fresh (Nat.le_of_lt (x.above y c (PySem.mem_of_lookup h)))
 ·unfold start
  show _ = N.length
  rw [List.length_append, List.length_map, List.length_replicate]
  omega
theorem fn_of {CX : CXT} {P : Program} {w : World} {K : PySem.W.Frag} {mg : Str → Option Value} {base : Heap} {k : Nat} {f : Addr} {name qual : Str} {params : Arguments} {body : List Stmt} {scope : Scope} {dV kV doc pm cdv ct oc : Value} {an od : Option Addr}
  {osl : Array (Option Value)} {N ps : List Str} {sp : Sp} (lk : K.lookup f = some ⟨oc, od, .func (PySem.W.fnOf name qual params body scope dV kV doc pm an cdv ct), osl⟩) (hcd : PySem.W.codeIn K cdv qual = true) (S : FnScope N ps scope)
  (len : ∀ vs H Q E, sp vs H Q E → vs.length = ps.length)
  (hbody : ∀ (A : Around) (outer : List Env) (s : Shared) (H : Hp) (vs : List V) (Q : VK) (E : XK), Room k (A.deeper (envOfC qual scope s.heap.objs.size f cdv)) → sp vs H Q E →
   ∃ t, PSs (cxOf CX P w K mg base N qual scope f cdv A outer s H E) body t ∧ t { nx:=fun _ H' => Q .non H', rt:=Q } (start N vs) H) :
  FnOk P w K mg base CX (k + 1) f (PySem.W.fnOf name qual params body scope dV kV doc pm an cdv ct) ps sp:=by
 refine ⟨len, fun A outer s H args us vs Q E hr e0 hb r hsp => ?_⟩
 have hl:=len _ _ _ _ hsp
 have KX : K.In s.heap:=e0.mod.kin.keeps fun b o e => (e0.bs b o e).1
 have lim : s.heap.NoLimit:=e0.mod.nolimit.keeps fun b o e => (e0.bs b o e).1
 have hkind : ∀ y ∈ ps.zip us, scope.names.lookup y.1 = some .local ∨ (scope.names.lookup y.1 = some .cell ∧ ((cellsFrom (s.heap.objs.size + 1) scope.names []).lookup y.1).isSome = true):=fun ⟨n, v⟩ hy => by
  rcases S.par n (List.of_mem_zip hy).1 with q | q
  ·exact .inl q
  ·exact .inr ⟨q, PySem.W.cellsFrom_some _ _ _ (.inl q)⟩
 refine codeAny_call_function hr.depth (KX _ _ lk) rfl S.co S.gen rfl (PySem.W.codeRec_of KX hcd) (hb _ _ _ _ ?_)
 refine wpAny_newFunctionEnv_cells S.kind hkind fun env he s1 x => ?_
 subst he
 refine ⟨lim.keeps x.toInCall.keep, codeAny_func ?_⟩
 obtain ⟨t, ht, hq⟩:=hbody A outer s H vs Q E (hr.deeper _) hsp
 have I : Inv (cxOf CX P w K mg base N qual scope f cdv A outer s H E) [] (start N vs) H s1:=inv_start S hr.hd e0 hl r x
 refine wpAny_mono (ht [] s1 (start N vs) H _ I hq) (fun fl s' hs => ?_) fun e s' hs => hs
 have fin : ∀ {σ' : St} {H' : Hp} {v : V} {u : Value}, Inv (cxOf CX P w K mg base N qual scope f cdv A outer s H E) [] σ' H' s' → RelV v u → Q v H' → CE outer P w H s Q u s' :=
  fun {σ' H' v u} J rv q => ⟨v, H', J.os, J.bare, J.base, J.hok, rv, q⟩
 cases fl with
 | ret u =>
  obtain ⟨v, σ', H', J, rv, q⟩:=hs
  exact fin J rv q
 | next =>
  obtain ⟨σ', H', J, q⟩:=hs
  exact fin (v:=V.non) (u:=Value.none) J rfl q
 | brk =>
  obtain ⟨_, _, _, q⟩:=hs
  exact False.elim q
 | cont =>
  obtain ⟨_, _, _, q⟩:=hs
  exact False.elim q
end L2
namespace L2
open PySem PySem.Spec PyProof.Rows
section
variable {X : Cx} {x : Str} {p pos : Pos} {e : Expr} {es : List Expr} {t : TA} {id T : String} {r : List V → Hp → VK → Prop}
noncomputable def tCB (r : List V → Hp → VK → Prop) (t : TA) : TE:=fun σ H Q => t σ H fun vs H1 => r vs H1 Q
theorem pe_callB (hc : CallR X (.builtin id) r) (hg : Gl X x) (hm : X.mg x = none) (hv : bootBuiltins x = some (.builtin id)) (ha : PA X (e :: es) t) (hn : x ≠ "__name__" := by decide) (hdb : (x == ("__debug__" : Str)) = false := by decide)
  (he : starEach (e :: es) X.env = (false, eval e X.env) :: starEach es X.env:=by rfl) (hpl : (backTo pos (starEach es X.env)).any (·.1) = false:=by rfl) : PE X (.Call (.Name x p) (e :: es) [] pos) (tCB r t):=by
 intro pins s σ H Q I h
 refine wpAny_Call_Name_kw (ld_blt I hg hm hv ?_ hn hdb)
 exact PyProof.Rows.callWith_builtin1 (thn (ha pos pins s σ H _ I h) fun us s1 ⟨vs, H1, I1, r1, q1⟩ => hc pins s1 σ H1 vs us Q I1 r1 q1) he hpl
theorem pe_callTy (hc : CallR X (.type T) r) (hg : Gl X x) (hm : X.mg x = none) (hv : bootBuiltins x = some (.type T)) (ha : PA X (e :: es) t) (hn : x ≠ "__name__" := by decide) (hdb : (x == ("__debug__" : Str)) = false := by decide)
  (he : starEach (e :: es) X.env = (false, eval e X.env) :: starEach es X.env:=by rfl) (hpl : (backTo pos (starEach es X.env)).any (·.1) = false:=by rfl) : PE X (.Call (.Name x p) (e :: es) [] pos) (tCB r t):=by
 intro pins s σ H Q I h
 refine wpAny_Call_Name_kw (ld_blt I hg hm hv ?_ hn hdb)
 exact PyProof.Rows.callWith_type1 (thn (ha pos pins s σ H _ I h) fun us s1 ⟨vs, H1, I1, r1, q1⟩ => hc pins s1 σ H1 vs us Q I1 r1 q1) he hpl
end
end L2
namespace HT
open PySem PyProof.Rows
section
open PySem.SeqAt
open PySem.AutoSeq1 (wpAny_loadPart')
open PySem.MeetsSeq PySem.MeetsSeq2 PySem.MeetsSeq3
end
section
variable {prog : Program} {w : World} {A : Around} {E : Value → Shared → Prop} {s : Shared}
theorem cat_tup {t b : Addr} {vs ws : List Value} {Q : Value → Shared → Prop} (ht : IsTup s.heap t vs.toArray) (hb : IsTup s.heap b ws.toArray) (hv : vs ≠ [])
  (h1 : ws = [] → Q (.ref t) s) (h2 : ws ≠ [] → Q (.ref s.heap.objs.size) { s with heap := s.heap.push { cls := .type "tuple", data := .seq (vs ++ ws).toArray } })
  (hsz : vs.length + ws.length ≤ sizeLine) : wpAny (model prog w) A (binaryOp .Add (.ref t) (.ref b)) Q E s:=by
 obtain ⟨⟨cls, dd, data, sl⟩, ho, hc, n, hd⟩:=id ht
 obtain ⟨⟨cls2, dd2, data2, sl2⟩, ho2, hc2, n2, hd2⟩:=id hb
 simp only at hc hd hc2 hd2
 subst hc hd hc2 hd2
 have e : vs.toArray ++ ws.toArray = (vs ++ ws).toArray:=by simp
 by_cases hw : ws = []
 ·exact concat_meets ⟨_, ho, rfl⟩ ⟨_, ho2, rfl⟩ noFill_tuple_add seq_tuple_add PySem.F.slot_tuple_add PySem.F.entry_tuple_add (PySem.F.args_tuple_add_2 _ _)
   (tuple_addW1 t b vs.toArray ws.toArray n n2 dd dd2 sl sl2 (by simpa using hv) (by simp [hw])) ⟨ho, ho2, h1 hw⟩
 ·refine concat_meets ⟨_, ho, rfl⟩ ⟨_, ho2, rfl⟩ noFill_tuple_add seq_tuple_add PySem.F.slot_tuple_add PySem.F.entry_tuple_add (PySem.F.args_tuple_add_2 _ _)
   (tuple_addW2 t b vs.toArray ws.toArray n n2 dd dd2 sl sl2 (by simpa using hv) (by simpa using hw) (by rw [List.size_toArray, List.size_toArray]; exact hsz)) ⟨ho, ho2, ?_⟩
  rw [e]
  exact h2 hw
noncomputable def sIx (n d : Nat) : Option Int → Nat
 | none => d
 | some v => if v < 0 then (v + (n : Int)).toNat else min v.toNat n
theorem sIx_none (n d : Nat) : sIx n d none = d:=rfl
theorem sIx_nat (n d k : Nat) : sIx n d (some (k : Int)) = min k n:=by
 show (if (k : Int) < 0 then ((k : Int) + (n : Int)).toNat else min (k : Int).toNat n) = min k n
 rw [if_neg (by omega), Int.toNat_natCast]
theorem sIx_le (n d : Nat) (hd : d ≤ n) (o : Option Int) : sIx n d o ≤ n:=by
 cases o with
 | none => exact hd
 | some v =>
  show (if v < 0 then (v + (n : Int)).toNat else min v.toNat n) ≤ n
  by_cases hv : v < 0
  ·rw [if_pos hv]; omega
  ·rw [if_neg hv]; exact Nat.min_le_right _ _
theorem clip_eq (v : Int) (n d : Nat) : (if v < 0 then max (v + (n : Int)) 0 else min v (n : Int)) = ((sIx n d (some v) : Nat) : Int):=by
 show (if v < 0 then max (v + (n : Int)) 0 else min v (n : Int)) = (((if v < 0 then (v + (n : Int)).toNat else min v.toNat n) : Nat) : Int)
 by_cases hv : v < 0
 ·simp only [if_pos hv]; omega
 ·simp only [if_neg hv]; omega
theorem adjust_gen (lo hi : Option Int) (n : Nat) : Builtin.Slice.sliceAdjust lo hi 1 (n : Int) = (((sIx n 0 lo : Nat) : Int), ((sIx n n hi : Nat) : Int)):=by
 have h1 : ¬ ((1 : Int) < 0):=by omega
 unfold Builtin.Slice.sliceAdjust
 simp only [h1, if_false]
 refine Prod.ext ?_ ?_
 ·cases lo with
  | none => rfl
  | some v => exact clip_eq v n 0
 ·cases hi with
  | none => rfl
  | some v => exact clip_eq v n n
theorem places_gen (i j : Nat) : Builtin.Slice.slicePlaces (i : Int) (j : Int) 1 = j - i:=by
 unfold Builtin.Slice.slicePlaces
 have h1 : (1 : Int) > 0:=by omega
 simp only [h1, if_true, Int.ediv_one]
 split <;> omega
theorem slicePart_ {v : Value} {o : Option Int} {Q : Option Int → Shared → Prop} (p : IsPart v o) (h : Q o s) : wpAny (model prog w) A (Builtin.Slice.slicePartIndex v) Q E s:=by
 cases p with
 | none => exact slicePart_none h
 | int i t => exact slicePart_int h
theorem sliceApplied_gen {sl : Addr} {vl vu : Value} {lo hi : Option Int} {n : Nat} {Q : Int × Int × Nat → Shared → Prop} (hs : s.heap.IsSliceOf sl vl vu .none) (pl : IsPart vl lo) (pu : IsPart vu hi)
  (h : Q (((sIx n 0 lo : Nat) : Int), 1, sIx n n hi - sIx n 0 lo) s) : wpAny (model prog w) A (Builtin.Slice.sliceApplied (.ref sl) (pure (n : Int))) Q E s:=by
 obtain ⟨os, hos, hcs, hds⟩:=id hs
 unfold Builtin.Slice.sliceApplied Builtin.Slice.sliceFields
 refine wpAny_bind (wpAny_bind (wpAny_field hos hds (x:=vl) rfl (wpAny_bind (wpAny_field hos hds (x:=vu) rfl (wpAny_bind (wpAny_field hos hds (x:=.none) rfl (wpAny_pure ?_)))))))
 refine wpAny_bind (slicePart_none ?_)
 show wpAny _ _ (if ((1 : Int) == 0) = true then _ else _) _ _ s
 rw [if_neg (by decide)]
 refine wpAny_bind (slicePart_ pl (wpAny_bind (slicePart_ pu (wpAny_bind (wpAny_pure ?_)))))
 show wpAny _ _ (match Builtin.Slice.sliceAdjust lo hi 1 (n : Int) with | (lo, hi) => pure (lo, (1 : Int), Builtin.Slice.slicePlaces lo hi 1)) _ _ s
 rw [adjust_gen lo hi n]
 show wpAny _ _ (pure (((sIx n 0 lo : Nat) : Int), (1 : Int), Builtin.Slice.slicePlaces ((sIx n 0 lo : Nat) : Int) ((sIx n n hi : Nat) : Int) 1)) _ _ s
 rw [places_gen]
 exact wpAny_pure h
theorem pick_gen (xs : Array Value) (i k : Nat) : ((List.range k).filterMap fun (m : Nat) => xs[((i : Int) + (m : Int) * 1).toNat]?).toArray = ((xs.toList.drop i).take k).toArray:=by
 have e : (fun (m : Nat) => xs[((i : Int) + (m : Int) * 1).toNat]?) = fun m => xs[i + m]?:=by
  funext m
  have : ((i : Int) + (m : Int) * 1).toNat = i + m:=by omega
  rw [this]
 rw [e]
 have:=pick_run xs i k
 rw [List.filterMap_map] at this
 have e2 : ((fun x => xs[x]?) ∘ fun x => i + x) = fun m => xs[i + m]?:=rfl
 rw [e2] at this
 rw [this]
theorem getItem_tuple_cut {t sl : Addr} {items : Array Value} {vl vu : Value} {lo hi : Option Int} {Q : Value → Shared → Prop} (ht : IsTup s.heap t items) (hs : s.heap.IsSliceOf sl vl vu .none) (pl : IsPart vl lo) (pu : IsPart vu hi)
  (hw : ¬ (sIx items.size 0 lo = 0 ∧ sIx items.size items.size hi = items.size))
  (h : Q (.ref s.heap.objs.size) { s with heap := s.heap.push { cls := .type "tuple", data := .seq ((items.toList.drop (sIx items.size 0 lo)).take (sIx items.size items.size hi - sIx items.size 0 lo)).toArray } })
  (hsz : items.size ≤ sizeLine) : wpAny (model prog w) A (getItem (.ref t) (.ref sl)) Q E s:=by
 have htake : sizeOk (.seq ((items.toList.drop (sIx items.size 0 lo)).take (sIx items.size items.size hi - sIx items.size 0 lo)).toArray):=by
  show ((items.toList.drop (sIx items.size 0 lo)).take (sIx items.size items.size hi - sIx items.size 0 lo)).toArray.size ≤ sizeLine
  rw [List.size_toArray, List.length_take, List.length_drop, Array.length_toList]
  omega
 have hj : sIx items.size items.size hi ≤ items.size:=sIx_le _ _ (Nat.le_refl _) hi
 obtain ⟨os, hos, hcs, hds⟩:=id hs
 have hTs : s.TypeIs (.ref sl) "slice" := ⟨os, hos, hcs⟩
 unfold getItem
 try with_reducible refine wpAny_holding ?_
 first | refine wpAny_bind (wpAny_pure ?_) | skip
 refine wpAny_bind (wpAny_sequenceKey ht.typeIs (by decide) ?_)
 refine wpAny_bind (wpAny_callSpecial?_slot (name := Str.ofString "__getitem__") ht.typeIs PyProof.Rows.slot_tuple_getitem
  (wpAny_call_entry PyProof.Rows.slot_tuple_getitem ht.typeIs entry_tuple_getitem ?_ (args_tuple_getitem _ _)))
 show wpAny _ _ (Builtin.Tuple.tupleItemsOf (.ref t) >>= _) _ _ s
 refine wpAny_bind (tupleItemsOf_ ht ?_)
 refine wpAny_bind (wpAny_typeOf hTs ?_)
 rw [if_pos (by decide)]
 refine wpAny_bind (sliceApplied_gen hs pl pu ?_)
 have hno : ¬ ((((sIx items.size 0 lo : Nat) : Int) == 0 && (1 : Int) == 1 && (sIx items.size items.size hi - sIx items.size 0 lo) == items.size) = true):=by
  intro q
  rw [Bool.and_eq_true, Bool.and_eq_true] at q
  have q1 : ((sIx items.size 0 lo : Nat) : Int) = 0:=eq_of_beq q.1.1
  have q2 : sIx items.size items.size hi - sIx items.size 0 lo = items.size:=eq_of_beq q.2
  exact hw ⟨by omega, by omega⟩
 show wpAny _ _ (if (((sIx items.size 0 lo : Nat) : Int) == 0 && (1 : Int) == 1 && (sIx items.size items.size hi - sIx items.size 0 lo) == items.size) = true then _ else _) _ _ s
 rw [if_neg hno, pick_gen]
 first
  | exact wpAny_bind (m:=Builtin.Tuple.tupleExact _) (wpAny_newObj_type (wpAny_pure ⟨_, rfl, wpAny_pure h⟩) htake)
  | exact wpAny_bind (m:=Builtin.Tuple.tupleExact _) (wpAny_newObj_type (wpAny_bind (wpAny_pure (wpAny_pure ⟨_, rfl, wpAny_pure h⟩))) htake)
  | exact wpAny_bind (wpAny_bind (m:=Builtin.Tuple.tupleExact _) (wpAny_newObj_type (wpAny_pure (wpAny_pure ⟨_, rfl, wpAny_pure h⟩)) htake))
  | exact wpAny_bind (wpAny_bind (m:=Builtin.Tuple.tupleExact _) (wpAny_newObj_type (wpAny_pure ⟨_, rfl, wpAny_pure h⟩) htake))
end
end HT
namespace L2
open PySem PySem.Spec PyProof.Rows
noncomputable abbrev TO:=St → Hp → (Option Int → Hp → Prop) → Prop
noncomputable def PO (X : Cx) (e : Option Expr) (t : TO) : Prop :=
 ∀ (pins : List (Addr × Obj)) (s : Shared) (σ : St) (H : Hp) (Q : Option Int → Hp → Prop), Inv X pins σ H s → t σ H Q →
  wpAny (model X.prog X.w) X.A (evalPart e X.env) (fun u s' => ∃ o H', Inv X pins σ H' s' ∧ IsPart u o ∧ Q o H') X.xe s
noncomputable def tNoPart : TO:=fun _ H Q => Q none H
noncomputable def tPart (t : TE) : TO:=fun σ H Q => t σ H fun x H1 => ∃ i, x = .int i ∧ Q (some i) H1
theorem intsAre_of {ns : List Int} : ∀ {us : List Value}, Vals (ns.map V.int) us → IntsAre us ns:=by
 induction ns with
 | nil => intro us r; rw [List.map_nil] at r; cases r; exact .nil
 | cons n ns ih =>
  intro us r
  rw [List.map_cons] at r
  cases r with
  | cons r1 r2 =>
   obtain ⟨t, e⟩:=r1
   subst e
   exact .cons n t (ih r2)
section
variable {X : Cx} {e : Expr} {te : TE} {lo hi : Option Expr} {tl th : TO} {pos p2 : Pos}
theorem po_none : PO X none tNoPart:=by
 intro pins s σ H Q I h
 rw [evalPart_none]
 exact wpAny_pure ⟨none, H, I, .none, h⟩
theorem po_some (h : PE X e te) : PO X (some e) (tPart te):=by
 intro pins s σ H Q I hw
 rw [evalPart_some]
 refine thn (h pins s σ H _ I hw) fun u s1 ⟨x, H1, I1, r1, q1⟩ => ?_
 obtain ⟨i, rfl, q⟩:=q1
 obtain ⟨t, rfl⟩:=r1
 exact ⟨some i, H1, I1, .int i t, q⟩
noncomputable def SlR (X : Cx) (r : V → Option Int → Option Int → Hp → VK → Prop) : Prop :=
 ∀ (pins : List (Addr × Obj)) (s : Shared) (σ : St) (H : Hp) (x : V) (v vl vu : Value) (lo hi : Option Int) (sl : Addr) (Q : VK), Inv X pins σ H s → RelV x v → s.heap.IsSliceOf sl vl vu .none → IsPart vl lo → IsPart vu hi → r x lo hi H Q →
  ∃ T id, typeLookup (.type T) "__getitem__" = pure (some (.builtin id)) ∧ s.TypeIs v T ∧ wpAny (model X.prog X.w) X.A (getItem v (.ref sl)) (EP X pins σ Q) X.xe s
noncomputable def tSl (r : V → Option Int → Option Int → Hp → VK → Prop) (te : TE) (tl th : TO) : TE:=fun σ H Q => te σ H fun x H1 => tl σ H1 fun l H2 => th σ H2 fun u H3 => r x l u H3 Q
theorem pe_slice {r : V → Option Int → Option Int → Hp → VK → Prop} (hr : SlR X r) (he : PE X e te) (hl : PO X lo tl) (hu : PO X hi th) : PE X (.Subscript e (.Slice lo hi none p2) pos) (tSl r te tl th):=by
 intro pins s σ H Q I h
 refine Subscript_ (thn (he pins s σ H _ I h) fun v s1 ⟨x, H1, I1, r1, q1⟩ => ?_)
 refine wpAny_Slice (thn (hl pins s1 σ H1 _ I1 q1) fun vl s2 ⟨l, H2, I2, pl, q2⟩ => thn (hu pins s2 σ H2 _ I2 q2) fun vu s3 ⟨u, H3, I3, pu, q3⟩ => ?_)
 rw [evalPart_none]
 refine wpAny_pure ?_
 have I4 : Inv X pins σ H3 { s3 with heap := s3.heap.push { cls := .type "slice", data := .fields #[vl, vu, .none] } } := I3.kept (t' := s3.toks) fun b ob q => Heap.get?_push_of_some _ q
 obtain ⟨T, id, hT, ht, hg⟩ := hr pins { s3 with heap := s3.heap.push { cls := .type "slice", data := .fields #[vl, vu, .none] } } σ H3 x v vl vu l u s3.heap.objs.size Q I4 r1 (Heap.IsSliceOf.new ..) pl pu q3
 show wpAny (model X.prog X.w) X.A (subscriptTail e (.Slice lo hi none p2) v (.ref s3.heap.objs.size)) (EP X pins σ Q) X.xe { s3 with heap := s3.heap.push { cls := .type "slice", data := .fields #[vl, vu, .none] } }
 exact tail_any (ops:=[.ref s3.heap.objs.size, v]) ht hT hg (by with_unfolding_all rfl)
noncomputable def cutV (xs : List V) (lo hi : Option Int) : List V:=(xs.drop (HT.sIx xs.length 0 lo)).take (HT.sIx xs.length xs.length hi - HT.sIx xs.length 0 lo)
theorem cutV_length (xs : List V) (lo hi : Option Int) : (cutV xs lo hi).length ≤ xs.length:=by
 unfold cutV
 rw [List.length_take, List.length_drop]
 omega
noncomputable def rSlT (K : PySem.W.Frag) : V → Option Int → Option Int → Hp → VK → Prop:=fun x lo hi H Q => ∃ a xs, x = .ref a ∧ SqT K H a xs ∧
 ¬ (HT.sIx xs.length 0 lo = 0 ∧ HT.sIx xs.length xs.length hi = xs.length) ∧ ∀ p, H p = none → Q (.ref p) (upd H p (.tup (cutV xs lo hi)))
theorem sl_tup : SlR X (rSlT X.K):=by
 intro pins s σ H x v vl vu lo hi sl Q I rx hs pl pu h
 obtain ⟨a, xs, rfl, hx, hw, q⟩:=h
 cases rx
 obtain ⟨its, r, ht, hz⟩:=I.tuple hx
 have hlen : its.toArray.size = xs.length:=by rw [List.size_toArray]; exact r.length.symm
 refine ⟨"tuple", _, PyProof.Rows.slot_tuple_getitem.lookup, ht.typeIs, ?_⟩
 refine HT.getItem_tuple_cut ht hs pl pu (by rw [hlen]; exact hw) ?_ (by rw [hlen]; exact hz)
 rw [hlen]
 refine ⟨.ref s.heap.objs.size, _, I.laid (t':=s.toks) (o:=.tup (cutV xs lo hi)) (fun b ob q => Heap.get?_push_of_some _ q) (Nat.le_refl _) ?_, rfl, q _ (I.hok.fresh (Nat.le_refl _))⟩
 exact ⟨Nat.le_trans (cutV_length xs lo hi) hz, _, (r.drop (HT.sIx xs.length 0 lo)).take (HT.sIx xs.length xs.length hi - HT.sIx xs.length 0 lo), IsTup.new _ _⟩
noncomputable def rCatT (K : PySem.W.Frag) : R2:=fun x y H Q => ∃ a b xs ys, x = .ref a ∧ y = .ref b ∧ SqT K H a xs ∧ SqT K H b ys ∧ xs ≠ [] ∧ xs.length + ys.length ≤ sizeLine ∧
 (ys = [] → Q (.ref a) H) ∧ (ys ≠ [] → ∀ p, H p = none → Q (.ref p) (upd H p (.tup (xs ++ ys))))
theorem Vals.nil_iff {xs : List V} {us : List Value} (r : Vals xs us) : us = [] ↔ xs = []:=by
 cases r with
 | nil => simp
 | cons _ _ => simp
theorem op_catT : OpR X (binaryOp .Add) (rCatT X.K):=by
 intro pins s σ H x y v u Q I rx ry h
 obtain ⟨a, b, xs, ys, rfl, rfl, ha, hb, hx, hz, q1, q2⟩:=h
 cases rx
 cases ry
 obtain ⟨its, r1, p1, _⟩:=I.tuple ha
 obtain ⟨its2, r2, p2, _⟩:=I.tuple hb
 refine HT.cat_tup p1 p2 (fun z => hx (r1.nil_iff.mp z)) (fun z => ⟨.ref a, H, I, rfl, q1 (r2.nil_iff.mp z)⟩) (fun z => ?_) (by rw [← r1.length, ← r2.length]; exact hz)
 refine ⟨.ref s.heap.objs.size, _, I.laid (t':=s.toks) (o:=.tup (xs ++ ys)) (fun b ob q => Heap.get?_push_of_some _ q) (Nat.le_refl _) ?_, rfl, q2 (fun w => z (r2.nil_iff.mpr w)) _ (I.hok.fresh (Nat.le_refl _))⟩
 exact ⟨by rw [List.length_append]; exact hz, _, r1.append r2, IsTup.new _ _⟩
end
end L2
namespace L2
open PySem PySem.Spec PyProof.Rows
noncomputable def ixN (n : Nat) (i : Int) : Option Nat:=if 0 ≤ i then (if i < n then some i.toNat else none) else if -(n : Int) ≤ i then some (i + n).toNat else none
noncomputable def atI {α : Type} (xs : List α) (i : Int) : Option α:=(ixN xs.length i).bind fun j => xs[j]?
theorem ixN_seq {n : Nat} {i : Int} {j : Nat} (h : ixN n i = some j) : seqIndex? i n = some j ∧ j < n ∧ -(n : Int) ≤ i ∧ i < n:=by
 unfold ixN at h
 by_cases h0 : 0 ≤ i
 ·rw [if_pos h0] at h
  by_cases h1 : i < n
  ·rw [if_pos h1] at h
   have e : i.toNat = j:=Option.some.inj h
   exact ⟨by rw [seqIndex_of h0 h1, e], by omega, by omega, h1⟩
  ·rw [if_neg h1] at h; cases h
 ·rw [if_neg h0] at h
  by_cases h1 : -(n : Int) ≤ i
  ·rw [if_pos h1] at h
   have e : (i + n).toNat = j:=Option.some.inj h
   exact ⟨by rw [seqIndex_neg (by omega) h1, e], by omega, h1, by omega⟩
  ·rw [if_neg h1] at h; cases h
theorem atI_get {α : Type} {xs : List α} {i : Int} {v : α} (h : atI xs i = some v) : ∃ j, seqIndex? i xs.length = some j ∧ xs[j]? = some v ∧ j < xs.length ∧ -(xs.length : Int) ≤ i ∧ i < xs.length:=by
 unfold atI at h
 cases e : ixN xs.length i with
 | none => rw [e] at h; cases h
 | some j =>
  rw [e] at h
  obtain ⟨h1, h2, h3, h4⟩:=ixN_seq e
  exact ⟨j, h1, h, h2, h3, h4⟩
theorem atI_nat {α : Type} {xs : List α} {j : Nat} {v : α} (h : xs[j]? = some v) : atI xs (j : Int) = some v:=by
 have hj : j < xs.length:=(List.getElem?_eq_some_iff.mp h).1
 have e : ixN xs.length (j : Int) = some j:=by
  unfold ixN
  rw [if_pos (by omega), if_pos (by omega)]; simp
 unfold atI; rw [e]; exact h
noncomputable def PlainIx (b : Expr) : Prop:=∀ o i, subscripted b false o i = operate [o, i] (getItem o i)
noncomputable def IxR (X : Cx) (r : R2) : Prop :=
 ∀ (value slice : Expr) (pins : List (Addr × Obj)) (s : Shared) (σ : St) (H : Hp) (x y : V) (v u : Value) (Q : VK), Inv X pins σ H s → RelV x v → RelV y u → r x y H Q →
  subscripted slice false v u = operate [v, u] (getItem v u) → wpAny (model X.prog X.w) X.A (subscriptTail value slice v u) (EP X pins σ Q) X.xe s
noncomputable def MtR (X : Cx) (id : String) (r : V → List V → Hp → VK → Prop) : Prop :=
 ∀ (pins : List (Addr × Obj)) (s : Shared) (σ : St) (H : Hp) (x : V) (xs : List V) (v : Value) (us : List Value) (Q : VK), Inv X pins σ H s → RelV x v → Vals xs us → r x xs H Q →
  wpAny (model X.prog X.w) X.A (call (.builtin id) (v :: us)) (EP X pins σ Q) X.xe s
section
variable {X : Cx} {a b : Expr} {ta tb : TE} {pos : Pos}
theorem pe_ix {r : R2} (hr : IxR X r) (ha : PE X a ta) (hb : PE X b tb) (hs : PlainIx b) : PE X (.Subscript a b pos) (tOp r ta tb):=by
 intro pins s σ H Q I h
 exact Subscript_ (binT ha hb I h fun v u s2 x y H2 I2 rx ry q => hr a b pins s2 σ H2 x y v u Q I2 rx ry q (hs _ _))
noncomputable def rIxL (K : PySem.W.Frag) : R2:=fun x y H Q => ∃ p xs i v, x = .ref p ∧ y = .int i ∧ SqL K H p xs ∧ atI xs i = some v ∧ Q v H
noncomputable def rIxT (K : PySem.W.Frag) : R2:=fun x y H Q => ∃ p xs i v, x = .ref p ∧ y = .int i ∧ SqT K H p xs ∧ atI xs i = some v ∧ Q v H
noncomputable def rIxS : R2:=fun x y H Q => ∃ z i c, x = .str z ∧ y = .int i ∧ z.length ≤ sizeLine ∧ atI z.cps.toList i = some c ∧ Q (.str ⟨#[c]⟩) H
theorem ix_list : IxR X (rIxL X.K):=by
 intro value slice pins s σ H x y v u Q I rx ry h hs
 obtain ⟨p, xs, i, z, rfl, rfl, hq, he, q⟩:=h
 cases rx
 obtain ⟨t, rfl⟩:=ry
 obtain ⟨its, r, pl, hz⟩:=I.list hq
 obtain ⟨j, h1, h2, h3, h4, h5⟩:=atI_get he
 obtain ⟨w, ew, rw'⟩:=r.get h2
 have hl:=r.length
 have hn:=line63
 have fin : EP X pins σ Q w s:=⟨z, H, I, rw', q⟩
 by_cases h0 : 0 ≤ i
 ·have hj : i.toNat = j:=by
   rw [seqIndex_of h0 h5] at h1
   exact Option.some.inj h1
  exact item_listR pl.isList h0 (by omega) (by rw [hj]; simpa using ew) fin hs
 ·have hj : (i + (its.toArray.size : Int)).toNat = j:=by
   rw [seqIndex_neg (by omega) h4] at h1
   rw [List.size_toArray, ← hl]
   exact Option.some.inj h1
  exact subscriptTail_builtinR (x:=w) pl.isList.typeIs slot_list_getitem.lookup
   (wpAny_getItem_list_neg (Q:=fun r s' => r = w ∧ EP X pins σ Q r s') pl.isList (by omega) (by rw [List.size_toArray] <;> omega) (by omega) (by rw [hj]; simpa using ew) ⟨rfl, fin⟩) hs
theorem ix_tup : IxR X (rIxT X.K):=by
 intro value slice pins s σ H x y v u Q I rx ry h hs
 obtain ⟨p, xs, i, z, rfl, rfl, hq, he, q⟩:=h
 cases rx
 obtain ⟨t, rfl⟩:=ry
 obtain ⟨its, r, pl, hz⟩:=I.tuple hq
 obtain ⟨j, h1, h2, h3, h4, h5⟩:=atI_get he
 obtain ⟨w, ew, rw'⟩:=r.get h2
 have hl:=r.length
 have hn:=line63
 have fin : EP X pins σ Q w s:=⟨z, H, I, rw', q⟩
 exact subscriptTail_builtinR (x:=w) pl.typeIs slot_tuple_getitem.lookup
  (getItem_tuple (j:=j) (Q:=fun r s' => r = w ∧ EP X pins σ Q r s') pl (by omega) (by omega) (by rw [List.size_toArray, ← hl]; exact h1) (by simpa using ew) ⟨rfl, fin⟩) hs
theorem ix_str : IxR X rIxS:=by
 intro value slice pins s σ H x y v u Q I rx ry h hs
 obtain ⟨z, i, c, rfl, rfl, hz, he, q⟩:=h
 obtain ⟨t, rfl⟩:=rx
 obtain ⟨t', rfl⟩:=ry
 obtain ⟨j, h1, h2, h3, h4, h5⟩:=atI_get he
 have hl : z.cps.toList.length = z.length:=by simp [Str.length]
 rw [hl] at h1 h4 h5
 have hn:=line63
 exact tail_any (typeIs_str s z t) slot_str_getitem.lookup (getItem_str (c:=c) (by
  have e1 : decide (i < -(2 ^ 63 : Int)) = false:=decide_eq_false (by omega)
  have e2 : decide (i ≥ 2 ^ 63) = false:=decide_eq_false (by omega)
  rw [e1, e2, Bool.or_false]) (by rw [h1]; simpa using h2) ⟨.str ⟨#[c]⟩, H, I.tok _, ⟨_, rfl⟩, q⟩) hs
theorem mapSeq_set (its : List Value) (n j : Nat) (u : Value) : Obj.mapSeq (·.setIfInBounds j u) { cls := .type "list", data := .seq its.toArray n } = { cls := .type "list", data := .seq (its.set j u).toArray n } := by
 simp [Obj.mapSeq]
theorem Inv.lst {pins : List (Addr × Obj)} {σ : St} {H : Hp} {s : Shared} {p : Addr} {xs : List V} (I : Inv X pins σ H s) (h : H p = some (.lst xs)) :
  ∃ (its : List Value) (n : Nat), Vals xs its ∧ s.heap.get? p = some { cls := .type "list", data := .seq its.toArray n } ∧ xs.length ≤ sizeLine := by
 obtain ⟨z, its, n, r, e⟩:=I.hok p _ h
 exact ⟨its, n, r, e, z⟩
theorem Inv.lstUpd {pins : List (Addr × Obj)} {σ : St} {H : Hp} {s : Shared} {p : Addr} {xs ys : List V} {its its' : List Value} {n n' : Nat} {f : Obj → Obj} (I : Inv X pins σ H s) (h : H p = some (.lst xs))
  (ho : s.heap.get? p = some { cls := .type "list", data := .seq its.toArray n }) (hf : f { cls := .type "list", data := .seq its.toArray n } = { cls := .type "list", data := .seq its'.toArray n' }) (r : Vals ys its') (hz : ys.length ≤ sizeLine) (t : Nat) :
  Inv X pins σ (upd H p (.lst ys)) { s with heap:=s.heap.update p f, toks:=t }:=by
 have e : (s.heap.update p f).get? p = some { cls := .type "list", data := .seq its'.toArray n' } := by
  rw [Heap.get?_update_self f ho (by rw [hf] <;> rfl), hf]
 refine I.write (x:=p) (e:=p) (by rw [h]; trivial) (.inl rfl) (fun b u hb q => (Heap.get?_update_other _ _ (Ne.symm hb)).trans q) ⟨_, e⟩ ?_
 exact ⟨hz, its', n', r, e⟩
noncomputable def rSetL : V → V → V → Hp → (Hp → Prop) → Prop:=fun o i v H Q => ∃ p xs k j, o = .ref p ∧ i = .int k ∧ H p = some (.lst xs) ∧ ixN xs.length k = some j ∧ Q (upd H p (.lst (xs.set j v)))
theorem set_list : PSet X rSetL:=by
 intro pins s σ H o i v ov iv u Q I ro ri rv h
 obtain ⟨p, xs, k, j, rfl, rfl, hp, hj, q⟩:=h
 cases ro
 obtain ⟨t, rfl⟩:=ri
 obtain ⟨its, n, r, ho, hz⟩:=I.lst hp
 obtain ⟨h1, h2, h3, h4⟩:=ixN_seq hj
 have hl:=r.length
 have hn:=line63
 have I' : Inv X pins σ (upd H p (.lst (xs.set j v))) { s with heap:=s.heap.update p (Obj.mapSeq (·.setIfInBounds j u)) } :=
  I.lstUpd hp ho (mapSeq_set its n j u) (r.set rv j) (by rw [List.length_set]; exact hz) s.toks
 by_cases h0 : 0 ≤ k
 ·have hk : k.toNat = j:=by
   rw [seqIndex_of h0 h4] at h1
   exact Option.some.inj h1
  exact PySem.W.ki_setAt ho h0 (by omega) (by rw [List.size_toArray, ← hl]; exact h4) (by rw [hk]; exact ⟨_, I', q⟩)
 ·have hk : (k + (its.toArray.size : Int)).toNat = j:=by
   rw [seqIndex_neg (by omega) h3] at h1
   rw [List.size_toArray, ← hl]
   exact Option.some.inj h1
  exact PySem.W.ki_setBack ho (by omega) (by rw [List.size_toArray, ← hl]; exact h3) (by omega) (by rw [hk]; exact ⟨_, I', q⟩)
theorem slice_bounds (lo hi : Option Int) (n : Nat) : (sliceBounds lo hi none n).1 = ((HT.sIx n 0 lo : Nat) : Int) ∧ (sliceBounds lo hi none n).2.1 = ((HT.sIx n n hi : Nat) : Int) ∧ (sliceBounds lo hi none n).2.2 = 1:=by
 refine ⟨?_, ?_, rfl⟩
 ·cases lo with
  | none => simp [sliceBounds, HT.sIx]
  | some i =>
   simp only [sliceBounds, HT.sIx, Option.getD_none, show (1 : Int) > 0 by decide, if_true]
   by_cases h : i < 0
   ·simp only [h, if_true] <;> omega
   ·simp only [h, if_false] <;> omega
 ·cases hi with
  | none => simp [sliceBounds, HT.sIx]
  | some i =>
   simp only [sliceBounds, HT.sIx, Option.getD_none, show (1 : Int) > 0 by decide, if_true]
   by_cases h : i < 0
   ·simp only [h, if_true] <;> omega
   ·simp only [h, if_false] <;> omega
theorem slicePick_cut (its : List Value) (lo hi : Option Int) : slicePick its.toArray lo hi none = ((its.drop (HT.sIx its.length 0 lo)).take (HT.sIx its.length its.length hi - HT.sIx its.length 0 lo)).toArray:=by
 obtain ⟨h1, h2, h3⟩:=slice_bounds lo hi its.toArray.size
 unfold slicePick
 rw [h1, h2, h3]
 simp only [sliceRange_one, pick_run, List.size_toArray] <;> rfl
noncomputable def rSlL (K : PySem.W.Frag) : V → Option Int → Option Int → Hp → VK → Prop:=fun x lo hi H Q => ∃ a xs, x = .ref a ∧ SqL K H a xs ∧ ∀ p, H p = none → Q (.ref p) (upd H p (.lst (cutV xs lo hi)))
theorem sl_list : SlR X (rSlL X.K):=by
 intro pins s σ H x v vl vu lo hi sl Q I rx hs pl pu h
 obtain ⟨a, xs, rfl, hx, q⟩:=h
 cases rx
 obtain ⟨its, r, ht, hz⟩:=I.list hx
 have hlen:=r.length
 refine ⟨"list", _, slot_list_getitem.lookup, ht.isList.typeIs, ?_⟩
 refine wpAny_getItem_list_slice ht.isList hs pl pu .none (by simp) ?_ (by rw [List.size_toArray] <;> omega)
 rw [slicePick_cut, ← hlen]
 refine ⟨.ref s.heap.objs.size, _, I.laid (t':=s.toks) (o:=.lst (cutV xs lo hi)) (fun b ob q => Heap.get?_push_of_some _ q) (Nat.le_refl _) ?_, rfl, q _ (I.hok.fresh (Nat.le_refl _))⟩
 exact ⟨Nat.le_trans (cutV_length xs lo hi) hz, _, 0, (r.drop (HT.sIx xs.length 0 lo)).take (HT.sIx xs.length xs.length hi - HT.sIx xs.length 0 lo), Heap.get?_push_size _ rfl⟩
theorem call_len_seq : CallR X (.builtin "len") (fun xs H Q => ∃ p ys, xs = [.ref p] ∧ (SqL X.K H p ys ∨ SqT X.K H p ys) ∧ Q (.int ys.length) H) := by
 intro pins s σ H xs us Q I r h
 obtain ⟨p, ys, rfl, hq, q⟩:=h
 obtain ⟨u, rfl, rx⟩:=vals1 r
 cases rx
 have hn:=line63
 rcases hq with hq | hq
 ·obtain ⟨its, r', pl, hz⟩:=I.list hq
  have hlen:=r'.length
  exact Calls.call_len_list pl.isList (by simp only [List.size_toArray] <;> omega) ⟨.int ys.length, H, I.tok _, ⟨s.toks + 1, by rw [List.size_toArray, hlen]⟩, q⟩
 ·obtain ⟨its, r', pl, hz⟩:=I.tuple hq
  have hlen:=r'.length
  exact len_tuple pl (by simp only [List.size_toArray] <;> omega) ⟨.int ys.length, H, I.tok _, ⟨s.toks + 1, by rw [List.size_toArray, hlen]⟩, q⟩
theorem call_len_str : CallR X (.builtin "len") (fun xs H Q => ∃ z, xs = [.str z] ∧ z.length ≤ sizeLine ∧ Q (.int z.length) H) := by
 intro pins s σ H xs us Q I r h
 obtain ⟨z, rfl, hz, q⟩:=h
 obtain ⟨u, rfl, t, rfl⟩:=vals1 r
 have hn:=line63
 exact len_str (by omega) ⟨.int z.length, H, I.tok _, ⟨_, rfl⟩, q⟩
theorem call_tuple_of : CallR X (.type "tuple") (fun xs H Q => ∃ p ys, xs = [.ref p] ∧ ((SqL X.K H p ys ∧ ∀ l, H l = none → Q (.ref l) (upd H l (.tup ys))) ∨ (SqT X.K H p ys ∧ Q (.ref p) H))) := by
 intro pins s σ H xs us Q I r h
 obtain ⟨p, ys, rfl, h⟩:=h
 obtain ⟨u, rfl, rx⟩:=vals1 r
 cases rx
 rcases h with ⟨hq, q⟩ | ⟨hq, q⟩
 ·obtain ⟨its, r', pl, hz⟩:=I.list hq
  have hlen:=r'.length
  refine call_tuple_list pl.isList (fun h' kp => ?_) (by simp only [List.size_toArray] <;> omega)
  have I1 : Inv X pins σ H { s with heap:=h' }:=I.kept (t':=s.toks) kp
  have I2 : Inv X pins σ (upd H h'.objs.size (.tup ys)) { s with heap := h'.push { cls := .type "tuple", data := .seq its.toArray } } :=
   I1.laid (t':=s.toks) (fun b o e => Heap.get?_push_of_some _ e) (Nat.le_refl _) (show ObjOk X.prog X.w _ _ _ (.tup ys) from ⟨hz, its, r', IsTup.new _ _⟩)
  exact ⟨.ref h'.objs.size, _, I2, rfl, q _ (I1.hok.fresh (Nat.le_refl _))⟩
 ·obtain ⟨its, r', pl, hz⟩:=I.tuple hq
  exact call_tuple_same pl ⟨.ref p, H, I, rfl, q⟩
noncomputable def tyV (K : PySem.W.Frag) (T : String) (x : V) (H : Hp) : Prop:=match x with
 | .str _ => T = "str"
 | .int _ => T = "int"
 | .ref p => (T = "list" ∧ ∃ xs, SqL K H p xs) ∨ (T = "tuple" ∧ ∃ o, K.lookup p = some o ∧ o.cls = .type "tuple" ∧ o.dict = none) ∨
   (T = "dict" ∧ ((∃ kvs, H p = some (.dK kvs)) ∨ ∃ kvs, H p = some (.dT kvs))) ∨ (T = "set" ∧ ∃ S n, H p = some (.set S n))
 | _ => False
theorem tyV_is {pins : List (Addr × Obj)} {σ : St} {H : Hp} {s : Shared} {T : String} {x : V} {v : Value} (I : Inv X pins σ H s) (r : RelV x v) (ty : tyV X.K T x H) :
  s.TypeIs v T ∧ ∀ a, v = .ref a → ∃ ob, s.heap.get? a = some ob ∧ ob.dict = none:=by
 cases x with
 | str z =>
  obtain ⟨t, rfl⟩:=r
  cases (show T = "str" from ty)
  exact ⟨typeIs_str s z t, fun _ e => nomatch e⟩
 | int i =>
  obtain ⟨t, rfl⟩:=r
  cases (show T = "int" from ty)
  exact ⟨typeIs_int s i t, fun _ e => nomatch e⟩
 | ref p =>
  cases r
  rcases ty with ⟨rfl, xs, hq⟩ | ⟨rfl, o, hk, hc, hd⟩ | ⟨rfl, hk⟩ | ⟨rfl, S, n, hk⟩
  ·obtain ⟨its, _, pl, _⟩:=I.list hq
   refine ⟨pl.isList.typeIs, fun a e => ?_⟩
   cases e
   obtain ⟨o, n, e, c, hd, _⟩:=pl
   exact ⟨o, e, hd⟩
  ·refine ⟨⟨o, I.kIn p o hk, hc⟩, fun a e => ?_⟩
   cases e
   exact ⟨o, I.kIn _ o hk, hd⟩
  ·have z : ∃ o, s.heap.get? p = some o ∧ o.ExactDict:=by
    rcases hk with ⟨kvs, hk⟩ | ⟨kvs, hk⟩
    ·obtain ⟨_, _, _, _, o, _, _, e, ex, _⟩:=I.hok p _ hk
     exact ⟨o, e, ex⟩
    ·obtain ⟨_, _, _, _, o, _, _, e, ex, _⟩:=I.hok p _ hk
     exact ⟨o, e, ex⟩
   obtain ⟨o, e, ex⟩:=z
   refine ⟨⟨o, e, ex.1⟩, fun a e2 => ?_⟩
   cases e2
   exact ⟨o, e, ex.2.1⟩
  ·obtain ⟨o, _, _, _, e, ex, _⟩:=I.hok p _ hk
   refine ⟨⟨o, e, ex.1⟩, fun a e2 => ?_⟩
   cases e2
   exact ⟨o, e, ex.2.1⟩
 | _ => exact False.elim ty
noncomputable def tBM (K : PySem.W.Frag) (T : String) (r : V → List V → Hp → VK → Prop) (to : TE) (t : TA) : TE:=fun σ H Q => to σ H fun x H1 => tyV K T x H1 ∧ t σ H1 fun xs H2 => r x xs H2 Q
variable {o e : Expr} {es : List Expr} {to : TE} {t : TA} {name : Str} {apos cpos : Pos} {T id : String} {r : V → List V → Hp → VK → Prop}
theorem pe_bm (pa : PlainAttrs T) (slot : Slot T name id) (hty : typeOf (.builtin id) = pure (.type "method_descriptor")) (hm : MtR X id r) (ho : PE X o to) (ha : PA X (e :: es) t)
  (hbase : attributeBase o name X.env (eval o X.env) = eval o X.env:=by rfl)
  (hfew : ((backTo cpos (starEach (e :: es) X.env)).all (fun x => !x.1) && (backToKw cpos (keywordEach [] X.env)).all (fun x => x.1.isSome)
   && decide ((e :: es).length + ([] : List Keyword).length + (if ([] : List Keyword).isEmpty then 0 else 1) < 30)) = true:=by rfl)
  (hline : (apos.endLine == cpos.line) = true:=by rfl) (hs : starEach (e :: es) X.env = (false, eval e X.env) :: starEach es X.env:=by rfl) (hplain : (backTo cpos (starEach es X.env)).any (·.1) = false:=by rfl) :
  PE X (.Call (.Attribute o name apos) (e :: es) [] cpos) (tBM X.K T r to t):=by
 intro pins s σ H Q I h
 refine wpAny_Call_method_late hbase hfew hline rfl (thn (ho pins s σ H _ I h) fun v s1 ⟨x, H1, I1, r1, ty, q1⟩ => ?_)
 obtain ⟨h1, h2⟩:=tyV_is I1 r1 ty
 refine ⟨T, id, pa, slot, hty, h1, h2, ?_⟩
 have hA:=ha cpos pins s1 σ H1 _ I1 q1
 rw [hs] at hA ⊢
 refine Calls.callWith_builtin (by show (false || (backTo cpos (starEach es X.env)).any (·.1)) = false; rw [hplain] <;> rfl) (Calls.evalArgs_plain ?_)
 exact thn hA fun us s2 ⟨vs, H2, I2, r2, q2⟩ => hm pins s2 σ H2 x vs v us Q I2 r1 r2 q2
/- xs.append(e), list.index on a module's tuple .. are MtR facts of 06m -/
end
end L2
namespace L2
open PySem PySem.Spec PyProof.Rows
noncomputable def MtM (X : Cx) (id : String) (r : V → List V → Hp → VK → Prop) : Prop :=
 ∀ (pins : List (Addr × Obj)) (s : Shared) (σ : St) (H : Hp) (x : V) (xs : List V) (v : Value) (us : List Value) (Q : VK), Inv X pins σ H s → RelV x v → Vals xs us → r x xs H Q →
  wpAny (model X.prog X.w) X.A (call (.builtin id) (v :: us)) (EP X pins σ Q) X.xe s
theorem Vals.one : ∀ {x : V} {us : List Value}, Vals [x] us → ∃ u, us = [u] ∧ RelV x u
 | _, _, .cons r .nil => ⟨_, rfl, r⟩
theorem Vals.rep {xs : List V} {us : List Value} (h : Vals xs us) : ∀ k : Nat, Vals (List.replicate k xs).flatten (List.replicate k us).flatten
 | 0 => .nil
 | k + 1 => by
  rw [List.replicate_succ, List.replicate_succ, List.flatten_cons, List.flatten_cons]
  exact Vals.append h (Vals.rep h k)
theorem foldl_rep (its : List Value) : ∀ (k : Nat) (acc : List Value),
  List.foldl (fun x1 x2 => x1 ++ x2) acc.toArray (List.replicate k its.toArray) = (acc ++ (List.replicate k its).flatten).toArray
 | 0, acc => by simp
 | k + 1, acc => by
  have e : acc.toArray ++ its.toArray = (acc ++ its).toArray:=by simp
  have e2 : (acc ++ its) ++ (List.replicate k its).flatten = acc ++ (List.replicate (k + 1) its).flatten:=by
   rw [List.replicate_succ, List.flatten_cons, List.append_assoc]
  rw [← e2, ← foldl_rep its k (acc ++ its), ← e, List.replicate_succ, List.foldl_cons]
section
variable {X : Cx} {pins : List (Addr × Obj)} {σ : St} {H : Hp} {s : Shared} {l b : Addr} {xs ys zs : List V}
theorem Inv.lset {its its' : List Value} {n : Nat} {f : Array Value → Array Value} {t' : Nat} (I : Inv X pins σ H s) (hH : H l = some (.lst xs))
  (e : s.heap.get? l = some { cls := .type "list", data := .seq its.toArray n }) (hf : f its.toArray = its'.toArray) (hv : Vals ys its') (hz : ys.length ≤ sizeLine) :
  Inv X pins σ (upd H l (.lst ys)) { s with heap:=s.heap.update l (Obj.mapSeq f), toks:=t' }:=by
 have q:=PySem.IsL.update e f
 rw [hf] at q
 refine I.write (x:=l) (e:=l) (by rw [hH]; exact trivial) (.inl rfl) (fun b' u hb hu => (Heap.get?_update_other s.heap (Obj.mapSeq f) (Ne.symm hb)).trans hu) ⟨_, q⟩ ?_
 exact ⟨hz, its', _, hv, q⟩
theorem Inv.lnew {its : List Value} {t' : Nat} (I : Inv X pins σ H s) (hv : Vals ys its) (hz : ys.length ≤ sizeLine) :
  Inv X pins σ (upd H s.heap.objs.size (.lst ys)) { s with heap := s.heap.push { cls := .type "list", data := .seq its.toArray }, toks := t' } :=
 I.laid (fun _ _ q => Heap.get?_push_of_some _ q) (Nat.le_refl _) ⟨hz, its, 0, hv, Heap.get?_push_size _ rfl⟩
theorem Inv.fresh (I : Inv X pins σ H s) : H s.heap.objs.size = none:=I.hok.fresh (Nat.le_refl _)
theorem Inv.lstM (I : Inv X pins σ H s) (hH : H l = some (.lst xs)) : xs.length ≤ sizeLine ∧ ∃ (its : List Value) (n : Nat), Vals xs its ∧ xs.length = its.length ∧ s.heap.get? l = some { cls := .type "list", data := .seq its.toArray n } := by
 obtain ⟨z, its, n, r, e⟩:=I.hok l _ hH
 exact ⟨z, its, n, r, r.length, e⟩
end
section
variable {X : Cx}
noncomputable def rAppend : V → List V → Hp → VK → Prop:=fun x vs H Q => ∃ l xs y, x = .ref l ∧ vs = [y] ∧ H l = some (.lst xs) ∧ xs.length < sizeLine ∧ Q .non (upd H l (.lst (xs ++ [y])))
theorem mt_append : MtM X "list.append" rAppend := by
 intro pins s σ H x vs v us Q I rx rv h
 obtain ⟨l, xs, y, rfl, rfl, hH, hz, q⟩:=h
 cases rx
 obtain ⟨u, rfl, ru⟩:=rv.one
 obtain ⟨z, its, n, r, hl, e⟩:=I.lstM hH
 refine call_meets F.slot_list_append ⟨_, e, rfl⟩ F.entry_list_append (F.args_list_append_2 _ _) (PySem.list_append l its.toArray n u (by rw [List.size_toArray]; omega)) ⟨e, ?_⟩
 refine ⟨.non, _, I.lset (its':=its ++ [u]) hH e (by simp) (r.append (.cons ru .nil)) ?_, rfl, q⟩
 rw [List.length_append, List.length_singleton]
 omega
noncomputable def rCat : R2:=fun x y H Q => ∃ l b xs zs, x = .ref l ∧ y = .ref b ∧ H l = some (.lst xs) ∧ H b = some (.lst zs) ∧ xs.length + zs.length ≤ sizeLine ∧ ∀ p, H p = none → Q (.ref p) (upd H p (.lst (xs ++ zs)))
theorem op_cat : OpR X (binaryOp .Add) rCat:=by
 intro pins s σ H x y v u Q I rx ry h
 obtain ⟨l, b, xs, zs, rfl, rfl, hH, hB, hz, q⟩:=h
 cases rx
 cases ry
 obtain ⟨z, its, n, r, hl, e⟩:=I.lstM hH
 obtain ⟨z2, its2, n2, r2, hl2, e2⟩:=I.lstM hB
 refine PySem.P.add_list e e2 ?_ (by rw [List.size_toArray, List.size_toArray]; omega)
 have ea : its.toArray ++ its2.toArray = (its ++ its2).toArray:=by simp
 rw [ea]
 exact ⟨.ref _, _, I.lnew (t':=s.toks) (r.append r2) (by rw [List.length_append]; omega), rfl, q _ I.fresh⟩
theorem len_rep {α : Type} (xs : List α) (k : Nat) : (List.replicate k xs).flatten.length = k * xs.length:=by
 induction k with
 | zero => simp
 | succ k ih => rw [List.replicate_succ, List.flatten_cons, List.length_append, ih, Nat.succ_mul, Nat.add_comm]
end
section
variable {prog : Program} {w : World} {A : Around} {E : Value → Shared → Prop} {s : Shared}
end
section
variable {X : Cx}
end
end L2
namespace Att
open PySem PySem.W PySem.Calls PyProof.Rows
theorem ints_of_wellAll {P : Params} {h : Heap} : ∀ (ns : List Int) (vs : List Value), WellAll P h vs (ns.map WData.int) → IntsAre vs ns:=by
 intro ns
 induction ns with
 | nil =>
  intro vs w
  rw [List.map_nil] at w
  cases w
  exact .nil
 | cons n ns ih =>
  intro vs w
  rw [List.map_cons] at w
  cases w with
  | cons a b =>
   cases a
   exact .cons _ _ (ih _ b)
theorem script_of {l : OpenLaw} {n : Nat} (hn : l.most = some n) {P : Params} {h : Heap} {args : List WData} {vals : List Value}
  (hpre : l.row.toRowW.claim.pre args = true) (hwl : WellAll P h vals args) :
  ∃ a vs ns, vals = [Value.ref a] ∧ args = [WData.list (ns.map WData.int)] ∧ h.get? a = some { cls := .type "list", data := .seq vs.toArray } ∧ IntsAre vs ns ∧ ns.length ≤ n := by
 have hsh : WShape.hasAll [] args [.list .int] = true:=(pre_splitW hpre).1
 have hc : l.pre.holds [] { args:=args } = true:=(pre_splitW hpre).2
 obtain ⟨d, r, rfl, h1, h2⟩:=hasAllW_cons hsh
 obtain rfl:=hasAllW_nil h2
 obtain ⟨xs, rfl, h3⟩:=hasW_list h1
 obtain ⟨ns, rfl⟩:=items_int h3
 have hlen : ns.length ≤ n:=by
  unfold OpenLaw.pre at hc
  have h4 : (WTm.not (.lt (.lit (.int (n : Int))) (.len (.arg 0)))).holds [] { args:=[.list (ns.map .int)] } = true:=by
   have h4:=(holds_andW hc).1
   rw [hn] at h4
   exact h4
  have h5:=condW_of h4 (w_not (w_lt w_lit (w_len_list (w_arg rfl))))
  rw [List.length_map] at h5
  refine Nat.le_of_not_lt fun q => ?_
  have q' : (n : Int) < ((ns.length : Nat) : Int):=by omega
  first
   | (rw [decide_eq_true q'] at h5; exact absurd h5 (by decide))
   | (simp at h5; omega)
 cases hwl with
 | cons w1 w2 =>
  cases w2
  cases w1 with
  | list ho hall => exact ⟨_, _, ns, rfl, rfl, ho, ints_of_wellAll ns _ hall, hlen⟩
theorem post_true (l : OpenLaw) (args : List WData) : l.row.toRowW.claim.post args (.bool true) args = true :=
 postW_of (r:=l.row.toRowW) (X:=(true == true))
  (show WShape.has [] (.bool true) .bool = true by first | rfl | decide | simp [WShape.has, WShape.arms, WShape.armsAll])
  (show (WTm.eq .res (.lit (.bool true))).value [] { args:=args, res:=some (.bool true), after:=args } = some (.bool (true == true)) from w_eq_bool (w_res rfl) w_lit) rfl
theorem attach_call {l : OpenLaw} {n : Nat} {q : Program} {loose : List Str} {XP : (Str → Option Value) → Heap → Prop} {YP : World → Heap → Prop} {d : DefRec}
  (hn : l.most = some n) (hdf : d.params.defaults = [])
  (call : ∀ (w : World) (s₀ s₁ : Shared) (mg mb : Str → Option Value) (fa : Addr) (o : Obj) (pm cd doc : Value) (a : Addr) (vs : List Value) (ns : List Int),
   Ground q loose [] XP w s₀ mg mb s₁.heap → YP w s₁.heap →
   s₁.heap.get? fa = some o → o.data = .func (docDef d.name d.params d.body d.scope pm cd doc) → s₁.heap.CodeRec cd d.name → mg d.name = some (.ref fa) →
   s₁.heap.get? a = some { cls := .type "list", data := .seq vs.toArray } → IntsAre vs ns → ns.length ≤ n → s₁.gens = #[] →
   codeAny (model l.prog w) callerA (.call (.ref fa) ⟨[.ref a], []⟩) (fun r s' => r = .ok (.ret (.bool true)) ∧ OldK s₁.heap s'.heap ∧ s'.os = s₁.os ∧ AllBare s'.gens) s₁) :
  WalkO q loose XP YP l.row.toRowW d [] (fun f vs => PySem.call f vs):=by
 intro w s₀ s₁ mg mb G Y fa o pm cd doc dV kV ho hd hcd hD hmg hg args vals as hpre hlay hrd hwl hlo
 obtain rfl : dV = .none:=Dflts.none hD hdf
 obtain rfl : kV = .none:=Dflts.noKw hD
 obtain ⟨a, vs, ns, rfl, rfl, hobj, hints, hlen⟩:=script_of hn hpre hwl
 refine enter_call (codeAny_mono (call w s₀ s₁ mg mb fa o pm cd doc a vs ns G Y ho (fd_plain hd) hcd hmg hobj hints hlen hg) fun r s' hq => ?_)
 obtain ⟨rfl, h2, h3, h4⟩:=hq
 exact ⟨.inl ⟨.bool true, .bool true, [], rfl, fun _ => rfl, .bool true, post_true l _, fun _ => ⟨List.Pairwise.nil, fun _ hm => (nomatch hm)⟩⟩, h2, h3, h4⟩
section
variable {prog : Program} {w : World} {A : Around} {E : Value → Shared → Prop} {s : Shared} {K : Frag}
end
end Att
namespace L2
open PySem PySem.Spec PyProof.Rows
theorem vals_ints : ∀ {vs : List Value} {ns : List Int}, IntsAre vs ns → Vals (ns.map V.int) vs
 | _, _, .nil => .nil
 | _, _, .cons n t h => .cons ⟨t, rfl⟩ (vals_ints h)
noncomputable def Only (H : Hp) : Prop:=∀ b, H b = none ∨ ∃ o xs, H b = some (.frz o (.lst xs))
theorem law_call {P : Program} {w : World} {K : PySem.W.Frag} {mg mb : Str → Option Value} {CX : CXT} {k : Nat} {fa a : Addr} {fd : FuncData} {x : Str} {sp : Sp} {s₁ : Shared} {vs : List Value} {ns : List Int}
  (KX : K.In s₁.heap) (hns : s₁.heap.Ns mainGlobals mg) (hb : s₁.heap.Ns builtinsNs mb) (hbb : ∀ x : Str, x ≠ "__name__" → mb x = bootBuiltins x) (hlim : s₁.heap.NoLimit) (hg : s₁.gens = #[])
  (ha : s₁.heap.get? a = some { cls := .type "list", data := .seq vs.toArray }) (hi : IntsAre vs ns) (hl : ns.length ≤ sizeLine) (hr : Room k callerA)
  (F : ∀ base : Heap, K.In base → base.Ns mainGlobals mg → FnOk P w K mg base CX k fa fd [x] sp) (hbind : ∀ (s : Shared) (u : Value), BindsTo s fd ⟨[u], []⟩ [(x, u)])
  (hsp : ∀ H : Hp, Only H → SqL K H a (ns.map V.int) → sp [.ref a] H (fun v _ => v = .bl true) fun _ _ _ => False)
  (hCX : ∀ H e s', CX [] H s₁ (fun _ _ _ => False) e s' → False) :
  codeAny (model P w) callerA (.call (.ref fa) ⟨[.ref a], []⟩) (fun r s' => r = .ok (.ret (.bool true)) ∧ OldK s₁.heap s'.heap ∧ s'.os = s₁.os ∧ AllBare s'.gens) s₁:=by
 have rv:=vals_ints hi
 have lenV:=hi.length
 have core : ∀ H : Hp, Only H → SqL K H a (ns.map V.int) → HOk P w H s₁.heap → (∀ b, H b ≠ none → b = a) → (H a ≠ none → K.lookup a = none) →
   codeAny (model P w) callerA (.call (.ref fa) ⟨[.ref a], []⟩) (fun r s' => r = .ok (.ret (.bool true)) ∧ OldK s₁.heap s'.heap ∧ s'.os = s₁.os ∧ AllBare s'.gens) s₁:=by
  intro H hO hS hok hA hK
  have base_of : ∀ {b : Addr} {o : Obj}, s₁.heap.get? b = some o → H b = none → (hidT s₁.heap H).get? b = some o:=fun e n => hidT_get e n
  have noA : ∀ {b : Addr} {o : Obj} {es : Array DictEntry} {ep : Nat}, s₁.heap.get? b = some o → o.data = .dict es ep → H b = none:=fun {b o es ep} e d => by
   cases q : H b with
   | none => rfl
   | some u =>
    have e' : b = a:=hA b (by rw [q]; simp)
    subst e'
    rw [ha] at e; cases e
    have d' : Data.seq vs.toArray _ = Data.dict es ep:=d
    cases d'
  have nsK : ∀ {b : Addr} {m : Str → Option Value}, s₁.heap.Ns b m → (hidT s₁.heap H).Ns b m:=fun {b m} ⟨o, es, ep, e, d, r⟩ => ⟨o, es, ep, base_of e (noA e d), d, r⟩
  have hKb : K.In (hidT s₁.heap H):=fun b o e => base_of (KX b o e) (by
   cases q : H b with
   | none => rfl
   | some u =>
    have e' : b = a:=hA b (by rw [q]; simp)
    subst e'
    rw [hK (by rw [q]; simp)] at e; cases e)
  have hM : Mod K mg (hidT s₁.heap H):=⟨hKb, nsK hns, ⟨mb, nsK hb, hbb⟩, let ⟨mc, h1, h2⟩:=hlim; ⟨mc, nsK h1, h2⟩⟩
  have e0 : Env0 P w K mg (hidT s₁.heap H) callerA [] s₁ H:=⟨rfl, hM, fun b o e => of_hidT e, Nat.le_of_eq (hidT_size _ _), trivial, fun b hb => absurd (show b ∈ ([] : List Addr) from hb) (by simp), hok, .of_eq hg⟩
  refine codeAny_mono ((F _ hKb (nsK hns)).run callerA [] s₁ H ⟨[.ref a], []⟩ [.ref a] [.ref a] _ _ hr e0 (hbind s₁ (.ref a)) (.cons rfl .nil) (hsp H hO hS)) fun r s' h => ?_
  cases r with
  | error e => exact (hCX H e s' h).elim
  | ok fl =>
   cases fl with
   | next => exact False.elim h
   | brk => exact False.elim h
   | cont => exact False.elim h
   | ret u =>
    obtain ⟨v, H', os, bare, un, hok', r', q⟩:=h
    have q' : v = .bl true:=q
    subst q'
    obtain rfl : u = Value.bool true:=r'
    refine ⟨rfl, OldK.of_keep fun b o e => ?_, os, bare⟩
    cases q : H b with
    | none => exact un.keep b o e q (by intro z; exact absurd (show b ∈ ([] : List Addr) from z) (by simp)) (by simp)
    | some u =>
     rcases hO b with z | ⟨ob, xs, z⟩
     ·rw [q] at z; cases z
     ·have z2:=un.frzs b ob _ z
      obtain ⟨e1, _⟩:=hok b _ z
      obtain ⟨e2, _⟩:=hok' b _ z2
      rw [e] at e1; cases e1
      exact e2
 cases hk : K.lookup a with
 | some o =>
  have e:=KX a o hk
  rw [ha] at e
  cases e
  refine core (fun _ => none) (fun _ => .inl rfl) (.inr ⟨_, vs.toArray, _, hk, rfl, rfl, rfl, by rw [List.size_toArray, lenV]; exact hl, by simpa using rv⟩) (fun b u z => by have z' : (none : Option HO) = some u:=z; cases z') (fun b z => absurd rfl z) fun z => absurd rfl z
 | none =>
  refine core (fun b => if b = a then some (.frz { cls := .type "list", data := .seq vs.toArray } (.lst (ns.map V.int))) else none) (fun b => ?_) (.inl (.inr ⟨{ cls := .type "list", data := .seq vs.toArray }, if_pos rfl⟩)) (fun b u z => ?_) (fun b z => ?_) fun _ => hk
  ·by_cases hb : b = a
   ·exact .inr ⟨_, _, if_pos hb⟩
   ·exact .inl (if_neg hb)
  ·by_cases hb : b = a
   ·have z':=(if_pos hb).symm.trans z
    cases z'
    subst hb
    exact ⟨ha, by rw [List.length_map]; exact hl, vs, _, rv, ha⟩
   ·have z':=(if_neg hb).symm.trans z
    cases z'
  ·by_cases hb : b = a
   ·exact hb
   ·exact absurd (if_neg hb) z
end L2
namespace L2
open PySem PySem.Spec PyProof.Rows
theorem walk_of {l : PySem.W.OpenLaw} {n k : Nat} {q : Program} {loose : List Str} {XP : (Str → Option Value) → Heap → Prop} {YP : World → Heap → Prop} {d : DefRec} {K : Params → PySem.W.Frag} {CX : World → CXT} {sp : World → Sp} {x : Str}
  (hn : l.most = some n) (hn2 : n ≤ sizeLine) (hdf : d.params.defaults = []) (hr : Room k callerA)
  (hY : ∀ (w : World) (h : Heap), YP w h → (K w.params).In h)
  (F : ∀ (w : World) (mg : Str → Option Value) (fa : Addr) (h : Heap), (K w.params).In h → h.Ns mainGlobals mg → mg d.name = some (.ref fa) →
   ∃ fd : FuncData, (∀ (s : Shared) (u : Value), BindsTo s fd ⟨[u], []⟩ [(x, u)]) ∧
    ∀ base : Heap, (K w.params).In base → base.Ns mainGlobals mg → FnOk l.prog w (K w.params) mg base (CX w) k fa fd [x] (sp w))
  (hsp : ∀ (w : World) (H : Hp) (a : Addr) (ns : List Int), ns.length ≤ n → Only H → SqL (K w.params) H a (ns.map V.int) → sp w [.ref a] H (fun v _ => v = .bl true) fun _ _ _ => False)
  (hCX : ∀ (w : World) (H : Hp) (s : Shared) (e : Value) (s' : Shared), CX w [] H s (fun _ _ _ => False) e s' → False) :
  PySem.W.WalkO q loose XP YP l.row.toRowW d [] (fun f vs => PySem.call f vs):=by
 refine Att.attach_call hn hdf fun w s₀ s₁ mg mb fa o pm cd doc a vs ns G Y ho hd hcd hmg hobj hints hlen hg => ?_
 have KX:=hY w _ Y
 obtain ⟨fd, hb, hF⟩:=F w mg fa _ KX G.T.g hmg
 exact law_call KX G.T.g G.T.b G.T.builtins G.T.nolimit hg hobj hints (Nat.le_trans hlen hn2) hr hF hb (fun H hO hS => hsp w H a ns hlen hO hS) fun H e s' => hCX w H s₁ e s'
end L2
/- THE LAST THEOREM (shape; LID, My.* are yours):
   My.Adr: a structure of the addresses that your layer names (classes, functions); My.Txt K t: a structure (Prop) of the equations over K;
   My.txt_mk : {K} {implicit addresses ..} (e1 : nsIn K mainGlobals "law" = some (some (.ref f))) (e2 : K.lookup f = some ⟨oc, od, .func (fnOf "law" "law" params body scope dV kV doc pm an cdv ct), sl⟩) (e3 : codeIn K cdv "law" = true) .. : ∃ t, My.Txt K t
set_option maxRecDepth 100000 in
set_option maxHeartbeats 0 in
theorem PySem.Challenge.cw_LID_holds : PySem.Challenge.rw_LID.Holds := by
 w_on; o_law; k_head; (case hw => w_witness2)
 k_fill
 refine L2.walk_of (l := PySem.Challenge.rw_LID) (n := 63) (k := 40) (x := "script") (CX := fun w => ..) (sp := fun _ => My.sp_law) rfl (by decide) rfl ⟨rfl, by decide, by decide⟩ (fun w h Y => PySem.W.kIn_of Y) ?F ?S ?C
 case F =>
  intro w mg fa h KX G hmg
  have T : ∃ t, My.Txt (L2.KOf KX) t:=by
   dsimp only [L2.KOf]                          -- K must stand as «<heap const> w.params» for k_is
   refine' My.txt_mk ?e1 ?e2 ?e3 ..
   (case e1 => PySem.W.k_is)                    -- in the order: a name -> its address -> its object -> its parts
   (case e2 => PySem.W.k_is)
   ..
  obtain ⟨t, T⟩:=T
  have e0:=hmg.symm.trans (PySem.W.mg_of KX G T.law)
  cases e0                                       -- fa is the law's own address
  exact ⟨_, fun s u => .of_eq rfl, fun base kb nb => My.law_fn T kb nb⟩     -- if «.of_eq rfl» comes too early: refine' ⟨_, ?b, fun base kb nb => My.law_fn T kb nb⟩; exact fun s u => .of_eq rfl
 case S => exact fun w H a ns hl hO hS => ..
 case C => exact ..
(the tactic k_is has no namespace: write k_is) -/
namespace L2
open PySem PySem.Spec PyProof.Rows
noncomputable def inClass (s : Stmt) (j : Nat) : Stmt:=match s with
 | .ClassDef _ _ _ body _ _ _ _ _ _ _ => body.getD j (.Pass ⟨0, 0, 0, 0⟩)
 | _ => .Pass ⟨0, 0, 0, 0⟩
noncomputable def defArgs (s : Stmt) : Arguments:=match s with
 | .FunctionDef _ a _ _ _ _ _ _ _ _ => a
 | _ => { posonlyargs:=[], args:=[], vararg:=none, kwonlyargs:=[], kw_defaults:=[], kwarg:=none, defaults:=[] }
noncomputable def defBody (s : Stmt) : List Stmt:=match s with
 | .FunctionDef _ _ b _ _ _ _ _ _ _ => b
 | _ => []
noncomputable def defScope (s : Stmt) : Scope:=match s with
 | .FunctionDef _ _ _ _ _ _ sc _ _ _ => sc
 | _ => { kind:=.function, names:=[], isGenerator:=false, isCoroutine:=false }
noncomputable abbrev CX0 : CXT:=fun _ _ _ _ _ _ => False
structure Fun (K : PySem.W.Frag) (x qual : Str) (st : Stmt) (f : Addr) (fd : FuncData) : Prop where
 ex : ∃ (oc : Value) (od : Option Addr) (kV doc pm : Value) (an : Option Addr) (cdv ct : Value) (osl : Array (Option Value)),
  fd = PySem.W.fnOf x qual (defArgs st) (defBody st) (defScope st) .none kV doc pm an cdv ct ∧ K.lookup f = some ⟨oc, od, .func fd, osl⟩ ∧ PySem.W.codeIn K cdv qual = true
 kp : PySem.W.keepIn K (.ref f) = true
section
variable {P : Program} {w : World} {K : PySem.W.Frag} {mg : Str → Option Value} {base : Heap}
theorem Fun.ok {x qual : Str} {st : Stmt} {f : Addr} {fd : FuncData} {N ps : List Str} {k : Nat} {sp : Sp} (F : Fun K x qual st f fd) (S : FnScope N ps (defScope st)) (len : ∀ vs H Q E, sp vs H Q E → vs.length = ps.length)
  (hbody : ∀ (cdv : Value) (A : Around) (outer : List Env) (s : Shared) (H : Hp) (vs : List V) (Q : VK) (E : XK), Room k (A.deeper (envOfC qual (defScope st) s.heap.objs.size f cdv)) → sp vs H Q E →
   ∃ t, PSs (cxOf CX0 P w K mg base N qual (defScope st) f cdv A outer s H E).nox (defBody st) t ∧ t { nx:=fun _ H' => Q .non H', rt:=Q } (start N vs) H) : FnOk P w K mg base CX0 (k + 1) f fd ps sp:=by
 obtain ⟨oc, od, kV, doc, pm, an, cdv, ct, osl, rfl, lk, hcd⟩:=F.ex
 refine fn_of lk hcd S len fun A outer s H vs Q E hr hsp => ?_
 obtain ⟨t, h, q⟩:=hbody cdv A outer s H vs Q E hr hsp
 exact ⟨t, h.nox, q⟩
theorem Fun.binds {x qual : Str} {st : Stmt} {f : Addr} {fd : FuncData} {ps : List Str} (F : Fun K x qual st f fd)
  (h : ∀ (kV doc pm : Value) (an : Option Addr) (cdv ct : Value) (us : List Value), us.length = ps.length → bindArgs (PySem.W.fnOf x qual (defArgs st) (defBody st) (defScope st) .none kV doc pm an cdv ct) ⟨us, []⟩ = pure (ps.zip us)) : Binds K fd ps []:=by
 obtain ⟨oc, od, kV, doc, pm, an, cdv, ct, osl, rfl, lk, hcd⟩:=F.ex
 exact .all (h kV doc pm an cdv ct)
theorem fun_mk {x qual : Str} {st : Stmt} {f : Addr} {oc : Value} {od an : Option Addr} {osl : Array (Option Value)} {kV doc pm cdv ct : Value} (l : K.lookup f = some ⟨oc, od, .func (PySem.W.fnOf x qual (defArgs st) (defBody st) (defScope st) .none kV doc pm an cdv ct), osl⟩)
  (c : PySem.W.codeIn K cdv qual = true) (k : PySem.W.keepIn K (.ref f) = true) : Fun K x qual st f (PySem.W.fnOf x qual (defArgs st) (defBody st) (defScope st) .none kV doc pm an cdv ct):=⟨⟨oc, od, kV, doc, pm, an, cdv, ct, osl, rfl, l, c⟩, k⟩
end
section
variable {X : Cx}
end
end L2
section
namespace DL
open PySem PySem.Spec PyProof.Rows L2
inductive D where
 | non | bl (b : Bool) | int (i : Int) | str (x : Str) | tup (xs : List D) | lst (xs : List D) | scr (xs : List D) | res (i : Nat) | exv (C : Addr)
inductive S where
 | lst (xs : List D)
 | ins (C : Addr) (fs : List (Str × D))
 | dct (kvs : List (D × D))
 | dtt (kvs : List (D × D))
 | fdc (kvs : List (D × D))
noncomputable abbrev Sto:=List S
noncomputable abbrev Ev:=List (Option D)
inductive Out (α : Type) where
 | ok (a : α) (st : Sto)
 | exc (c : Addr) (st : Sto)
 | bad
noncomputable def Out.bind {α β : Type} (r : Out α) (k : α → Sto → Out β) : Out β:=match r with
 | .ok a st => k a st
 | .exc c st => .exc c st
 | .bad => .bad
theorem nodup_at {α : Type} {l : List α} (hl : l.Nodup) {i j : Nat} {x : α} (a : l[i]? = some x) (b : l[j]? = some x) : i = j:=by
 obtain ⟨h1, e1⟩:=List.getElem?_eq_some_iff.mp a
 obtain ⟨h2, e2⟩:=List.getElem?_eq_some_iff.mp b
 have hp:=List.pairwise_iff_getElem.mp hl
 rcases Nat.lt_trichotomy i j with h | h | h
 ·exact absurd (e1.trans e2.symm) (hp i j h1 h2 h)
 ·exact h
 ·exact absurd (e2.trans e1.symm) (hp j i h2 h1 h)
noncomputable def ExcO (a C : Addr) : Heap → Prop:=fun h => ∃ o vs, h.get? a = some o ∧ o.cls = .ref C ∧ o.data = .fields vs
theorem ExcO.inj {a C C' : Addr} {h : Heap} (x : ExcO a C h) (y : ExcO a C' h) : C = C':=by
 obtain ⟨o, _, e, c, _⟩:=x
 obtain ⟨o', _, e', c', _⟩:=y
 rw [e] at e'
 cases e'
 rw [c] at c'
 exact Value.ref.inj c'
section
variable (K : PySem.W.Frag)
noncomputable def SqF (H : Hp) (a : Addr) (vs : List V) : Prop :=
 (∃ o, H a = some (.frz o (.lst vs))) ∨ ∃ (o : Obj) (its : Array Value) (n : Nat), K.lookup a = some o ∧ o.cls = .type "list" ∧ o.dict = none ∧ o.data = .seq its n ∧ its.size ≤ sizeLine ∧ Vals vs its.toList
mutual
noncomputable def Rep (O : List Addr) (H : Hp) : D → V → Prop
 | .non, v => v = .non
 | .bl b, v => v = .bl b
 | .int i, v => v = .int i
 | .str x, v => v = .str x
 | .tup ds, v => ∃ a vs, v = .ref a ∧ H a = some (.tup vs) ∧ Reps O H ds vs
 | .lst ds, v => ∃ a vs, v = .ref a ∧ a ∉ O ∧ H a = some (.lst vs) ∧ Reps O H ds vs
 | .scr ds, v => ∃ a vs, v = .ref a ∧ SqF K H a vs ∧ Reps O H ds vs
 | .res i, v => ∃ a, v = .ref a ∧ O[i]? = some a
 | .exv C, v => ∃ a, v = .ref a ∧ H a = some (.ext (ExcO a C))
noncomputable def Reps (O : List Addr) (H : Hp) : List D → List V → Prop
 | [], vs => vs = []
 | d :: ds, vs => ∃ v r, vs = v :: r ∧ Rep O H d v ∧ Reps O H ds r
end
noncomputable def Flds (O : List Addr) (H : Hp) : List (Str × D) → List (Str × V) → Prop
 | [], vs => vs = []
 | (x, d) :: ds, vs => ∃ v r, vs = (x, v) :: r ∧ Rep K O H d v ∧ Flds O H ds r
noncomputable def keyD : D → Option Key
 | .int i => some (.inl i)
 | .str x => some (.inr x)
 | _ => none
noncomputable def keyDs : List D → Option (List Key)
 | [] => some []
 | d :: ds => match keyD d, keyDs ds with
  | some k, some ks => some (k :: ks)
  | _, _ => none
noncomputable def keyT : D → Option (List Key)
 | .tup ds => keyDs ds
 | _ => none
noncomputable def Kvs {κ : Type} (f : D → Option κ) (O : List Addr) (H : Hp) : List (D × D) → List (κ × V) → Prop
 | [], vs => vs = []
 | (k, d) :: ds, vs => ∃ q v r, vs = (q, v) :: r ∧ f k = some q ∧ Rep K O H d v ∧ Kvs f O H ds r
noncomputable def RepS (O : List Addr) (H : Hp) (a : Addr) : S → Prop
 | .dct ds => ∃ vs, H a = some (.dK vs) ∧ Kvs K keyD O H ds vs
 | .dtt ds => ∃ vs, H a = some (.dT vs) ∧ Kvs K keyT O H ds vs
 | .fdc ds => ∃ o vs, H a = some (.frz o (.dK vs)) ∧ Kvs K keyD O H ds vs
 | .lst ds => ∃ vs, H a = some (.lst vs) ∧ Reps K O H ds vs
 | .ins C fs => ∃ dx vfs, H a = some (.ins C dx vfs) ∧ Flds K O H fs vfs
structure WR (O : List Addr) (H : Hp) (st : Sto) : Prop where
 len : O.length = st.length
 nd : O.Nodup
 at_ : ∀ (i : Nat) (a : Addr) (s : S), O[i]? = some a → st[i]? = some s → RepS K O H a s
structure Keep (O : List Addr) (H : Hp) (O' : List Addr) (H' : Hp) : Prop where
 tup : ∀ a vs, H a = some (.tup vs) → H' a = some (.tup vs)
 lst : ∀ a vs, a ∉ O → H a = some (.lst vs) → a ∉ O' ∧ H' a = some (.lst vs)
 frz : ∀ a vs, SqF K H a vs → SqF K H' a vs
 pre : ∀ (i : Nat) (a : Addr), O[i]? = some a → O'[i]? = some a
 exv : ∀ a C, H a = some (.ext (ExcO a C)) → H' a = some (.ext (ExcO a C))
end
section
variable {K : PySem.W.Frag} {O O1 O2 O' : List Addr} {H H1 H2 H' : Hp} {st st' : Sto}
theorem SqF.sq {a : Addr} {vs : List V} (h : SqF K H a vs) : SqL K H a vs:=by
 rcases h with ⟨o, h⟩ | h
 ·exact .inl (.inr ⟨o, h⟩)
 ·exact .inr h
theorem SqF.of {a : Addr} {vs : List V} (h : SqL K H a vs) (hn : H a ≠ some (.lst vs)) : SqF K H a vs:=by
 rcases h with (h | ⟨o, h⟩) | h
 ·exact absurd h hn
 ·exact .inl ⟨o, h⟩
 ·exact .inr h
theorem Keep.refl : Keep K O H O H:=⟨fun _ _ h => h, fun _ _ n h => ⟨n, h⟩, fun _ _ h => h, fun _ _ h => h, fun _ _ h => h⟩
theorem Keep.trans (a : Keep K O H O1 H1) (b : Keep K O1 H1 O2 H2) : Keep K O H O2 H2 :=
 ⟨fun x vs h => b.tup x vs (a.tup x vs h), fun x vs n h => let ⟨n1, h1⟩:=a.lst x vs n h; b.lst x vs n1 h1, fun x vs h => b.frz x vs (a.frz x vs h), fun i x h => b.pre i x (a.pre i x h), fun x C h => b.exv x C (a.exv x C h)⟩
mutual
theorem Rep.mono (k : Keep K O H O' H') : ∀ (d : D) (v : V), Rep K O H d v → Rep K O' H' d v
 | .non, _, h => by unfold Rep at h ⊢; exact h
 | .bl _, _, h => by unfold Rep at h ⊢; exact h
 | .int _, _, h => by unfold Rep at h ⊢; exact h
 | .str _, _, h => by unfold Rep at h ⊢; exact h
 | .tup ds, v, h => by
  unfold Rep at h ⊢
  obtain ⟨a, vs, e, q, r⟩:=h
  exact ⟨a, vs, e, k.tup _ _ q, Reps.mono k ds vs r⟩
 | .lst ds, v, h => by
  unfold Rep at h ⊢
  obtain ⟨a, vs, e, n, q, r⟩:=h
  exact ⟨a, vs, e, (k.lst _ _ n q).1, (k.lst _ _ n q).2, Reps.mono k ds vs r⟩
 | .scr ds, v, h => by
  unfold Rep at h ⊢
  obtain ⟨a, vs, e, q, r⟩:=h
  exact ⟨a, vs, e, k.frz _ _ q, Reps.mono k ds vs r⟩
 | .res i, v, h => by
  unfold Rep at h ⊢
  obtain ⟨a, e, q⟩:=h
  exact ⟨a, e, k.pre _ _ q⟩
 | .exv C, v, h => by
  unfold Rep at h ⊢
  obtain ⟨a, e, q⟩:=h
  exact ⟨a, e, k.exv _ _ q⟩
theorem Reps.mono (k : Keep K O H O' H') : ∀ (ds : List D) (vs : List V), Reps K O H ds vs → Reps K O' H' ds vs
 | [], _, h => by unfold Reps at h ⊢; exact h
 | d :: ds, vs, h => by
  unfold Reps at h ⊢
  obtain ⟨v, r, e, q, t⟩:=h
  exact ⟨v, r, e, Rep.mono k d v q, Reps.mono k ds r t⟩
end
theorem Kvs.mono {κ : Type} {f : D → Option κ} (k : Keep K O H O' H') : ∀ (ds : List (D × D)) (vs : List (κ × V)), Kvs K f O H ds vs → Kvs K f O' H' ds vs
 | [], _, h => by unfold Kvs at h ⊢; exact h
 | (x, d) :: ds, vs, h => by
  unfold Kvs at h ⊢
  obtain ⟨q, v, r, e, z, y, t⟩:=h
  exact ⟨q, v, r, e, z, Rep.mono k d v y, Kvs.mono k ds r t⟩
theorem Flds.mono (k : Keep K O H O' H') : ∀ (ds : List (Str × D)) (vs : List (Str × V)), Flds K O H ds vs → Flds K O' H' ds vs
 | [], _, h => by unfold Flds at h ⊢; exact h
 | (x, d) :: ds, vs, h => by
  unfold Flds at h ⊢
  obtain ⟨v, r, e, q, t⟩:=h
  exact ⟨v, r, e, Rep.mono k d v q, Flds.mono k ds r t⟩
theorem Rep.non_i {v : V} : Rep K O H .non v ↔ v = .non:=by unfold Rep; exact Iff.rfl
theorem Rep.bl_i {b : Bool} {v : V} : Rep K O H (.bl b) v ↔ v = .bl b:=by unfold Rep; exact Iff.rfl
theorem Rep.int_i {i : Int} {v : V} : Rep K O H (.int i) v ↔ v = .int i:=by unfold Rep; exact Iff.rfl
theorem Rep.str_i {x : Str} {v : V} : Rep K O H (.str x) v ↔ v = .str x:=by unfold Rep; exact Iff.rfl
theorem Rep.tup_i {ds : List D} {v : V} : Rep K O H (.tup ds) v ↔ ∃ a vs, v = .ref a ∧ H a = some (.tup vs) ∧ Reps K O H ds vs:=by unfold Rep; exact Iff.rfl
theorem Rep.lst_i {ds : List D} {v : V} : Rep K O H (.lst ds) v ↔ ∃ a vs, v = .ref a ∧ a ∉ O ∧ H a = some (.lst vs) ∧ Reps K O H ds vs:=by unfold Rep; exact Iff.rfl
theorem Rep.scr_i {ds : List D} {v : V} : Rep K O H (.scr ds) v ↔ ∃ a vs, v = .ref a ∧ SqF K H a vs ∧ Reps K O H ds vs:=by unfold Rep; exact Iff.rfl
theorem Rep.res_i {i : Nat} {v : V} : Rep K O H (.res i) v ↔ ∃ a, v = .ref a ∧ O[i]? = some a:=by unfold Rep; exact Iff.rfl
theorem Rep.exv_i {C : Addr} {v : V} : Rep K O H (.exv C) v ↔ ∃ a, v = .ref a ∧ H a = some (.ext (ExcO a C)):=by unfold Rep; exact Iff.rfl
theorem Reps.nil_i {vs : List V} : Reps K O H [] vs ↔ vs = []:=by unfold Reps; exact Iff.rfl
theorem Reps.cons_i {d : D} {ds : List D} {vs : List V} : Reps K O H (d :: ds) vs ↔ ∃ v r, vs = v :: r ∧ Rep K O H d v ∧ Reps K O H ds r:=by
 constructor
 ·intro h; unfold Reps at h; exact h
 ·intro h; unfold Reps; exact h
theorem Reps.length : ∀ {ds : List D} {vs : List V}, Reps K O H ds vs → ds.length = vs.length
 | [], _, h => by rw [Reps.nil_i] at h; subst h; rfl
 | d :: ds, vs, h => by
  obtain ⟨v, r, rfl, _, t⟩:=Reps.cons_i.mp h
  rw [List.length_cons, List.length_cons, Reps.length t]
theorem Reps.get : ∀ {ds : List D} {vs : List V} {i : Nat} {d : D}, Reps K O H ds vs → ds[i]? = some d → ∃ v, vs[i]? = some v ∧ Rep K O H d v
 | [], _, i, d, _, e => by simp at e
 | x :: ds, vs, 0, d, h, e => by
  obtain ⟨v, r, rfl, q, _⟩:=Reps.cons_i.mp h
  simp at e; subst e
  exact ⟨v, rfl, q⟩
 | x :: ds, vs, i + 1, d, h, e => by
  obtain ⟨v, r, rfl, _, t⟩:=Reps.cons_i.mp h
  obtain ⟨u, e1, q⟩:=Reps.get (i:=i) (d:=d) t (by simpa using e)
  exact ⟨u, by simpa using e1, q⟩
theorem Reps.append : ∀ {ds es : List D} {vs us : List V}, Reps K O H ds vs → Reps K O H es us → Reps K O H (ds ++ es) (vs ++ us)
 | [], _, _, _, h, k => by rw [Reps.nil_i] at h; subst h; exact k
 | d :: ds, es, vs, us, h, k => by
  obtain ⟨v, r, rfl, q, t⟩:=Reps.cons_i.mp h
  exact Reps.cons_i.mpr ⟨v, r ++ us, rfl, q, Reps.append t k⟩
theorem Reps.take : ∀ {ds : List D} {vs : List V} (n : Nat), Reps K O H ds vs → Reps K O H (ds.take n) (vs.take n)
 | ds, vs, 0, _ => by rw [List.take_zero, List.take_zero]; exact Reps.nil_i.mpr rfl
 | [], vs, n + 1, h => by rw [Reps.nil_i] at h; subst h; exact Reps.nil_i.mpr rfl
 | d :: ds, vs, n + 1, h => by
  obtain ⟨v, r, rfl, q, t⟩:=Reps.cons_i.mp h
  exact Reps.cons_i.mpr ⟨v, r.take n, rfl, q, Reps.take n t⟩
theorem Reps.drop : ∀ {ds : List D} {vs : List V} (n : Nat), Reps K O H ds vs → Reps K O H (ds.drop n) (vs.drop n)
 | ds, vs, 0, h => by rw [List.drop_zero, List.drop_zero]; exact h
 | [], vs, n + 1, h => by rw [Reps.nil_i] at h; subst h; exact Reps.nil_i.mpr rfl
 | d :: ds, vs, n + 1, h => by
  obtain ⟨v, r, rfl, q, t⟩:=Reps.cons_i.mp h
  exact Reps.drop n t
theorem Reps.set {d : D} {v : V} (q : Rep K O H d v) : ∀ {ds : List D} {vs : List V} (n : Nat), Reps K O H ds vs → Reps K O H (ds.set n d) (vs.set n v)
 | [], vs, n, h => by rw [Reps.nil_i] at h; subst h; exact Reps.nil_i.mpr rfl
 | x :: ds, vs, 0, h => by
  obtain ⟨u, r, rfl, _, t⟩:=Reps.cons_i.mp h
  exact Reps.cons_i.mpr ⟨v, r, rfl, q, t⟩
 | x :: ds, vs, n + 1, h => by
  obtain ⟨u, r, rfl, q', t⟩:=Reps.cons_i.mp h
  exact Reps.cons_i.mpr ⟨u, r.set n v, rfl, q', Reps.set q n t⟩
theorem Reps.one {d : D} {v : V} (q : Rep K O H d v) : Reps K O H [d] [v]:=Reps.cons_i.mpr ⟨v, [], rfl, q, Reps.nil_i.mpr rfl⟩
theorem Reps.rep {ds : List D} {vs : List V} (h : Reps K O H ds vs) : ∀ k : Nat, Reps K O H (List.replicate k ds).flatten (List.replicate k vs).flatten
 | 0 => by simp only [List.replicate_zero, List.flatten_nil]; exact Reps.nil_i.mpr rfl
 | k + 1 => by simp only [List.replicate_succ, List.flatten_cons]; exact Reps.append h (Reps.rep h k)
noncomputable def isS : HO → Bool
 | .lst _ => true
 | .ins _ _ _ => true
 | .dK _ => true
 | .dT _ => true
 | .frz _ (.dK _) => true
 | _ => false
theorem tup_upd {a p : Addr} {o : HO} {vs : List V} (h : H a = some (.tup vs)) (hp : H p = none ∨ ∃ o, H p = some o ∧ isS o = true) : upd H p o a = some (.tup vs):=by
 rw [upd_ne]
 ·exact h
 ·rintro rfl
  rcases hp with q | ⟨u, q, z⟩
  ·rw [q] at h; cases h
  ·rw [q] at h; cases h; cases z
theorem sqF_upd {a p : Addr} {o : HO} {vs : List V} (h : SqF K H a vs) (hp : H p = none ∨ ∃ o, H p = some o ∧ isS o = true) : SqF K (upd H p o) a vs:=by
 rcases h with ⟨ob, h⟩ | h
 ·refine .inl ⟨ob, ?_⟩
  rw [upd_ne]
  ·exact h
  ·rintro rfl
   rcases hp with q | ⟨u, q, z⟩
   ·rw [q] at h; cases h
   ·rw [q] at h; cases h; cases z
 ·exact .inr h
theorem Keep.laid {p : Addr} {o : HO} (hp : H p = none) : Keep K O H O (upd H p o) :=
 ⟨fun _ _ h => tup_upd h (.inl hp), fun a vs n h => ⟨n, by rw [upd_ne (ne_of_none h hp)]; exact h⟩, fun _ _ h => sqF_upd h (.inl hp), fun _ _ h => h, fun a C h => by rw [upd_ne (ne_of_none h hp)]; exact h⟩
theorem RepS.mono' (k : Keep K O H O' H') {a : Addr} (e : H' a = H a) : ∀ {s : S}, RepS K O H a s → RepS K O' H' a s
 | .lst ds, h => by
  obtain ⟨vs, q, r⟩:=h
  exact ⟨vs, by rw [e]; exact q, Reps.mono k _ _ r⟩
 | .ins C fs, h => by
  obtain ⟨dx, vs, q, r⟩:=h
  exact ⟨dx, vs, by rw [e]; exact q, Flds.mono k _ _ r⟩
 | .dct ds, h => by
  obtain ⟨vs, q, r⟩:=h
  exact ⟨vs, by rw [e]; exact q, Kvs.mono k _ _ r⟩
 | .dtt ds, h => by
  obtain ⟨vs, q, r⟩:=h
  exact ⟨vs, by rw [e]; exact q, Kvs.mono k _ _ r⟩
 | .fdc ds, h => by
  obtain ⟨o, vs, q, r⟩:=h
  exact ⟨o, vs, by rw [e]; exact q, Kvs.mono k _ _ r⟩
theorem RepS.some_of {a : Addr} : ∀ {s : S}, RepS K O H a s → ∃ o, H a = some o ∧ isS o = true
 | .lst ds, ⟨vs, q, _⟩ => ⟨_, q, rfl⟩
 | .ins C fs, ⟨dx, vs, q, _⟩ => ⟨_, q, rfl⟩
 | .dct ds, ⟨vs, q, _⟩ => ⟨_, q, rfl⟩
 | .dtt ds, ⟨vs, q, _⟩ => ⟨_, q, rfl⟩
 | .fdc ds, ⟨_, vs, q, _⟩ => ⟨_, q, rfl⟩
theorem WR.some_of (W : WR K O H st) {i : Nat} {a : Addr} (h : O[i]? = some a) : ∃ o, H a = some o ∧ isS o = true:=by
 have hi : i < st.length:=by rw [← W.len]; exact (List.getElem?_eq_some_iff.mp h).1
 exact (W.at_ i a st[i] h (List.getElem?_eq_getElem hi)).some_of
theorem WR.ne (W : WR K O H st) {i : Nat} {a p : Addr} (h : O[i]? = some a) (hp : H p = none) : a ≠ p:=by
 rintro rfl
 obtain ⟨_, q, _⟩:=W.some_of h
 rw [hp] at q
 cases q
theorem WR.laid (W : WR K O H st) {p : Addr} {o : HO} (hp : H p = none) : WR K O (upd H p o) st :=
 ⟨W.len, W.nd, fun i a s h1 h2 => (W.at_ i a s h1 h2).mono' (Keep.laid hp) (by rw [upd_ne (W.ne h1 hp)])⟩
theorem Keep.push {p : Addr} {o : HO} (hp : H p = none) : Keep K O H (O ++ [p]) (upd H p o) :=
 ⟨fun _ _ h => tup_upd h (.inl hp), fun a vs n h => ⟨fun hm => by
   rcases List.mem_append.mp hm with q | q
   ·exact n q
   ·rw [List.mem_singleton] at q; exact ne_of_none h hp q, by rw [upd_ne (ne_of_none h hp)]; exact h⟩,
  fun _ _ h => sqF_upd h (.inl hp), fun i a h => by rw [List.getElem?_append_left (List.getElem?_eq_some_iff.mp h).1]; exact h, fun a C h => by rw [upd_ne (ne_of_none h hp)]; exact h⟩
theorem WR.push' (W : WR K O H st) {p : Addr} {o : HO} {s : S} (hp : H p = none) (hs : RepS K (O ++ [p]) (upd H p o) p s) : WR K (O ++ [p]) (upd H p o) (st ++ [s]):=by
 refine ⟨by simp [W.len], ?_, fun i a s' h1 h2 => ?_⟩
 ·refine List.nodup_append.mpr ⟨W.nd, by simp, fun a ha b hb => ?_⟩
  rw [List.mem_singleton] at hb
  subst hb
  obtain ⟨i, hi⟩:=List.mem_iff_getElem?.mp ha
  exact W.ne hi hp
 ·by_cases hi : i < O.length
  ·rw [List.getElem?_append_left hi] at h1
   rw [List.getElem?_append_left (by rw [← W.len]; exact hi)] at h2
   exact (W.at_ i a s' h1 h2).mono' (Keep.push hp) (by rw [upd_ne (W.ne h1 hp)])
  ·rw [List.getElem?_append_right (by omega)] at h1
   rw [List.getElem?_append_right (by rw [← W.len]; omega)] at h2
   rw [← W.len] at h2
   have e0 : i - O.length = 0:=by
    have:=(List.getElem?_eq_some_iff.mp h1).1
    simp at this
    omega
   rw [e0] at h1 h2
   simp at h1 h2
   subst h1 h2
   exact hs
theorem WR.push (W : WR K O H st) {p : Addr} {ds : List D} {vs : List V} (hp : H p = none) (r : Reps K O H ds vs) : WR K (O ++ [p]) (upd H p (.lst vs)) (st ++ [.lst ds]) :=
 W.push' hp ⟨vs, upd_same, Reps.mono (Keep.push hp) _ _ r⟩
theorem rep_last {p : Addr} {st : Sto} (e : O.length = st.length) : Rep K (O ++ [p]) H' (.res st.length) (.ref p):=by
 rw [Rep.res_i]
 exact ⟨p, rfl, by rw [← e, List.getElem?_append_right (Nat.le_refl _)]; simp⟩
theorem Keep.write (W : WR K O H st) {i : Nat} {a : Addr} {o : HO} (h : O[i]? = some a) : Keep K O H O (upd H a o):=by
 have q:=W.some_of h
 refine ⟨fun _ _ z => tup_upd z (.inr q), fun b vs n z => ⟨n, ?_⟩, fun _ _ z => sqF_upd z (.inr q), fun _ _ z => z, fun b C z => ?_⟩
 ·rw [upd_ne]
  ·exact z
  ·rintro rfl
   exact n (List.mem_of_getElem? h)
 ·rw [upd_ne]
  ·exact z
  ·rintro rfl
   obtain ⟨_, q, y⟩:=q
   rw [z] at q
   cases q
   cases y
theorem WR.write (W : WR K O H st) {i : Nat} {a : Addr} {o : HO} {s : S} (h : O[i]? = some a) (hs : RepS K O (upd H a o) a s) : WR K O (upd H a o) (st.set i s):=by
 refine ⟨by rw [List.length_set]; exact W.len, W.nd, fun j b s' h1 h2 => ?_⟩
 by_cases hj : i = j
 ·subst hj
  rw [h] at h1
  cases h1
  have hi : i < st.length:=by rw [← W.len]; exact (List.getElem?_eq_some_iff.mp h).1
  rw [List.getElem?_set_self hi] at h2
  cases h2
  exact hs
 ·rw [List.getElem?_set_ne hj] at h2
  refine (W.at_ j b s' h1 h2).mono' (Keep.write W h) ?_
  rw [upd_ne]
  rintro rfl
  exact hj (nodup_at W.nd h h1)
theorem WR.writeL (W : WR K O H st) {i : Nat} {a : Addr} {ds : List D} {vs : List V} (h : O[i]? = some a) (r : Reps K O H ds vs) : WR K O (upd H a (.lst vs)) (st.set i (.lst ds)) :=
 W.write h ⟨vs, upd_same, Reps.mono (Keep.write W h) _ _ r⟩
noncomputable def seqL (st : Sto) : D → Option (List D)
 | .lst xs => some xs
 | .scr xs => some xs
 | .res i => match st[i]? with
  | some (.lst xs) => some xs
  | _ => none
 | _ => none
noncomputable def ownL (st : Sto) : D → Option (List D)
 | .lst xs => some xs
 | .res i => match st[i]? with
  | some (.lst xs) => some xs
  | _ => none
 | _ => none
theorem rdO (W : WR K O H st) {d : D} {v : V} {ds : List D} (r : Rep K O H d v) (e : ownL st d = some ds) : ∃ a vs, v = .ref a ∧ H a = some (.lst vs) ∧ Reps K O H ds vs:=by
 cases d with
 | lst xs =>
  rw [Rep.lst_i] at r
  obtain ⟨a, vs, rfl, _, q, t⟩:=r
  simp only [ownL, Option.some.injEq] at e
  subst e
  exact ⟨a, vs, rfl, q, t⟩
 | res i =>
  rw [Rep.res_i] at r
  obtain ⟨a, rfl, q⟩:=r
  have hi : i < st.length:=by rw [← W.len]; exact (List.getElem?_eq_some_iff.mp q).1
  have z:=W.at_ i a st[i] q (List.getElem?_eq_getElem hi)
  simp only [ownL, List.getElem?_eq_getElem hi] at e
  cases hs : st[i] with
  | lst xs =>
   rw [hs] at e z
   simp only [Option.some.injEq] at e
   subst e
   obtain ⟨vs, z1, z2⟩:=z
   exact ⟨a, vs, rfl, z1, z2⟩
  | _ => rw [hs] at e; cases e
 | _ => cases e
theorem rdL (W : WR K O H st) {d : D} {v : V} {ds : List D} (r : Rep K O H d v) (e : seqL st d = some ds) : ∃ a vs, v = .ref a ∧ SqL K H a vs ∧ Reps K O H ds vs:=by
 cases d with
 | scr xs =>
  rw [Rep.scr_i] at r
  obtain ⟨a, vs, rfl, q, t⟩:=r
  simp only [seqL, Option.some.injEq] at e
  subst e
  exact ⟨a, vs, rfl, q.sq, t⟩
 | lst xs =>
  obtain ⟨a, vs, h1, h2, h3⟩:=rdO W r (show ownL st (.lst xs) = some ds from e)
  exact ⟨a, vs, h1, SqL.of h2, h3⟩
 | res i =>
  obtain ⟨a, vs, h1, h2, h3⟩:=rdO W r (show ownL st (.res i) = some ds from e)
  exact ⟨a, vs, h1, SqL.of h2, h3⟩
 | _ => cases e
section
variable {X : Cx} {pins : List (Addr × Obj)} {σ : L2.St} {s : Shared}
theorem K_none (I : Inv X pins σ H s) {a : Addr} {o : Obj} (h : X.K.lookup a = some o) : H a = none:=(I.bs a o (I.ok.mod.kin a o h)).2
end
end
end DL
end
section
namespace DL
open PySem PySem.Spec PyProof.Rows L2
noncomputable def Ans (A : Around) (s : Shared) (u w : Value) (k : Bool) : Prop:=SeqAt.EqAt A s u w k ∧ SeqAt.RcAt A s u w k ∧ SeqAt.RcNeAt A s u w (!k)
section
variable {A : Around} {s : Shared}
theorem eqc_non_non : Ans A s .none .none true:=⟨SeqAt.EqAt.same _, SeqAt.RcAt.none_none, SeqAt.RcNeAt.none_none⟩
theorem eqc_non_bl {b2 : Bool} : Ans A s .none (.bool b2) false:=⟨SeqAt.EqAt.none_bool _, SeqAt.RcAt.none_bool _, SeqAt.RcNeAt.none_bool _⟩
theorem eqc_non_int {i2 : Int} {t2 : Tok} : Ans A s .none (.int i2 t2) false:=⟨SeqAt.EqAt.none_int _ _, SeqAt.RcAt.none_int _ _, SeqAt.RcNeAt.none_int _ _⟩
theorem eqc_non_str {x2 : Str} {t2 : Tok} : Ans A s .none (.str x2 t2) false:=⟨SeqAt.EqAt.none_str _ _, SeqAt.RcAt.none_str _ _, SeqAt.RcNeAt.none_str _ _⟩
theorem eqc_non_tup {a2 : Addr} {its2 : Array Value} (z2 : s.heap.IsTuple a2 its2) (hu : A.units < cLine) : Ans A s .none (.ref a2) false:=⟨SeqAt.EqAt.none_tuple z2 hu, SeqAt.RcAt.none_tuple z2 hu, SeqAt.RcNeAt.none_tuple z2 hu⟩
theorem eqc_non_lst {a2 : Addr} {its2 : Array Value} (z2 : s.heap.IsList a2 its2) (hu : A.units < cLine) : Ans A s .none (.ref a2) false:=⟨SeqAt.EqAt.none_list z2 hu, SeqAt.RcAt.none_list z2 hu, SeqAt.RcNeAt.none_list z2 hu⟩
theorem eqc_bl_non {b1 : Bool} : Ans A s (.bool b1) .none false:=⟨SeqAt.EqAt.bool_none _, SeqAt.RcAt.bool_none _, SeqAt.RcNeAt.bool_none _⟩
theorem eqc_bl_bl {b1 : Bool} {b2 : Bool} : Ans A s (.bool b1) (.bool b2) (b1 == b2):=⟨SeqAt.EqAt.bool_bool _ _, SeqAt.RcAt.bool_bool _ _, SeqAt.RcNeAt.bool_bool _ _⟩
theorem eqc_bl_int {b1 : Bool} {i2 : Int} {t2 : Tok} : Ans A s (.bool b1) (.int i2 t2) ((if b1 then 1 else 0) == i2):=⟨SeqAt.EqAt.bool_int _ _ _, SeqAt.RcAt.bool_int _ _ _, SeqAt.RcNeAt.bool_int _ _ _⟩
theorem eqc_bl_str {b1 : Bool} {x2 : Str} {t2 : Tok} : Ans A s (.bool b1) (.str x2 t2) false:=⟨SeqAt.EqAt.bool_str _ _ _, SeqAt.RcAt.bool_str _ _ _, SeqAt.RcNeAt.bool_str _ _ _⟩
theorem eqc_bl_tup {b1 : Bool} {a2 : Addr} {its2 : Array Value} (z2 : s.heap.IsTuple a2 its2) (hu : A.units < cLine) : Ans A s (.bool b1) (.ref a2) false:=⟨SeqAt.EqAt.bool_tuple _ z2 hu, SeqAt.RcAt.bool_tuple _ z2 hu, SeqAt.RcNeAt.bool_tuple _ z2 hu⟩
theorem eqc_bl_lst {b1 : Bool} {a2 : Addr} {its2 : Array Value} (z2 : s.heap.IsList a2 its2) (hu : A.units < cLine) : Ans A s (.bool b1) (.ref a2) false:=⟨SeqAt.EqAt.bool_list _ z2 hu, SeqAt.RcAt.bool_list _ z2 hu, SeqAt.RcNeAt.bool_list _ z2 hu⟩
theorem eqc_int_non {i1 : Int} {t1 : Tok} : Ans A s (.int i1 t1) .none false:=⟨SeqAt.EqAt.int_none _ _, SeqAt.RcAt.int_none _ _, SeqAt.RcNeAt.int_none _ _⟩
theorem eqc_int_bl {i1 : Int} {t1 : Tok} {b2 : Bool} : Ans A s (.int i1 t1) (.bool b2) (i1 == (if b2 then 1 else 0)):=⟨SeqAt.EqAt.int_bool _ _ _, SeqAt.RcAt.int_bool _ _ _, SeqAt.RcNeAt.int_bool _ _ _⟩
theorem eqc_int_int {i1 : Int} {t1 : Tok} {i2 : Int} {t2 : Tok} : Ans A s (.int i1 t1) (.int i2 t2) (i1 == i2):=⟨SeqAt.EqAt.int_int _ _ _ _, SeqAt.RcAt.int_int _ _ _ _, SeqAt.RcNeAt.int_int _ _ _ _⟩
theorem eqc_int_str {i1 : Int} {t1 : Tok} {x2 : Str} {t2 : Tok} : Ans A s (.int i1 t1) (.str x2 t2) false:=⟨SeqAt.EqAt.int_str _ _ _ _, SeqAt.RcAt.int_str _ _ _ _, SeqAt.RcNeAt.int_str _ _ _ _⟩
theorem eqc_int_tup {i1 : Int} {t1 : Tok} {a2 : Addr} {its2 : Array Value} (z2 : s.heap.IsTuple a2 its2) (hu : A.units < cLine) : Ans A s (.int i1 t1) (.ref a2) false:=⟨SeqAt.EqAt.int_tuple _ _ z2 hu, SeqAt.RcAt.int_tuple _ _ z2 hu, SeqAt.RcNeAt.int_tuple _ _ z2 hu⟩
theorem eqc_int_lst {i1 : Int} {t1 : Tok} {a2 : Addr} {its2 : Array Value} (z2 : s.heap.IsList a2 its2) (hu : A.units < cLine) : Ans A s (.int i1 t1) (.ref a2) false:=⟨SeqAt.EqAt.int_list _ _ z2 hu, SeqAt.RcAt.int_list _ _ z2 hu, SeqAt.RcNeAt.int_list _ _ z2 hu⟩
theorem eqc_str_non {x1 : Str} {t1 : Tok} : Ans A s (.str x1 t1) .none false:=⟨SeqAt.EqAt.str_none _ _, SeqAt.RcAt.str_none _ _, SeqAt.RcNeAt.str_none _ _⟩
theorem eqc_str_bl {x1 : Str} {t1 : Tok} {b2 : Bool} : Ans A s (.str x1 t1) (.bool b2) false:=⟨SeqAt.EqAt.str_bool _ _ _, SeqAt.RcAt.str_bool _ _ _, SeqAt.RcNeAt.str_bool _ _ _⟩
theorem eqc_str_int {x1 : Str} {t1 : Tok} {i2 : Int} {t2 : Tok} : Ans A s (.str x1 t1) (.int i2 t2) false:=⟨SeqAt.EqAt.str_int _ _ _ _, SeqAt.RcAt.str_int _ _ _ _, SeqAt.RcNeAt.str_int _ _ _ _⟩
theorem eqc_str_str {x1 : Str} {t1 : Tok} {x2 : Str} {t2 : Tok} : Ans A s (.str x1 t1) (.str x2 t2) (x1 == x2):=⟨SeqAt.EqAt.str_str _ _ _ _, SeqAt.RcAt.str_str _ _ _ _, SeqAt.RcNeAt.str_str _ _ _ _⟩
theorem eqc_str_tup {x1 : Str} {t1 : Tok} {a2 : Addr} {its2 : Array Value} (z2 : s.heap.IsTuple a2 its2) (hu : A.units < cLine) : Ans A s (.str x1 t1) (.ref a2) false:=⟨SeqAt.EqAt.str_tuple _ _ z2 hu, SeqAt.RcAt.str_tuple _ _ z2 hu, SeqAt.RcNeAt.str_tuple _ _ z2 hu⟩
theorem eqc_str_lst {x1 : Str} {t1 : Tok} {a2 : Addr} {its2 : Array Value} (z2 : s.heap.IsList a2 its2) (hu : A.units < cLine) : Ans A s (.str x1 t1) (.ref a2) false:=⟨SeqAt.EqAt.str_list _ _ z2 hu, SeqAt.RcAt.str_list _ _ z2 hu, SeqAt.RcNeAt.str_list _ _ z2 hu⟩
theorem eqc_tup_non {a1 : Addr} {its1 : Array Value} (z1 : s.heap.IsTuple a1 its1) (hu : A.units < cLine) : Ans A s (.ref a1) .none false:=⟨SeqAt.EqAt.tuple_none z1 hu, SeqAt.RcAt.tuple_none z1 hu, SeqAt.RcNeAt.tuple_none z1 hu⟩
theorem eqc_tup_bl {a1 : Addr} {its1 : Array Value} (z1 : s.heap.IsTuple a1 its1) {b2 : Bool} (hu : A.units < cLine) : Ans A s (.ref a1) (.bool b2) false:=⟨SeqAt.EqAt.tuple_bool _ z1 hu, SeqAt.RcAt.tuple_bool _ z1 hu, SeqAt.RcNeAt.tuple_bool _ z1 hu⟩
theorem eqc_tup_int {a1 : Addr} {its1 : Array Value} (z1 : s.heap.IsTuple a1 its1) {i2 : Int} {t2 : Tok} (hu : A.units < cLine) : Ans A s (.ref a1) (.int i2 t2) false:=⟨SeqAt.EqAt.tuple_int _ _ z1 hu, SeqAt.RcAt.tuple_int _ _ z1 hu, SeqAt.RcNeAt.tuple_int _ _ z1 hu⟩
theorem eqc_tup_str {a1 : Addr} {its1 : Array Value} (z1 : s.heap.IsTuple a1 its1) {x2 : Str} {t2 : Tok} (hu : A.units < cLine) : Ans A s (.ref a1) (.str x2 t2) false:=⟨SeqAt.EqAt.tuple_str _ _ z1 hu, SeqAt.RcAt.tuple_str _ _ z1 hu, SeqAt.RcNeAt.tuple_str _ _ z1 hu⟩
theorem eqc_tup_lst {a1 : Addr} {its1 : Array Value} (z1 : s.heap.IsTuple a1 its1) {a2 : Addr} {its2 : Array Value} (z2 : s.heap.IsList a2 its2) (hu : A.units < cLine) : Ans A s (.ref a1) (.ref a2) false:=⟨SeqAt.EqAt.tuple_list z1 z2 hu, SeqAt.RcAt.tuple_list z1 z2 hu, SeqAt.RcNeAt.tuple_list z1 z2 hu⟩
theorem eqc_lst_non {a1 : Addr} {its1 : Array Value} (z1 : s.heap.IsList a1 its1) (hu : A.units < cLine) : Ans A s (.ref a1) .none false:=⟨SeqAt.EqAt.list_none z1 hu, SeqAt.RcAt.list_none z1 hu, SeqAt.RcNeAt.list_none z1 hu⟩
theorem eqc_lst_bl {a1 : Addr} {its1 : Array Value} (z1 : s.heap.IsList a1 its1) {b2 : Bool} (hu : A.units < cLine) : Ans A s (.ref a1) (.bool b2) false:=⟨SeqAt.EqAt.list_bool _ z1 hu, SeqAt.RcAt.list_bool _ z1 hu, SeqAt.RcNeAt.list_bool _ z1 hu⟩
theorem eqc_lst_int {a1 : Addr} {its1 : Array Value} (z1 : s.heap.IsList a1 its1) {i2 : Int} {t2 : Tok} (hu : A.units < cLine) : Ans A s (.ref a1) (.int i2 t2) false:=⟨SeqAt.EqAt.list_int _ _ z1 hu, SeqAt.RcAt.list_int _ _ z1 hu, SeqAt.RcNeAt.list_int _ _ z1 hu⟩
theorem eqc_lst_str {a1 : Addr} {its1 : Array Value} (z1 : s.heap.IsList a1 its1) {x2 : Str} {t2 : Tok} (hu : A.units < cLine) : Ans A s (.ref a1) (.str x2 t2) false:=⟨SeqAt.EqAt.list_str _ _ z1 hu, SeqAt.RcAt.list_str _ _ z1 hu, SeqAt.RcNeAt.list_str _ _ z1 hu⟩
theorem eqc_lst_tup {a1 : Addr} {its1 : Array Value} (z1 : s.heap.IsList a1 its1) {a2 : Addr} {its2 : Array Value} (z2 : s.heap.IsTuple a2 its2) (hu : A.units < cLine) : Ans A s (.ref a1) (.ref a2) false:=⟨SeqAt.EqAt.list_tuple z1 z2 hu, SeqAt.RcAt.list_tuple z1 z2 hu, SeqAt.RcNeAt.list_tuple z1 z2 hu⟩
end
inductive Kd where
 | non | bl (b : Bool) | int (i : Int) | str (x : Str) | tup (xs : List D) | lst (xs : List D) | no
noncomputable def kd (st : Sto) : D → Kd
 | .non => .non
 | .bl b => .bl b
 | .int i => .int i
 | .str x => .str x
 | .tup xs => .tup xs
 | .lst xs => .lst xs
 | .scr xs => .lst xs
 | .res i => match st[i]? with
  | some (.lst xs) => .lst xs
  | _ => .no
 | .exv _ => .no
noncomputable def eqItems (f : D → D → Option Bool) : List D → List D → Option Bool
 | [], [] => some true
 | [], _ :: _ => some false
 | _ :: _, [] => some false
 | x :: xs, y :: ys => match f x y, eqItems f xs ys with
  | some a, some b => some (a && b)
  | _, _ => none
noncomputable def eqN (st : Sto) : Nat → D → D → Option Bool
 | 0, _, _ => none
 | n + 1, a, b => match kd st a, kd st b with
  | .tup xs, .tup ys => eqItems (eqN st n) xs ys
  | .lst xs, .lst ys => eqItems (eqN st n) xs ys
  | .non, .non => some true
  | .bl x, .bl y => some (x == y)
  | .int x, .int y => some (x == y)
  | .str x, .str y => some (x == y)
  | .bl x, .int y => some ((if x then 1 else 0) == y)
  | .int x, .bl y => some (x == (if y then 1 else 0))
  | .no, _ => none
  | _, .no => none
  | _, _ => some false
section
variable {X : Cx} {pins : List (Addr × Obj)} {σ : L2.St} {s : Shared} {O : List Addr} {H : Hp} {st : Sto}
theorem sqT_lst (I : Inv X pins σ H s) {a : Addr} {vs xs : List V} (h : SqT X.K H a vs) (q : H a = some (.lst xs)) : False:=by
 rcases h with (h | ⟨ob, h⟩) | ⟨o, _, _, h, _⟩
 ·rw [h] at q; cases q
 ·rw [h] at q; cases q
 ·rw [K_none I h] at q; cases q
theorem sqF_lst (I : Inv X pins σ H s) {a : Addr} {vs xs : List V} (h : SqF X.K H a vs) (q : H a = some (.lst xs)) : False:=by
 rcases h with ⟨ob, h⟩ | ⟨o, _, _, h, _⟩
 ·rw [h] at q; cases q
 ·rw [K_none I h] at q; cases q
theorem sqT_sqF (I : Inv X pins σ H s) {a : Addr} {vs xs : List V} (h : SqT X.K H a vs) (q : SqF X.K H a xs) : False:=by
 rcases h with (h | ⟨ob, h⟩) | ⟨o, _, _, h, c, _⟩ <;> rcases q with ⟨ob', q⟩ | ⟨o', _, _, q, c', _⟩
 ·rw [h] at q; cases q
 ·rw [K_none I q] at h; cases h
 ·rw [h] at q; cases q
 ·rw [K_none I q] at h; cases h
 ·rw [K_none I h] at q; cases q
 ·rw [h] at q; cases q; rw [c] at c'; exact absurd (Value.type.inj c') (by decide)
theorem sqT_S (I : Inv X pins σ H s) {a : Addr} {vs : List V} {o : HO} (h : SqT X.K H a vs) (q : H a = some o) (z : isS o = true) : False:=by
 rcases h with (h | ⟨ob, h⟩) | ⟨_, _, _, h, _⟩
 ·rw [h] at q; cases q; cases z
 ·rw [h] at q; cases q; cases z
 ·rw [K_none I h] at q; cases q
theorem sqF_S (I : Inv X pins σ H s) {a : Addr} {vs : List V} {o : HO} (h : SqF X.K H a vs) (q : H a = some o) (z : isS o = true) : False:=by
 rcases h with ⟨ob, h⟩ | ⟨_, _, _, h, _⟩
 ·rw [h] at q; cases q; cases z
 ·rw [K_none I h] at q; cases q
theorem sqT_ext (I : Inv X pins σ H s) {a : Addr} {vs : List V} {φ : Heap → Prop} (h : SqT X.K H a vs) (q : H a = some (.ext φ)) : False:=by
 rcases h with (h | ⟨ob, h⟩) | ⟨_, _, _, h, _⟩
 ·rw [h] at q; cases q
 ·rw [h] at q; cases q
 ·rw [K_none I h] at q; cases q
theorem sqF_ext (I : Inv X pins σ H s) {a : Addr} {vs : List V} {φ : Heap → Prop} (h : SqF X.K H a vs) (q : H a = some (.ext φ)) : False:=by
 rcases h with ⟨ob, h⟩ | ⟨_, _, _, h, _⟩
 ·rw [h] at q; cases q
 ·rw [K_none I h] at q; cases q
theorem res_T (I : Inv X pins σ H s) (W : WR X.K O H st) {i : Nat} {a : Addr} {vs : List V} (h : O[i]? = some a) (q : SqT X.K H a vs) : False:=by
 obtain ⟨o, z, y⟩:=W.some_of h
 exact sqT_S I q z y
theorem res_F (I : Inv X pins σ H s) (W : WR X.K O H st) {i : Nat} {a : Addr} {vs : List V} (h : O[i]? = some a) (q : SqF X.K H a vs) : False:=by
 obtain ⟨o, z, y⟩:=W.some_of h
 exact sqF_S I q z y
theorem res_ext (W : WR X.K O H st) {i : Nat} {a : Addr} {φ : Heap → Prop} (h : O[i]? = some a) (q : H a = some (.ext φ)) : False:=by
 obtain ⟨o, z, y⟩:=W.some_of h
 rw [q] at z
 cases z
 cases y
mutual
theorem Rep.inj (I : Inv X pins σ H s) (W : WR X.K O H st) : ∀ (d d' : D) (v : V), Rep X.K O H d v → Rep X.K O H d' v → d = d'
 | .non, d', v, h, h' => by
  rw [Rep.non_i] at h; subst h
  cases d' <;> unfold Rep at h' <;> first | rfl | (cases h'; done) | (obtain ⟨_, _, e, _⟩:=h'; cases e) | (obtain ⟨_, e, _⟩:=h'; cases e)
 | .bl b, d', v, h, h' => by
  rw [Rep.bl_i] at h; subst h
  cases d' <;> unfold Rep at h' <;> first | (cases h'; rfl) | (cases h'; done) | (obtain ⟨_, _, e, _⟩:=h'; cases e) | (obtain ⟨_, e, _⟩:=h'; cases e)
 | .int b, d', v, h, h' => by
  rw [Rep.int_i] at h; subst h
  cases d' <;> unfold Rep at h' <;> first | (cases h'; rfl) | (cases h'; done) | (obtain ⟨_, _, e, _⟩:=h'; cases e) | (obtain ⟨_, e, _⟩:=h'; cases e)
 | .str b, d', v, h, h' => by
  rw [Rep.str_i] at h; subst h
  cases d' <;> unfold Rep at h' <;> first | (cases h'; rfl) | (cases h'; done) | (obtain ⟨_, _, e, _⟩:=h'; cases e) | (obtain ⟨_, e, _⟩:=h'; cases e)
 | .tup ds, d', v, h, h' => by
  rw [Rep.tup_i] at h
  obtain ⟨a, vs, rfl, q, r⟩:=h
  cases d' with
  | tup ds' =>
   rw [Rep.tup_i] at h'
   obtain ⟨a', vs', e, q', r'⟩:=h'
   cases e
   have ev : vs = vs':=I.tuple_inj (SqT.of q) (SqT.of q')
   subst ev
   rw [Reps.inj I W ds ds' vs r r']
  | lst ds' => rw [Rep.lst_i] at h'; obtain ⟨a', vs', e, _, q', _⟩:=h'; cases e; exact (sqT_lst I (SqT.of q) q').elim
  | scr ds' => rw [Rep.scr_i] at h'; obtain ⟨a', vs', e, q', _⟩:=h'; cases e; exact (sqT_sqF I (SqT.of q) q').elim
  | res i => rw [Rep.res_i] at h'; obtain ⟨a', e, q'⟩:=h'; cases e; exact (res_T I W q' (SqT.of q)).elim
  | exv C => rw [Rep.exv_i] at h'; obtain ⟨a', e, q'⟩:=h'; cases e; exact (sqT_ext I (SqT.of q) q').elim
  | _ => unfold Rep at h'; cases h'
 | .lst ds, d', v, h, h' => by
  rw [Rep.lst_i] at h
  obtain ⟨a, vs, rfl, n, q, r⟩:=h
  cases d' with
  | tup ds' => rw [Rep.tup_i] at h'; obtain ⟨a', vs', e, q', _⟩:=h'; cases e; exact (sqT_lst I (SqT.of q') q).elim
  | lst ds' =>
   rw [Rep.lst_i] at h'
   obtain ⟨a', vs', e, _, q', r'⟩:=h'
   cases e
   rw [q] at q'
   cases q'
   rw [Reps.inj I W ds ds' vs r r']
  | scr ds' => rw [Rep.scr_i] at h'; obtain ⟨a', vs', e, q', _⟩:=h'; cases e; exact (sqF_lst I q' q).elim
  | res i => rw [Rep.res_i] at h'; obtain ⟨a', e, q'⟩:=h'; cases e; exact (n (List.mem_of_getElem? q')).elim
  | exv C => rw [Rep.exv_i] at h'; obtain ⟨a', e, q'⟩:=h'; cases e; rw [q] at q'; cases q'
  | _ => unfold Rep at h'; cases h'
 | .scr ds, d', v, h, h' => by
  rw [Rep.scr_i] at h
  obtain ⟨a, vs, rfl, q, r⟩:=h
  cases d' with
  | tup ds' => rw [Rep.tup_i] at h'; obtain ⟨a', vs', e, q', _⟩:=h'; cases e; exact (sqT_sqF I (SqT.of q') q).elim
  | lst ds' => rw [Rep.lst_i] at h'; obtain ⟨a', vs', e, _, q', _⟩:=h'; cases e; exact (sqF_lst I q q').elim
  | scr ds' =>
   rw [Rep.scr_i] at h'
   obtain ⟨a', vs', e, q', r'⟩:=h'
   cases e
   have ev : vs = vs':=I.list_inj q.sq q'.sq
   subst ev
   rw [Reps.inj I W ds ds' vs r r']
  | res i => rw [Rep.res_i] at h'; obtain ⟨a', e, q'⟩:=h'; cases e; exact (res_F I W q' q).elim
  | exv C => rw [Rep.exv_i] at h'; obtain ⟨a', e, q'⟩:=h'; cases e; exact (sqF_ext I q q').elim
  | _ => unfold Rep at h'; cases h'
 | .res i, d', v, h, h' => by
  rw [Rep.res_i] at h
  obtain ⟨a, rfl, q⟩:=h
  cases d' with
  | tup ds' => rw [Rep.tup_i] at h'; obtain ⟨a', vs', e, q', _⟩:=h'; cases e; exact (res_T I W q (SqT.of q')).elim
  | lst ds' => rw [Rep.lst_i] at h'; obtain ⟨a', vs', e, n, _, _⟩:=h'; cases e; exact (n (List.mem_of_getElem? q)).elim
  | scr ds' => rw [Rep.scr_i] at h'; obtain ⟨a', vs', e, q', _⟩:=h'; cases e; exact (res_F I W q q').elim
  | res j =>
   rw [Rep.res_i] at h'
   obtain ⟨a', e, q'⟩:=h'
   cases e
   rw [nodup_at W.nd q q']
  | exv C => rw [Rep.exv_i] at h'; obtain ⟨a', e, q'⟩:=h'; cases e; exact (res_ext W q q').elim
  | _ => unfold Rep at h'; cases h'
 | .exv C, d', v, h, h' => by
  rw [Rep.exv_i] at h
  obtain ⟨a, rfl, q⟩:=h
  cases d' with
  | tup ds' => rw [Rep.tup_i] at h'; obtain ⟨a', vs', e, q', _⟩:=h'; cases e; exact (sqT_ext I (SqT.of q') q).elim
  | lst ds' => rw [Rep.lst_i] at h'; obtain ⟨a', vs', e, n, q', _⟩:=h'; cases e; rw [q] at q'; cases q'
  | scr ds' => rw [Rep.scr_i] at h'; obtain ⟨a', vs', e, q', _⟩:=h'; cases e; exact (sqF_ext I q' q).elim
  | res j => rw [Rep.res_i] at h'; obtain ⟨a', e, q'⟩:=h'; cases e; exact (res_ext W q' q).elim
  | exv C' =>
   rw [Rep.exv_i] at h'
   obtain ⟨a', e, q'⟩:=h'
   cases e
   rw [(I.hok _ _ q).1.inj (I.hok _ _ q').1]
  | _ => unfold Rep at h'; cases h'
theorem Reps.inj (I : Inv X pins σ H s) (W : WR X.K O H st) : ∀ (ds ds' : List D) (vs : List V), Reps X.K O H ds vs → Reps X.K O H ds' vs → ds = ds'
 | [], ds', vs, h, h' => by
  rw [Reps.nil_i] at h; subst h
  cases ds' with
  | nil => rfl
  | cons d r => obtain ⟨_, _, e, _⟩:=Reps.cons_i.mp h'; cases e
 | d :: ds, ds', vs, h, h' => by
  obtain ⟨v, r, rfl, q, t⟩:=Reps.cons_i.mp h
  cases ds' with
  | nil => rw [Reps.nil_i] at h'; cases h'
  | cons d' r' =>
   obtain ⟨v', r2, e, q', t'⟩:=Reps.cons_i.mp h'
   cases e
   rw [Rep.inj I W d d' v q q', Reps.inj I W ds r' r t t']
end
theorem eqItems_refl {f : D → D → Option Bool} (hf : ∀ d k, f d d = some k → k = true) : ∀ (xs : List D) (k : Bool), eqItems f xs xs = some k → k = true
 | [], k, h => by simp only [eqItems, Option.some.injEq] at h; exact h.symm
 | x :: xs, k, h => by
  unfold eqItems at h
  cases e1 : f x x with
  | none => rw [e1] at h; cases h
  | some a =>
   cases e2 : eqItems f xs xs with
   | none => rw [e1, e2] at h; cases h
   | some b =>
    rw [e1, e2] at h
    simp only [Option.some.injEq] at h
    rw [← h, hf x a e1, eqItems_refl hf xs b e2]
    rfl
theorem eqN_refl : ∀ (n : Nat) (d : D) (k : Bool), eqN st n d d = some k → k = true
 | 0, d, k, h => by cases h
 | n + 1, d, k, h => by
  unfold eqN at h
  cases e : kd st d <;> rw [e] at h <;> simp only [beq_self_eq_true, Option.some.injEq] at h
  case tup xs => exact eqItems_refl (eqN_refl n) xs k h
  case lst xs => exact eqItems_refl (eqN_refl n) xs k h
  case no => cases h
  all_goals exact h.symm
theorem eqItems_len {f : D → D → Option Bool} : ∀ (xs ys : List D) (k : Bool), eqItems f xs ys = some k →
  (∀ (j : Nat) (x y : D), xs[j]? = some x → ys[j]? = some y → ∃ kj, f x y = some kj) ∧
  k = ((List.range (min xs.length ys.length)).all (fun j => ((xs[j]?.bind fun x => ys[j]?.bind fun y => f x y).getD false)) && xs.length == ys.length)
 | [], [], k, h => by
  simp only [eqItems, Option.some.injEq] at h
  subst h
  exact ⟨fun j x y e => by simp at e, rfl⟩
 | [], y :: ys, k, h => by
  simp only [eqItems, Option.some.injEq] at h
  subst h
  exact ⟨fun j x y e => by simp at e, by simp⟩
 | x :: xs, [], k, h => by
  simp only [eqItems, Option.some.injEq] at h
  subst h
  exact ⟨fun j x y _ e => by simp at e, by simp⟩
 | x :: xs, y :: ys, k, h => by
  unfold eqItems at h
  cases e1 : f x y with
  | none => rw [e1] at h; cases h
  | some a =>
   cases e2 : eqItems f xs ys with
   | none => rw [e1, e2] at h; cases h
   | some b =>
    rw [e1, e2] at h
    simp only [Option.some.injEq] at h
    obtain ⟨h1, h2⟩:=eqItems_len xs ys b e2
    refine ⟨fun j u w eu ew => ?_, ?_⟩
    ·cases j with
     | zero => simp at eu ew; subst eu ew; exact ⟨a, e1⟩
     | succ j => exact h1 j u w (by simpa using eu) (by simpa using ew)
    ·rw [← h, h2]
     have em : min (x :: xs).length (y :: ys).length = min xs.length ys.length + 1:=by simp only [List.length_cons]; omega
     rw [em, List.range_succ_eq_map]
     simp only [List.all_cons, List.all_map, List.getElem?_cons_zero, Option.bind_some, e1, Option.getD_some, List.length_cons, Function.comp_def, List.getElem?_cons_succ, Nat.succ_eq_add_one, Bool.and_assoc]
     congr 2
     by_cases hl : xs.length = ys.length
     ·simp [hl]
     ·have : ¬ (xs.length + 1 = ys.length + 1):=by omega
      simp [hl]
noncomputable def KdV (K : PySem.W.Frag) (O : List Addr) (H : Hp) (s : Shared) : Kd → Value → Prop
 | .non, u => u = .none
 | .bl b, u => u = .bool b
 | .int i, u => ∃ t, u = .int i t
 | .str x, u => ∃ t, u = .str x t
 | .tup xs, u => ∃ a vs its, u = .ref a ∧ Reps K O H xs vs ∧ Vals vs its ∧ s.heap.IsTuple a its.toArray
 | .lst xs, u => ∃ a vs its, u = .ref a ∧ Reps K O H xs vs ∧ Vals vs its ∧ s.heap.IsList a its.toArray
 | .no, _ => True
theorem kdV_lst (I : Inv X pins σ H s) (W : WR X.K O H st) {d : D} {v : V} {u : Value} {xs : List D} (r : Rep X.K O H d v) (q : RelV v u) (e : seqL st d = some xs) : KdV X.K O H s (.lst xs) u:=by
 obtain ⟨a, vs, rfl, z, t⟩:=rdL W r e
 obtain ⟨its, hv, hp, _⟩:=I.list z
 have q' : u = Value.ref a:=q
 subst q'
 exact ⟨a, vs, its, rfl, t, hv, hp.isList⟩
theorem kdV (I : Inv X pins σ H s) (W : WR X.K O H st) : ∀ {d : D} {v : V} {u : Value}, Rep X.K O H d v → RelV v u → KdV X.K O H s (kd st d) u
 | .non, v, u, r, q => by rw [Rep.non_i] at r; subst r; exact q
 | .bl b, v, u, r, q => by rw [Rep.bl_i] at r; subst r; exact q
 | .int b, v, u, r, q => by rw [Rep.int_i] at r; subst r; exact q
 | .str b, v, u, r, q => by rw [Rep.str_i] at r; subst r; exact q
 | .tup ds, v, u, r, q => by
  rw [Rep.tup_i] at r
  obtain ⟨a, vs, rfl, z, t⟩:=r
  obtain ⟨its, hv, hp, _⟩:=I.tuple (SqT.of z)
  have q' : u = Value.ref a:=q
  subst q'
  exact ⟨a, vs, its, rfl, t, hv, hp⟩
 | .lst ds, v, u, r, q => kdV_lst I W r q rfl
 | .scr ds, v, u, r, q => kdV_lst I W r q rfl
 | .res i, v, u, r, q => by
  have e : seqL st (.res i) = match st[i]? with
   | some (.lst xs) => some xs
   | _ => none:=rfl
  have e' : kd st (.res i) = match st[i]? with
   | some (.lst xs) => .lst xs
   | _ => .no:=rfl
  rw [e']
  cases hs : st[i]? with
  | none => exact trivial
  | some so =>
   cases so with
   | ins C fs => exact trivial
   | dct kvs => exact trivial
   | dtt kvs => exact trivial
   | fdc kvs => exact trivial
   | lst xs =>
    rw [hs] at e
    exact kdV_lst I W r q e
 | .exv C, v, u, r, q => trivial
theorem in1_units (A : Around) : A.in1.units = A.units + 1:=rfl
theorem eq_sound (I : Inv X pins σ H s) (W : WR X.K O H st) : ∀ (n : Nat) (a b : D) (k : Bool), eqN st n a b = some k → ∀ (A : Around) (x y : V) (u w : Value),
  Rep X.K O H a x → Rep X.K O H b y → RelV x u → RelV y w → A.units + n < cLine → Ans A s u w k
 | 0, a, b, k, h => by cases h
 | n + 1, a, b, k, h => by
  intro A x y u w ra rb qa qb hn
  have hu : A.units < cLine:=by omega
  have same : u = w → k = true:=by
   intro e
   subst e
   have e2 : x = y:=qa.inj qb
   subst e2
   have e3:=Rep.inj I W a b x ra rb
   subst e3
   exact eqN_refl (n + 1) a k h
  have ka:=kdV I W ra qa
  have kb:=kdV I W rb qb
  have items : ∀ {xs ys : List D} {vs ws : List V} {its its2 : List Value}, eqItems (eqN st n) xs ys = some k → Reps X.K O H xs vs → Reps X.K O H ys ws → Vals vs its → Vals ws its2 →
    (∀ j (h1 : j < its.toArray.size) (h2 : j < its2.toArray.size), SeqAt.EqAt A.in1 s its.toArray[j] its2.toArray[j] ((xs[j]?.bind fun x => ys[j]?.bind fun y => eqN st n x y).getD false)) ∧
    k = ((List.range (min its.toArray.size its2.toArray.size)).all (fun j => ((xs[j]?.bind fun x => ys[j]?.bind fun y => eqN st n x y).getD false)) && its.toArray.size == its2.toArray.size):=by
   intro xs ys vs ws its its2 he r1 r2 v1 v2
   obtain ⟨h1, h2⟩:=eqItems_len xs ys k he
   have l1 : its.toArray.size = xs.length:=by rw [List.size_toArray, ← v1.length, r1.length]
   have l2 : its2.toArray.size = ys.length:=by rw [List.size_toArray, ← v2.length, r2.length]
   refine ⟨fun j j1 j2 => ?_, by rw [l1, l2]; exact h2⟩
   have j1' : j < xs.length:=by rw [← l1]; exact j1
   have j2' : j < ys.length:=by rw [← l2]; exact j2
   have ex : xs[j]? = some xs[j]:=List.getElem?_eq_getElem j1'
   have ey : ys[j]? = some ys[j]:=List.getElem?_eq_getElem j2'
   obtain ⟨kj, ek⟩:=h1 j xs[j] ys[j] ex ey
   obtain ⟨vx, e3, rx⟩:=r1.get ex
   obtain ⟨vy, e4, ry⟩:=r2.get ey
   obtain ⟨ux, e5, qx⟩:=v1.get e3
   obtain ⟨uy, e6, qy⟩:=v2.get e4
   have e7 : its.toArray[j] = ux:=by
    have:=(List.getElem?_eq_some_iff.mp e5).2
    simpa using this
   have e8 : its2.toArray[j] = uy:=by
    have:=(List.getElem?_eq_some_iff.mp e6).2
    simpa using this
   rw [ex, ey, e7, e8]
   simp only [Option.bind_some, ek, Option.getD_some]
   exact (eq_sound I W n xs[j] ys[j] kj ek A.in1 vx vy ux uy rx ry qx qy (by rw [in1_units]; omega)).1
  unfold eqN at h
  generalize kd st a = da at h ka
  generalize kd st b = db at h kb
  cases da with
  | no => cases db <;> cases h
  | non =>
   cases db with
   | no => cases h
   | non =>
    have e1 : u = _:=ka
    subst e1
    have e2 : w = _:=kb
    subst e2
    cases h
    exact eqc_non_non
   | bl b2 =>
    have e1 : u = _:=ka
    subst e1
    have e2 : w = _:=kb
    subst e2
    cases h
    exact eqc_non_bl
   | int i2 =>
    have e1 : u = _:=ka
    subst e1
    obtain ⟨t2, rfl⟩:=kb
    cases h
    exact eqc_non_int
   | str x2 =>
    have e1 : u = _:=ka
    subst e1
    obtain ⟨t2, rfl⟩:=kb
    cases h
    exact eqc_non_str
   | tup ys =>
    have e1 : u = _:=ka
    subst e1
    obtain ⟨a2, vs2, its2, rfl, r2, q2, z2⟩:=kb
    cases h
    exact eqc_non_tup z2 hu
   | lst ys =>
    have e1 : u = _:=ka
    subst e1
    obtain ⟨a2, vs2, its2, rfl, r2, q2, z2⟩:=kb
    cases h
    exact eqc_non_lst z2 hu
  | bl b1 =>
   cases db with
   | no => cases h
   | non =>
    have e1 : u = _:=ka
    subst e1
    have e2 : w = _:=kb
    subst e2
    cases h
    exact eqc_bl_non
   | bl b2 =>
    have e1 : u = _:=ka
    subst e1
    have e2 : w = _:=kb
    subst e2
    cases h
    exact eqc_bl_bl
   | int i2 =>
    have e1 : u = _:=ka
    subst e1
    obtain ⟨t2, rfl⟩:=kb
    cases h
    exact eqc_bl_int
   | str x2 =>
    have e1 : u = _:=ka
    subst e1
    obtain ⟨t2, rfl⟩:=kb
    cases h
    exact eqc_bl_str
   | tup ys =>
    have e1 : u = _:=ka
    subst e1
    obtain ⟨a2, vs2, its2, rfl, r2, q2, z2⟩:=kb
    cases h
    exact eqc_bl_tup z2 hu
   | lst ys =>
    have e1 : u = _:=ka
    subst e1
    obtain ⟨a2, vs2, its2, rfl, r2, q2, z2⟩:=kb
    cases h
    exact eqc_bl_lst z2 hu
  | int i1 =>
   cases db with
   | no => cases h
   | non =>
    obtain ⟨t1, rfl⟩:=ka
    have e2 : w = _:=kb
    subst e2
    cases h
    exact eqc_int_non
   | bl b2 =>
    obtain ⟨t1, rfl⟩:=ka
    have e2 : w = _:=kb
    subst e2
    cases h
    exact eqc_int_bl
   | int i2 =>
    obtain ⟨t1, rfl⟩:=ka
    obtain ⟨t2, rfl⟩:=kb
    cases h
    exact eqc_int_int
   | str x2 =>
    obtain ⟨t1, rfl⟩:=ka
    obtain ⟨t2, rfl⟩:=kb
    cases h
    exact eqc_int_str
   | tup ys =>
    obtain ⟨t1, rfl⟩:=ka
    obtain ⟨a2, vs2, its2, rfl, r2, q2, z2⟩:=kb
    cases h
    exact eqc_int_tup z2 hu
   | lst ys =>
    obtain ⟨t1, rfl⟩:=ka
    obtain ⟨a2, vs2, its2, rfl, r2, q2, z2⟩:=kb
    cases h
    exact eqc_int_lst z2 hu
  | str x1 =>
   cases db with
   | no => cases h
   | non =>
    obtain ⟨t1, rfl⟩:=ka
    have e2 : w = _:=kb
    subst e2
    cases h
    exact eqc_str_non
   | bl b2 =>
    obtain ⟨t1, rfl⟩:=ka
    have e2 : w = _:=kb
    subst e2
    cases h
    exact eqc_str_bl
   | int i2 =>
    obtain ⟨t1, rfl⟩:=ka
    obtain ⟨t2, rfl⟩:=kb
    cases h
    exact eqc_str_int
   | str x2 =>
    obtain ⟨t1, rfl⟩:=ka
    obtain ⟨t2, rfl⟩:=kb
    cases h
    exact eqc_str_str
   | tup ys =>
    obtain ⟨t1, rfl⟩:=ka
    obtain ⟨a2, vs2, its2, rfl, r2, q2, z2⟩:=kb
    cases h
    exact eqc_str_tup z2 hu
   | lst ys =>
    obtain ⟨t1, rfl⟩:=ka
    obtain ⟨a2, vs2, its2, rfl, r2, q2, z2⟩:=kb
    cases h
    exact eqc_str_lst z2 hu
  | tup xs =>
   cases db with
   | no => cases h
   | non =>
    obtain ⟨a1, vs1, its1, rfl, r1, q1, z1⟩:=ka
    have e2 : w = _:=kb
    subst e2
    cases h
    exact eqc_tup_non z1 hu
   | bl b2 =>
    obtain ⟨a1, vs1, its1, rfl, r1, q1, z1⟩:=ka
    have e2 : w = _:=kb
    subst e2
    cases h
    exact eqc_tup_bl z1 hu
   | int i2 =>
    obtain ⟨a1, vs1, its1, rfl, r1, q1, z1⟩:=ka
    obtain ⟨t2, rfl⟩:=kb
    cases h
    exact eqc_tup_int z1 hu
   | str x2 =>
    obtain ⟨a1, vs1, its1, rfl, r1, q1, z1⟩:=ka
    obtain ⟨t2, rfl⟩:=kb
    cases h
    exact eqc_tup_str z1 hu
   | tup ys =>
    obtain ⟨a1, vs1, its1, rfl, r1, q1, z1⟩:=ka
    obtain ⟨a2, vs2, its2, rfl, r2, q2, z2⟩:=kb
    obtain ⟨he, hk⟩:=items h r1 r2 q1 q2
    have R:=SeqAt.RcAt.tuples z1 z2 hu he
    have N:=SeqAt.RcNeAt.tuples z1 z2 hu he
    rw [← hk] at R N
    refine ⟨?_, R, N⟩
    by_cases ea : a1 = a2
    ·subst ea
     rw [same rfl]
     exact SeqAt.EqAt.same _
    ·exact SeqAt.EqAt.of_refs ea R
   | lst ys =>
    obtain ⟨a1, vs1, its1, rfl, r1, q1, z1⟩:=ka
    obtain ⟨a2, vs2, its2, rfl, r2, q2, z2⟩:=kb
    cases h
    exact eqc_tup_lst z1 z2 hu
  | lst xs =>
   cases db with
   | no => cases h
   | non =>
    obtain ⟨a1, vs1, its1, rfl, r1, q1, z1⟩:=ka
    have e2 : w = _:=kb
    subst e2
    cases h
    exact eqc_lst_non z1 hu
   | bl b2 =>
    obtain ⟨a1, vs1, its1, rfl, r1, q1, z1⟩:=ka
    have e2 : w = _:=kb
    subst e2
    cases h
    exact eqc_lst_bl z1 hu
   | int i2 =>
    obtain ⟨a1, vs1, its1, rfl, r1, q1, z1⟩:=ka
    obtain ⟨t2, rfl⟩:=kb
    cases h
    exact eqc_lst_int z1 hu
   | str x2 =>
    obtain ⟨a1, vs1, its1, rfl, r1, q1, z1⟩:=ka
    obtain ⟨t2, rfl⟩:=kb
    cases h
    exact eqc_lst_str z1 hu
   | tup ys =>
    obtain ⟨a1, vs1, its1, rfl, r1, q1, z1⟩:=ka
    obtain ⟨a2, vs2, its2, rfl, r2, q2, z2⟩:=kb
    cases h
    exact eqc_lst_tup z1 z2 hu
   | lst ys =>
    obtain ⟨a1, vs1, its1, rfl, r1, q1, z1⟩:=ka
    obtain ⟨a2, vs2, its2, rfl, r2, q2, z2⟩:=kb
    obtain ⟨he, hk⟩:=items h r1 r2 q1 q2
    have RN : SeqAt.RcAt A s (.ref a1) (.ref a2) k ∧ SeqAt.RcNeAt A s (.ref a1) (.ref a2) (!k):=by
     by_cases hz : its1.toArray.size = its2.toArray.size
     ·have R:=SeqAt.RcAt.lists z1 z2 hz hu he
      have N:=SeqAt.RcNeAt.lists z1 z2 hz hu he
      have hk2 : k = (List.range its1.toArray.size).all (fun j => ((xs[j]?.bind fun x => ys[j]?.bind fun y => eqN st n x y).getD false)):=by
       rw [hk, ← hz, Nat.min_self]
       simp
      rw [← hk2] at R N
      exact ⟨R, N⟩
     ·have hk2 : k = false:=by
       rw [hk]
       simp only [beq_eq_false_iff_ne.mpr hz, Bool.and_false]
      have hb : (its1.toArray.size != its2.toArray.size) = true:=by simpa using hz
      subst hk2
      exact ⟨SeqAt.RcAt.lists_lengths z1 z2 hb hu, SeqAt.RcNeAt.lists_lengths z1 z2 hb hu⟩
    refine ⟨?_, RN.1, RN.2⟩
    by_cases ea : a1 = a2
    ·subst ea
     rw [same rfl]
     exact SeqAt.EqAt.same _
    ·exact SeqAt.EqAt.of_refs ea RN.1
end
end DL
end
section
namespace DL
open PySem PySem.Spec PyProof.Rows L2
noncomputable abbrev EXT:=Addr → Sto → List Addr → Hp → Prop
noncomputable def Run (K : PySem.W.Frag) (EX : EXT) {α : Type} (O : List Addr) (H : Hp) (r : Out α) (k : α → Sto → List Addr → Hp → Prop) : Prop:=match r with
 | .ok a st => ∀ O' H', Keep K O H O' H' → WR K O' H' st → k a st O' H'
 | .exc c st => ∀ O' H', Keep K O H O' H' → WR K O' H' st → EX c st O' H'
 | .bad => False
section
variable {K : PySem.W.Frag} {EX : EXT} {α β : Type} {O O' : List Addr} {H H' : Hp} {st : Sto}
theorem Run.now {a : α} {k : α → Sto → List Addr → Hp → Prop} (h : Run K EX O H (.ok a st) k) (W : WR K O H st) : k a st O H:=h O H Keep.refl W
theorem Run.later {r : Out α} {k : α → Sto → List Addr → Hp → Prop} (h : Run K EX O H r k) (kp : Keep K O H O' H') : Run K EX O' H' r k:=by
 cases r with
 | ok a st => exact fun O2 H2 k2 W2 => h O2 H2 (kp.trans k2) W2
 | exc c st => exact fun O2 H2 k2 W2 => h O2 H2 (kp.trans k2) W2
 | bad => exact h
theorem Run.mono {r : Out α} {k k' : α → Sto → List Addr → Hp → Prop} (h : Run K EX O H r k) (f : ∀ a st O' H', Keep K O H O' H' → WR K O' H' st → k a st O' H' → k' a st O' H') : Run K EX O H r k':=by
 cases r with
 | ok a st => exact fun O' H' kp W => f a st O' H' kp W (h O' H' kp W)
 | exc c st => exact h
 | bad => exact h
theorem Run.bind {r : Out α} {g : α → Sto → Out β} {k : β → Sto → List Addr → Hp → Prop} (h : Run K EX O H (r.bind g) k) : Run K EX O H r (fun a st O' H' => Run K EX O' H' (g a st) k):=by
 cases r with
 | ok a st => exact fun O' H' kp W => Run.later (r:=g a st) h kp
 | exc c st => exact h
 | bad => exact h
end
structure REnv (K : PySem.W.Frag) (O : List Addr) (H : Hp) (ρ : Ev) (σ : L2.St) : Prop where
 len : ρ.length = σ.length
 at_ : ∀ (i : Nat) (d : D), ρ[i]? = some (some d) → ∃ v, σ[i]? = some (some v) ∧ Rep K O H d v
section
variable {K : PySem.W.Frag} {O O' : List Addr} {H H' : Hp} {ρ : Ev} {σ : L2.St}
theorem REnv.mono (E : REnv K O H ρ σ) (k : Keep K O H O' H') : REnv K O' H' ρ σ :=
 ⟨E.len, fun i d e => let ⟨v, h, r⟩:=E.at_ i d e; ⟨v, h, Rep.mono k d v r⟩⟩
theorem REnv.set (E : REnv K O H ρ σ) {i : Nat} {d : D} {v : V} (r : Rep K O H d v) : REnv K O H (ρ.set i (some d)) (σ.set i (some v)):=by
 refine ⟨by rw [List.length_set, List.length_set, E.len], fun j e h => ?_⟩
 by_cases hij : i = j
 ·subst hij
  have hl : i < ρ.length:=by
   have:=(List.getElem?_eq_some_iff.mp h).1
   rwa [List.length_set] at this
  rw [List.getElem?_set_self hl] at h
  cases h
  exact ⟨v, List.getElem?_set_self (by rw [← E.len]; exact hl), r⟩
 ·rw [List.getElem?_set_ne hij] at h
  obtain ⟨u, h1, h2⟩:=E.at_ j e h
  exact ⟨u, by rw [List.getElem?_set_ne hij]; exact h1, h2⟩
end
noncomputable abbrev DE:=Ev → Sto → Out D
noncomputable abbrev DT:=Ev → Sto → Out Bool
noncomputable abbrev DA:=Ev → Sto → Out (List D)
noncomputable def EX0 : EXT:=fun _ _ _ _ => False
section
variable (K : PySem.W.Frag) (EX : EXT)
noncomputable def Val (Q : VK) (d : D) (_ : Sto) (O : List Addr) (H : Hp) : Prop:=∀ v, Rep K O H d v → Q v H
noncomputable def Vls (Q : List V → Hp → Prop) (ds : List D) (_ : Sto) (O : List Addr) (H : Hp) : Prop:=∀ vs, Reps K O H ds vs → Q vs H
noncomputable def New (Q : VK) (ds : List D) (_ : Sto) (O : List Addr) (H : Hp) : Prop:=∀ p vs, Reps K O H ds vs → H p = none → Q (.ref p) (upd H p (.lst vs))
noncomputable def tD (f : DE) : TE:=fun σ H Q => ∃ O ρ st, WR K O H st ∧ REnv K O H ρ σ ∧ Run K EX O H (f ρ st) (Val K Q)
noncomputable def tDT (f : DT) : TT:=fun σ H Q => ∃ O ρ st, WR K O H st ∧ REnv K O H ρ σ ∧ Run K EX O H (f ρ st) (fun b _ _ H' => Q b H')
noncomputable def tDA (f : DA) : TA:=fun σ H Q => ∃ O ρ st, WR K O H st ∧ REnv K O H ρ σ ∧ Run K EX O H (f ρ st) (Vls K Q)
noncomputable def tDF (f : DA) : TE:=fun σ H Q => ∃ O ρ st, WR K O H st ∧ REnv K O H ρ σ ∧ Run K EX O H (f ρ st) (New K Q)
noncomputable def rD2 (g : D → D → Sto → Out D) : R2:=fun x y H Q => ∃ O a b st, WR K O H st ∧ Rep K O H a x ∧ Rep K O H b y ∧ Run K EX O H (g a b st) (Val K Q)
noncomputable def rDF2 (g : D → D → Sto → Out (List D)) : R2:=fun x y H Q => ∃ O a b st, WR K O H st ∧ Rep K O H a x ∧ Rep K O H b y ∧ Run K EX O H (g a b st) (New K Q)
noncomputable def rDC (g : List D → Sto → Out D) : List V → Hp → VK → Prop:=fun xs H Q => ∃ O ds st, WR K O H st ∧ Reps K O H ds xs ∧ Run K EX O H (g ds st) (Val K Q)
noncomputable def rDCF (g : List D → Sto → Out (List D)) : List V → Hp → VK → Prop:=fun xs H Q => ∃ O ds st, WR K O H st ∧ Reps K O H ds xs ∧ Run K EX O H (g ds st) (New K Q)
end
section
variable (X : Cx) (EX : EXT)
noncomputable def PD (e : Expr) (f : DE) : Prop:=PE X e (tD X.K EX f)
noncomputable def PDT (e : Expr) (f : DT) : Prop:=PT X e (tDT X.K EX f)
noncomputable def PDW (e : Expr) (f : DT) : Prop:=PW X e (tDT X.K EX f)
noncomputable def PDA (es : List Expr) (f : DA) : Prop:=PA X es (tDA X.K EX f)
noncomputable def PDF (e : Expr) (f : DA) : Prop:=PE X e (tDF X.K EX f)
noncomputable def OpD (f : Value → Value → Sem Value) (g : D → D → Sto → Out D) : Prop:=OpR X f (rD2 X.K EX g)
noncomputable def OpF (f : Value → Value → Sem Value) (g : D → D → Sto → Out (List D)) : Prop:=OpR X f (rDF2 X.K EX g)
noncomputable def CallD (f : Value) (g : List D → Sto → Out D) : Prop:=CallR X f (rDC X.K EX g)
noncomputable def CallF (f : Value) (g : List D → Sto → Out (List D)) : Prop:=CallR X f (rDCF X.K EX g)
end
theorem PE.mono {X : Cx} {e : Expr} {t t' : TE} (h : PE X e t) (f : ∀ σ H Q, t' σ H Q → t σ H Q) : PE X e t':=fun pins s σ H Q I q => h pins s σ H Q I (f σ H Q q)
theorem PT.mono {X : Cx} {e : Expr} {t t' : TT} (h : PT X e t) (f : ∀ σ H Q, t' σ H Q → t σ H Q) : PT X e t':=fun pins s σ H Q I q => h pins s σ H Q I (f σ H Q q)
theorem PW.mono {X : Cx} {e : Expr} {t t' : TT} (h : PW X e t) (f : ∀ σ H Q, t' σ H Q → t σ H Q) : PW X e t':=fun wh pins s σ H Q I q => h wh pins s σ H Q I (f σ H Q q)
theorem PA.mono {X : Cx} {es : List Expr} {t t' : TA} (h : PA X es t) (f : ∀ σ H Q, t' σ H Q → t σ H Q) : PA X es t':=fun pos pins s σ H Q I q => h pos pins s σ H Q I (f σ H Q q)
theorem PS.mono {X : Cx} {e : Stmt} {t t' : TS} (h : PS X e t) (f : ∀ D σ H, t' D σ H → t D σ H) : PS X e t':=fun pins s σ H D I q => h pins s σ H D I (f D σ H q)
theorem PSs.mono {X : Cx} {e : List Stmt} {t t' : TS} (h : PSs X e t) (f : ∀ D σ H, t' D σ H → t D σ H) : PSs X e t':=fun pins s σ H D I q => h pins s σ H D I (f D σ H q)
theorem OpR.mono {X : Cx} {f : Value → Value → Sem Value} {r r' : R2} (h : OpR X f r) (g : ∀ x y H Q, r' x y H Q → r x y H Q) : OpR X f r':=fun pins s σ H x y v u Q I rx ry q => h pins s σ H x y v u Q I rx ry (g x y H Q q)
section
variable {X : Cx} {EX : EXT} {a b c e : Expr} {fa fb fc : DE} {pos : Pos} {ta tb : DT}
noncomputable def dVar (i : Nat) : DE:=fun ρ st => match ρ[i]? with
 | some (some d) => .ok d st
 | _ => .bad
theorem pd_var (i : Nat) {x : Str} {pos : Pos} (hN : X.N[i]? = some x := by rfl) (hv : Vis X.env.scope x := by first | exact Or.inl rfl | exact Or.inr (Or.inl rfl) | exact Or.inr (Or.inr rfl)) (hd : (x == ("__debug__" : Str)) = false := by decide)
  (hcd : (x == ("__classdict__" : Str)) = false := by decide) : PD X EX (.Name x pos) (dVar i) := by
 refine PE.mono (pe_var hN hv hd hcd) ?_
 rintro σ H Q ⟨O, ρ, st, W, E, R⟩
 unfold dVar at R
 cases h : ρ[i]? with
 | none => rw [h] at R; exact R.elim
 | some z =>
  cases z with
  | none => rw [h] at R; exact R.elim
  | some d =>
   rw [h] at R
   obtain ⟨v, h1, r⟩:=E.at_ i d h
   exact ⟨v, h1, R.now W v r⟩
noncomputable def dC (d : D) : DE:=fun _ st => .ok d st
theorem pd_C {v : V} {d : D} (h : PE X e (tC v)) (hr : ∀ O H, Rep X.K O H d v) : PD X EX e (dC d):=by
 refine PE.mono h ?_
 rintro σ H Q ⟨O, ρ, st, W, E, R⟩
 exact R.now W v (hr O H)
theorem pd_int {i j pos} : PD X EX (.Constant (.int i) j pos) (dC (.int i)):=pd_C pe_int fun _ _ => Rep.int_i.mpr rfl
theorem pd_bl {b j pos} : PD X EX (.Constant (.bool b) j pos) (dC (.bl b)):=pd_C pe_bl fun _ _ => Rep.bl_i.mpr rfl
theorem pd_str {x j pos} : PD X EX (.Constant (.str x) j pos) (dC (.str x)):=pd_C pe_str fun _ _ => Rep.str_i.mpr rfl
theorem pd_glob {x : Str} {v : V} {u : Value} {d : D} {pos : Pos} (hg : Gl X x) (hm : X.mg x = some u) (r : RelV v u) (hr : ∀ O H, Rep X.K O H d v) (hd : (x == ("__debug__" : Str)) = false := by decide) : PD X EX (.Name x pos) (dC d) :=
 pd_C (pe_glob hg hm r hd) hr
noncomputable def dBin (g : D → D → Sto → Out D) (fa fb : DE) : DE:=fun ρ st => (fa ρ st).bind fun x st1 => (fb ρ st1).bind fun y st2 => g x y st2
noncomputable def dBinF (g : D → D → Sto → Out (List D)) (fa fb : DE) : DA:=fun ρ st => (fa ρ st).bind fun x st1 => (fb ρ st1).bind fun y st2 => g x y st2
theorem bin_imp {g : D → D → Sto → Out D} : ∀ σ H Q, tD X.K EX (dBin g fa fb) σ H Q → tOp (rD2 X.K EX g) (tD X.K EX fa) (tD X.K EX fb) σ H Q:=by
 rintro σ H Q ⟨O, ρ, st, W, E, R⟩
 refine ⟨O, ρ, st, W, E, R.bind.mono fun x st1 O1 H1 k1 W1 R1 v r => ?_⟩
 refine ⟨O1, ρ, st1, W1, E.mono k1, R1.bind.mono fun y st2 O2 H2 k2 W2 R2 u r2 => ?_⟩
 exact ⟨O2, x, y, st2, W2, Rep.mono k2 x v r, r2, R2⟩
theorem binF_imp {g : D → D → Sto → Out (List D)} : ∀ σ H Q, tDF X.K EX (dBinF g fa fb) σ H Q → tOp (rDF2 X.K EX g) (tD X.K EX fa) (tD X.K EX fb) σ H Q:=by
 rintro σ H Q ⟨O, ρ, st, W, E, R⟩
 refine ⟨O, ρ, st, W, E, R.bind.mono fun x st1 O1 H1 k1 W1 R1 v r => ?_⟩
 refine ⟨O1, ρ, st1, W1, E.mono k1, R1.bind.mono fun y st2 O2 H2 k2 W2 R2 u r2 => ?_⟩
 exact ⟨O2, x, y, st2, W2, Rep.mono k2 x v r, r2, R2⟩
theorem pd_op {op : Operator} {g : D → D → Sto → Out D} (ho : OpD X EX (binaryOp op) g) (ha : PD X EX a fa) (hb : PD X EX b fb) : PD X EX (.BinOp a op b pos) (dBin g fa fb) :=
 PE.mono (pe_op ho ha hb) bin_imp
theorem pdf_op {op : Operator} {g : D → D → Sto → Out (List D)} (ho : OpF X EX (binaryOp op) g) (ha : PD X EX a fa) (hb : PD X EX b fb) : PDF X EX (.BinOp a op b pos) (dBinF g fa fb) :=
 PE.mono (pe_op ho ha hb) binF_imp
theorem pd_cmp {op : CmpOp} {g : D → D → Sto → Out D} (ho : OpD X EX (compareOp op) g) (ha : PD X EX a fa) (hb : PD X EX b fb) (hm : behindInMarks op b = false:=by first | exact nomark _ (by decide) (by decide) | with_unfolding_all rfl) : PD X EX (.Compare a [op] [b] pos) (dBin g fa fb) :=
 PE.mono (pe_cmpR ho ha hb hm) bin_imp
noncomputable def asB : D → Sto → Out Bool
 | .bl b, st => .ok b st
 | _, _ => .bad
noncomputable def dB (f : DE) : DT:=fun ρ st => (f ρ st).bind asB
theorem asB_run {O : List Addr} {H : Hp} {st : Sto} {d : D} {v : V} {Q : Bool → Hp → Prop} (W : WR X.K O H st) (r : Rep X.K O H d v) (R : Run X.K EX O H (asB d st) (fun b _ _ H' => Q b H')) : ∃ k, v = .bl k ∧ Q k H:=by
 cases d with
 | bl b => exact ⟨b, Rep.bl_i.mp r, Run.now (k:=fun b _ _ H' => Q b H') R W⟩
 | _ => exact R.elim
theorem pdt_cmp {op : CmpOp} {g : D → D → Sto → Out D} (ho : OpD X EX (compareOp op) g) (ha : PD X EX a fa) (hb : PD X EX b fb) (hm : behindInMarks op b = false:=by first | exact nomark _ (by decide) (by decide) | with_unfolding_all rfl) : PDT X EX (.Compare a [op] [b] pos) (dB (dBin g fa fb)):=by
 refine PT.mono (pt_cmpR ho ha hb hm) ?_
 rintro σ H Q ⟨O, ρ, st, W, E, R⟩
 exact bin_imp (X:=X) (EX:=EX) σ H _ ⟨O, ρ, st, W, E, R.bind.mono fun d st1 O1 H1 k1 W1 R1 v r => asB_run W1 r R1⟩
theorem pdt_val {f : DE} (h : PD X EX e f) (he : ∀ whole, isTrue e X.env whole = (do let v ← whole; standAt e.pos; holding [v] (truthy v)):=by intro _; rfl) : PDT X EX e (dB f):=by
 refine PT.mono (pt_val h he) ?_
 rintro σ H Q ⟨O, ρ, st, W, E, R⟩
 exact ⟨O, ρ, st, W, E, R.bind.mono fun d st1 O1 H1 k1 W1 R1 v r => asB_run W1 r R1⟩
noncomputable def dOr (ta tb : DT) : DT:=fun ρ st => (ta ρ st).bind fun x st1 => if x = true then .ok true st1 else tb ρ st1
noncomputable def dNot (ta : DT) : DT:=fun ρ st => (ta ρ st).bind fun x st1 => .ok (!x) st1
theorem pdw_or1 (ha : PDT X EX a ta) : PDW X EX (.BoolOp .Or [a] pos) ta:=pw_or1 ha
theorem pdw_or {rest : List Expr} (ha : PDT X EX a ta) (hb : PDW X EX (.BoolOp .Or (b :: rest) pos) tb) : PDW X EX (.BoolOp .Or (a :: b :: rest) pos) (dOr ta tb):=by
 refine PW.mono (pw_or ha hb) ?_
 rintro σ H Q ⟨O, ρ, st, W, E, R⟩
 refine ⟨O, ρ, st, W, E, R.bind.mono fun x st1 O1 H1 k1 W1 R1 => ?_⟩
 cases x with
 | true => exact Run.now (k:=fun b _ _ H' => Q b H') R1 W1
 | false => exact ⟨O1, ρ, st1, W1, E.mono k1, R1⟩
theorem PDW.pt (h : PDW X EX e ta) : PDT X EX e ta:=PW.pt h
theorem pdt_not (ha : PDT X EX a ta) : PDT X EX (.UnaryOp .Not a pos) (dNot ta):=by
 refine PT.mono (pt_not ha) ?_
 rintro σ H Q ⟨O, ρ, st, W, E, R⟩
 exact ⟨O, ρ, st, W, E, R.bind.mono fun x st1 O1 H1 k1 W1 R1 => Run.now (k:=fun b _ _ H' => Q b H') R1 W1⟩
theorem asB_runB {O : List Addr} {H : Hp} {st : Sto} {d : D} {v : V} {β : Type} {g : Bool → Sto → Out β} {k : β → Sto → List Addr → Hp → Prop} (r : Rep X.K O H d v) (R : Run X.K EX O H ((asB d st).bind g) k) : ∃ x, v = .bl x ∧ Run X.K EX O H (g x st) k:=by
 cases d with
 | bl b => exact ⟨b, Rep.bl_i.mp r, R⟩
 | _ => exact R.elim
noncomputable def dChain (g g' : D → D → Sto → Out D) (fa fb fc : DE) : DE:=fun ρ st => (fa ρ st).bind fun x st1 => (fb ρ st1).bind fun y st2 => (g x y st2).bind fun z st3 => (asB z st3).bind fun k st4 =>
 if k = true then (fc ρ st4).bind fun w st5 => g' y w st5 else .ok (.bl false) st4
theorem chain_imp {g g' : D → D → Sto → Out D} : ∀ σ H Q, tD X.K EX (dChain g g' fa fb fc) σ H Q → tChain (rD2 X.K EX g) (rD2 X.K EX g') (tD X.K EX fa) (tD X.K EX fb) (tD X.K EX fc) σ H Q:=by
 rintro σ H Q ⟨O, ρ, st, W, E, R⟩
 refine ⟨O, ρ, st, W, E, R.bind.mono fun x st1 O1 H1 k1 W1 R1 v r => ?_⟩
 refine ⟨O1, ρ, st1, W1, E.mono k1, R1.bind.mono fun y st2 O2 H2 k2 W2 R2 u r2 => ?_⟩
 refine ⟨O2, x, y, st2, W2, Rep.mono k2 x v r, r2, R2.bind.mono fun z st3 O3 H3 k3 W3 R3 z' rz => ?_⟩
 obtain ⟨k, rfl, R4⟩:=asB_runB rz R3
 refine ⟨k, rfl, ?_⟩
 cases k with
 | true =>
  refine ⟨O3, ρ, st3, W3, E.mono (k1.trans (k2.trans k3)), R4.bind.mono fun w st5 O5 H5 k5 W5 R5 w' rw => ?_⟩
  exact ⟨O5, y, w, st5, W5, Rep.mono (k3.trans k5) y u r2, rw, R5⟩
 | false => exact Run.now (k:=Val X.K Q) R4 W3 _ (Rep.bl_i.mpr rfl)
theorem pd_chain {op op' : CmpOp} {g g' : D → D → Sto → Out D} (ho : OpD X EX (compareOp op) g) (ho' : OpD X EX (compareOp op') g') (ha : PD X EX a fa) (hb : PD X EX b fb) (hc : PD X EX c fc)
  (hm : lastMarks [op, op'] [b, c] = false:=by with_unfolding_all rfl) : PD X EX (.Compare a [op, op'] [b, c] pos) (dChain g g' fa fb fc):=PE.mono (pe_chain ho ho' ha hb hc hm) chain_imp
noncomputable def dNil : DA:=fun _ st => .ok [] st
noncomputable def dCons (f : DE) (g : DA) : DA:=fun ρ st => (f ρ st).bind fun x st1 => (g ρ st1).bind fun xs st2 => .ok (x :: xs) st2
theorem pda_nil : PDA X EX [] dNil:=by
 refine PA.mono pa_nil ?_
 rintro σ H Q ⟨O, ρ, st, W, E, R⟩
 exact Run.now (k:=Vls X.K Q) R W _ (Reps.nil_i.mpr rfl)
theorem pda_cons {es : List Expr} {g : DA} (ha : PD X EX a fa) (hr : PDA X EX es g) (hs : starEach (a :: es) X.env = (false, eval a X.env) :: starEach es X.env:=by rfl) : PDA X EX (a :: es) (dCons fa g):=by
 refine PA.mono (pa_cons ha hr hs) ?_
 rintro σ H Q ⟨O, ρ, st, W, E, R⟩
 refine ⟨O, ρ, st, W, E, R.bind.mono fun x st1 O1 H1 k1 W1 R1 v r => ?_⟩
 refine ⟨O1, ρ, st1, W1, E.mono k1, R1.bind.mono fun xs st2 O2 H2 k2 W2 R2 vs rs => ?_⟩
 exact Run.now (k:=Vls X.K Q) R2 W2 _ (Reps.cons_i.mpr ⟨v, vs, rfl, Rep.mono k2 x v r, rs⟩)
noncomputable def small : Nat:=10000
theorem small_le : small ≤ sizeLine:=by rw [sizeLine_eq]; decide
noncomputable def dTup (g : DA) : DE:=fun ρ st => (g ρ st).bind fun xs st1 => if xs.length ≤ small then .ok (.tup xs) st1 else .bad
noncomputable def dLst (g : DA) : DA:=fun ρ st => (g ρ st).bind fun xs st1 => if xs.length ≤ small then .ok xs st1 else .bad
theorem new_tup {O : List Addr} {H : Hp} {st : Sto} {xs : List D} {vs : List V} {p : Addr} {Q : VK} (W : WR X.K O H st) (r : Reps X.K O H xs vs) (hp : H p = none) (R : Run X.K EX O H (.ok (.tup xs) st) (Val X.K Q)) : Q (.ref p) (upd H p (.tup vs)) :=
 R O (upd H p (.tup vs)) (Keep.laid hp) (W.laid hp) _ (Rep.tup_i.mpr ⟨p, vs, rfl, upd_same, Reps.mono (Keep.laid hp) _ _ r⟩)
theorem new_lst {O : List Addr} {H : Hp} {st : Sto} {xs : List D} {vs : List V} {p : Addr} {Q : VK} (W : WR X.K O H st) (r : Reps X.K O H xs vs) (hp : H p = none) (R : Run X.K EX O H (.ok (.lst xs) st) (Val X.K Q)) : Q (.ref p) (upd H p (.lst vs)):=by
 refine R O (upd H p (.lst vs)) (Keep.laid hp) (W.laid hp) _ (Rep.lst_i.mpr ⟨p, vs, rfl, fun hm => ?_, upd_same, Reps.mono (Keep.laid hp) _ _ r⟩)
 obtain ⟨i, hi⟩:=List.mem_iff_getElem?.mp hm
 exact W.ne hi hp rfl
theorem pd_tup {es : List Expr} {x1} {g : DA} (h : PDA X EX es g) : PD X EX (.Tuple es x1 pos) (dTup g):=by
 refine PE.mono (pe_tup h) ?_
 rintro σ H Q ⟨O, ρ, st, W, E, R⟩
 refine ⟨O, ρ, st, W, E, R.bind.mono fun xs st1 O1 H1 k1 W1 R1 vs r => ?_⟩
 by_cases hz : xs.length ≤ small
 ·rw [if_pos hz] at R1
  exact ⟨by rw [← r.length]; exact Nat.le_trans hz small_le, fun p hp => new_tup W1 r hp R1⟩
 ·rw [if_neg hz] at R1
  exact R1.elim
theorem pdf_lst {es : List Expr} {g : DA} (h : PDA X EX es g) : PDF X EX (.List es pos) (dLst g):=by
 refine PE.mono (pe_lst h) ?_
 rintro σ H Q ⟨O, ρ, st, W, E, R⟩
 refine ⟨O, ρ, st, W, E, R.bind.mono fun xs st1 O1 H1 k1 W1 R1 vs r => ?_⟩
 by_cases hz : xs.length ≤ small
 ·rw [if_pos hz] at R1
  exact ⟨by rw [← r.length]; exact Nat.le_trans hz small_le, fun p hp => Run.now (k:=New X.K Q) R1 W1 p vs r hp⟩
 ·rw [if_neg hz] at R1
  exact R1.elim
noncomputable def dF (f : DA) : DE:=fun ρ st => (f ρ st).bind fun xs st1 => .ok (.lst xs) st1
theorem pd_F {f : DA} (h : PDF X EX e f) : PD X EX e (dF f):=by
 refine PE.mono h ?_
 rintro σ H Q ⟨O, ρ, st, W, E, R⟩
 exact ⟨O, ρ, st, W, E, R.bind.mono fun xs st1 O1 H1 k1 W1 R1 p vs r hp => new_lst W1 r hp R1⟩
end
end DL
end
section
namespace HT
open PySem PyProof.Rows
section
open PySem.SeqAt
open PySem.AutoSeq1 (wpAny_loadPart')
open PySem.MeetsSeq PySem.MeetsSeq2 PySem.MeetsSeq3
variable {prog : Program} {w : World} {A : Around} {E : Value → Shared → Prop} {s : Shared}
theorem cat_tup0 {t b : Addr} {ws : List Value} {Q : Value → Shared → Prop} (ht : IsTup s.heap t #[]) (hb : IsTup s.heap b ws.toArray) (h : Q (.ref b) s) : wpAny (model prog w) A (binaryOp .Add (.ref t) (.ref b)) Q E s:=by
 obtain ⟨⟨cls, dd, data, sl⟩, ho, hc, n, hd⟩:=id ht
 obtain ⟨⟨cls2, dd2, data2, sl2⟩, ho2, hc2, n2, hd2⟩:=id hb
 simp only at hc hd hc2 hd2
 subst hc hd hc2 hd2
 exact concat_meets ⟨_, ho, rfl⟩ ⟨_, ho2, rfl⟩ noFill_tuple_add seq_tuple_add PySem.F.slot_tuple_add PySem.F.entry_tuple_add (PySem.F.args_tuple_add_2 _ _)
   (tuple_addW0 t b #[] ws.toArray n n2 dd dd2 sl sl2 rfl) ⟨ho, ho2, h⟩
theorem getItem_tuple_whole {t sl : Addr} {items : Array Value} {vl vu : Value} {lo hi : Option Int} {Q : Value → Shared → Prop} (ht : IsTup s.heap t items) (hs : s.heap.IsSliceOf sl vl vu .none) (pl : IsPart vl lo) (pu : IsPart vu hi)
  (hw : sIx items.size 0 lo = 0 ∧ sIx items.size items.size hi = items.size) (h : Q (.ref t) s) : wpAny (model prog w) A (getItem (.ref t) (.ref sl)) Q E s:=by
 obtain ⟨os, hos, hcs, hds⟩:=id hs
 have hTs : s.TypeIs (.ref sl) "slice" := ⟨os, hos, hcs⟩
 unfold getItem
 try with_reducible refine wpAny_holding ?_
 first | refine wpAny_bind (wpAny_pure ?_) | skip
 refine wpAny_bind (wpAny_sequenceKey ht.typeIs (by decide) ?_)
 refine wpAny_bind (wpAny_callSpecial?_slot (name := Str.ofString "__getitem__") ht.typeIs PyProof.Rows.slot_tuple_getitem
  (wpAny_call_entry PyProof.Rows.slot_tuple_getitem ht.typeIs entry_tuple_getitem ?_ (args_tuple_getitem _ _)))
 show wpAny _ _ (Builtin.Tuple.tupleItemsOf (.ref t) >>= _) _ _ s
 refine wpAny_bind (tupleItemsOf_ ht ?_)
 refine wpAny_bind (wpAny_typeOf hTs ?_)
 rw [if_pos (by decide)]
 refine wpAny_bind (sliceApplied_gen hs pl pu ?_)
 have hyes : ((((sIx items.size 0 lo : Nat) : Int) == 0 && (1 : Int) == 1 && (sIx items.size items.size hi - sIx items.size 0 lo) == items.size) = true):=by
  rw [hw.1, hw.2]
  simp
 show wpAny _ _ (if (((sIx items.size 0 lo : Nat) : Int) == 0 && (1 : Int) == 1 && (sIx items.size items.size hi - sIx items.size 0 lo) == items.size) = true then _ else _) _ _ s
 rw [if_pos hyes]
 unfold Builtin.Tuple.tupleIsExact
 refine wpAny_bind (wpAny_bind (wpAny_typeOf ht.typeIs (wpAny_pure ?_)))
 rw [if_pos (by decide)]
 refine wpAny_bind (wpAny_rule ?_)
 first
  | exact wpAny_bind (wpAny_pure (wpAny_pure ⟨_, rfl, wpAny_pure h⟩))
  | exact wpAny_bind (wpAny_bind (wpAny_pure (wpAny_pure ⟨_, rfl, wpAny_pure h⟩)))
  | exact wpAny_pure ⟨_, rfl, wpAny_pure h⟩
end
end HT
namespace DL
open PySem PySem.Spec PyProof.Rows L2
section
variable {X : Cx} {EX : EXT}
noncomputable def addD : D → D → Sto → Out D
 | .int a, .int b, st => .ok (.int (a + b)) st
 | .str a, .str b, st => if a.length + b.length ≤ small then .ok (.str (a ++ b)) st else .bad
 | .tup xs, .tup ys, st => if xs.length + ys.length ≤ small then .ok (.tup (xs ++ ys)) st else .bad
 | _, _, _ => .bad
theorem op_addD : OpD X EX (binaryOp .Add) addD:=by
 intro pins s σ H x y v u Q I rx ry h
 obtain ⟨O, a, b, st, W, ra, rb, R⟩:=h
 cases a <;> cases b <;> first | exact R.elim | skip
 case int.int i j =>
  rw [Rep.int_i] at ra rb
  subst ra rb
  exact op_add pins s σ H _ _ v u Q I rx ry ⟨i, j, rfl, rfl, Run.now (k:=Val X.K Q) R W _ (Rep.int_i.mpr rfl)⟩
 case str.str i j =>
  rw [Rep.str_i] at ra rb
  subst ra rb
  dsimp only [addD] at R
  by_cases hz : i.length + j.length ≤ small
  ·rw [if_pos hz] at R
   exact op_add_str pins s σ H _ _ v u Q I rx ry ⟨i, j, rfl, rfl, Nat.le_trans hz small_le, Run.now (k:=Val X.K Q) R W _ (Rep.str_i.mpr rfl)⟩
  ·rw [if_neg hz] at R; exact R.elim
 case tup.tup xs ys =>
  dsimp only [addD] at R
  by_cases hz : xs.length + ys.length ≤ small
  ·rw [if_pos hz] at R
   rw [Rep.tup_i] at ra rb
   obtain ⟨a, vs, rfl, q1, r1⟩:=ra
   obtain ⟨b, ws, rfl, q2, r2⟩:=rb
   by_cases h0 : xs = []
   ·subst h0
    rw [Reps.nil_i] at r1
    subst r1
    cases rx
    cases ry
    obtain ⟨its, v1, p1, _⟩:=I.tuple (SqT.of q1)
    obtain ⟨its2, v2, p2, _⟩:=I.tuple (SqT.of q2)
    cases v1
    exact HT.cat_tup0 p1 p2 ⟨.ref b, H, I, rfl, Run.now (k:=Val X.K Q) R W _ (Rep.tup_i.mpr ⟨b, ws, rfl, q2, r2⟩)⟩
   ·refine op_catT pins s σ H _ _ v u Q I rx ry ⟨a, b, vs, ws, rfl, rfl, SqT.of q1, SqT.of q2, fun z => h0 ?_, ?_, fun z => ?_, fun z p hp => ?_⟩
    ·have:=r1.length; rw [z] at this; exact List.length_eq_zero_iff.mp this
    ·rw [← r1.length, ← r2.length]; exact Nat.le_trans hz small_le
    ·have e : ys = []:=by have:=r2.length; rw [z] at this; exact List.length_eq_zero_iff.mp this
     subst e
     rw [List.append_nil] at R
     exact Run.now (k:=Val X.K Q) R W _ (Rep.tup_i.mpr ⟨a, vs, rfl, q1, r1⟩)
    ·exact new_tup W (r1.append r2) hp R
  ·rw [if_neg hz] at R; exact R.elim
noncomputable def catL (a b : D) (st : Sto) : Out (List D):=match ownL st a, ownL st b with
 | some xs, some ys => if xs.length + ys.length ≤ small then .ok (xs ++ ys) st else .bad
 | _, _ => .bad
theorem op_catL : OpF X EX (binaryOp .Add) catL:=by
 intro pins s σ H x y v u Q I rx ry h
 obtain ⟨O, a, b, st, W, ra, rb, R⟩:=h
 unfold catL at R
 cases ea : ownL st a with
 | none => rw [ea] at R; exact R.elim
 | some xs =>
  cases eb : ownL st b with
  | none => rw [ea, eb] at R; exact R.elim
  | some ys =>
   rw [ea, eb] at R
   dsimp only at R
   by_cases hz : xs.length + ys.length ≤ small
   ·rw [if_pos hz] at R
    obtain ⟨p1, vs, rfl, q1, r1⟩:=rdO W ra ea
    obtain ⟨p2, ws, rfl, q2, r2⟩:=rdO W rb eb
    exact op_cat pins s σ H _ _ v u Q I rx ry ⟨p1, p2, vs, ws, rfl, rfl, q1, q2, by rw [← r1.length, ← r2.length]; exact Nat.le_trans hz small_le, fun p hp => Run.now (k:=New X.K Q) R W p _ (r1.append r2) hp⟩
   ·rw [if_neg hz] at R; exact R.elim
noncomputable def intOp (C : Int → Int → Bool) (g : Int → Int → Int) : D → D → Sto → Out D
 | .int a, .int b, st => if C a b = true then .ok (.int (g a b)) st else .bad
 | _, _, _ => .bad
theorem op_intOp {f : Value → Value → Sem Value} {C : Int → Int → Bool} {P : Int → Int → Prop} {g : Int → Int → Int} (h : OpR X f (rI P fun i j => .int (g i j))) (hC : ∀ i j, C i j = true → P i j) : OpD X EX f (intOp C g):=by
 intro pins s σ H x y v u Q I rx ry h'
 obtain ⟨O, a, b, st, W, ra, rb, R⟩:=h'
 cases a <;> cases b <;> first | exact R.elim | skip
 rename_i i j
 rw [Rep.int_i] at ra rb
 subst ra rb
 dsimp only [intOp] at R
 by_cases hz : C i j = true
 ·rw [if_pos hz] at R
  exact h pins s σ H _ _ v u Q I rx ry ⟨i, j, rfl, rfl, hC i j hz, Run.now (k:=Val X.K Q) R W _ (Rep.int_i.mpr rfl)⟩
 ·rw [if_neg hz] at R; exact R.elim
noncomputable def subD : D → D → Sto → Out D
 | .int a, .int b, st => .ok (.int (a - b)) st
 | _, _, _ => .bad
theorem op_subD : OpD X EX (binaryOp .Sub) subD:=by
 intro pins s σ H x y v u Q I rx ry h
 obtain ⟨O, a, b, st, W, ra, rb, R⟩:=h
 cases a <;> cases b <;> first | exact R.elim | skip
 rename_i i j
 rw [Rep.int_i] at ra rb
 subst ra rb
 exact op_sub pins s σ H _ _ v u Q I rx ry ⟨i, j, rfl, rfl, Run.now (k:=Val X.K Q) R W _ (Rep.int_i.mpr rfl)⟩
noncomputable def mulOk (i j : Int) : Bool:=(decide (-(2 ^ 64) < i) && decide (i < 2 ^ 64)) || (decide (-(2 ^ 64) < j) && decide (j < 2 ^ 64))
noncomputable def mulD : D → D → Sto → Out D:=intOp mulOk fun i j => i * j
theorem op_mulD : OpD X EX (binaryOp .Mult) mulD:=op_intOp op_mul fun i j h => by
 unfold mulOk at h
 rw [Bool.or_eq_true, Bool.and_eq_true, Bool.and_eq_true] at h
 rcases h with ⟨h1, h2⟩ | ⟨h1, h2⟩
 ·exact .inl ⟨of_decide_eq_true h1, of_decide_eq_true h2⟩
 ·exact .inr ⟨of_decide_eq_true h1, of_decide_eq_true h2⟩
noncomputable def divOk (_ j : Int) : Bool:=@decide (0 < j ∧ j < 1073741824) (Classical.propDecidable _)
noncomputable def fdivD : D → D → Sto → Out D:=intOp divOk fun i j => i / j
theorem op_fdivD : OpD X EX (binaryOp .FloorDiv) fdivD:=op_intOp op_fdiv fun i j h => @of_decide_eq_true (0 < j ∧ j < 1073741824) (Classical.propDecidable _) h
noncomputable def modD : D → D → Sto → Out D:=intOp (fun _ j => decide (0 < j)) fun i j => i % j
theorem op_modD : OpD X EX (binaryOp .Mod) modD:=op_intOp op_mod fun i j h => of_decide_eq_true h
noncomputable def depth : Nat:=50
noncomputable def eqD (a b : D) (st : Sto) : Out D:=match eqN st depth a b with
 | some k => .ok (.bl k) st
 | none => .bad
noncomputable def neD (a b : D) (st : Sto) : Out D:=match eqN st depth a b with
 | some k => .ok (.bl (!k)) st
 | none => .bad
theorem op_eqD (hu : X.A.units + 64 < cLine) : OpD X EX (compareOp .Eq) eqD:=by
 intro pins s σ H x y v u Q I rx ry h
 obtain ⟨O, a, b, st, W, ra, rb, R⟩:=h
 unfold eqD at R
 cases e : eqN st depth a b with
 | none => rw [e] at R; exact R.elim
 | some k =>
  rw [e] at R
  have h:=(eq_sound I W depth a b k e X.A x y v u ra rb rx ry (by show X.A.units + 50 < cLine; omega)).2.1
  exact h X.prog X.w X.xe _ ⟨.bl k, H, I, rfl, Run.now (k:=Val X.K Q) R W _ (Rep.bl_i.mpr rfl)⟩
theorem op_neD (hu : X.A.units + 64 < cLine) : OpD X EX (compareOp .NotEq) neD:=by
 intro pins s σ H x y v u Q I rx ry h
 obtain ⟨O, a, b, st, W, ra, rb, R⟩:=h
 unfold neD at R
 cases e : eqN st depth a b with
 | none => rw [e] at R; exact R.elim
 | some k =>
  rw [e] at R
  have h:=(eq_sound I W depth a b k e X.A x y v u ra rb rx ry (by show X.A.units + 50 < cLine; omega)).2.2
  exact h X.prog X.w X.xe _ ⟨.bl (!k), H, I, rfl, Run.now (k:=Val X.K Q) R W _ (Rep.bl_i.mpr rfl)⟩
noncomputable def cmpD (g : Int → Int → Bool) : D → D → Sto → Out D
 | .int a, .int b, st => .ok (.bl (g a b)) st
 | _, _, _ => .bad
theorem op_cmpD {f : Value → Value → Sem Value} {g : Int → Int → Bool} (h : OpR X f (rI0 fun i j => .bl (g i j))) : OpD X EX f (cmpD g):=by
 intro pins s σ H x y v u Q I rx ry h'
 obtain ⟨O, a, b, st, W, ra, rb, R⟩:=h'
 cases a <;> cases b <;> first | exact R.elim | skip
 rename_i i j
 rw [Rep.int_i] at ra rb
 subst ra rb
 exact h pins s σ H _ _ v u Q I rx ry ⟨i, j, rfl, rfl, Run.now (k:=Val X.K Q) R W _ (Rep.bl_i.mpr rfl)⟩
noncomputable def ltD:=cmpD fun i j => decide (i < j)
noncomputable def leD:=cmpD fun i j => decide (i ≤ j)
noncomputable def gtD:=cmpD fun i j => decide (j < i)
theorem op_ltD : OpD X EX (compareOp .Lt) ltD:=op_cmpD op_lt
theorem op_gtD : OpD X EX (compareOp .Gt) gtD:=op_cmpD op_gt
noncomputable def inN (st : Sto) (n : Nat) (x : D) : List D → Option Bool
 | [] => some false
 | y :: ys => match eqN st n y x, inN st n x ys with
  | some a, some b => some (a || b)
  | _, _ => none
noncomputable def itemsOf (st : Sto) : D → Option (List D)
 | .tup xs => some xs
 | d => seqL st d
noncomputable def inD (x c : D) (st : Sto) : Out D:=match itemsOf st c with
 | some ys => match inN st depth x ys with
  | some k => .ok (.bl k) st
  | none => .bad
 | none => .bad
open Classical in
theorem in_items {pins : List (Addr × Obj)} {σ : L2.St} {s : Shared} {O : List Addr} {H : Hp} {st : Sto} (I : Inv X pins σ H s) (W : WR X.K O H st) {x : D} {vx : V} {ux : Value} (rx : Rep X.K O H x vx) (qx : RelV vx ux) {A : Around} (hA : A.units + depth < cLine) :
  ∀ {ys : List D} {vs : List V} {its : List Value} {k : Bool}, inN st depth x ys = some k → Reps X.K O H ys vs → Vals vs its →
   ∃ e : Value → Bool, (∀ z, e z = decide (∃ d v, Rep X.K O H d v ∧ RelV v z ∧ eqN st depth d x = some true)) ∧ (∀ z ∈ its, SeqAt.EqAt A s z ux (e z)) ∧ its.any e = k
 | [], vs, its, k, h, r, q => by
  rw [Reps.nil_i] at r
  subst r
  cases q
  simp only [inN, Option.some.injEq] at h
  subst h
  exact ⟨fun z => decide (∃ d v, Rep X.K O H d v ∧ RelV v z ∧ eqN st depth d x = some true), fun _ => rfl, (fun z hz => (by cases hz)), rfl⟩
 | y :: ys, vs, its, k, h, r, q => by
  obtain ⟨v, vs', rfl, ry, rs⟩:=Reps.cons_i.mp r
  cases q with
  | cons q1 q2 =>
   rename_i u us
   unfold inN at h
   cases e1 : eqN st depth y x with
   | none => rw [e1] at h; cases h
   | some a =>
    cases e2 : inN st depth x ys with
    | none => rw [e1, e2] at h; cases h
    | some b =>
     rw [e1, e2] at h
     simp only [Option.some.injEq] at h
     obtain ⟨e, he, h1, h2⟩:=in_items I W rx qx hA e2 rs q2
     have hu : e u = a:=by
      rw [he u]
      cases a with
      | true => exact decide_eq_true ⟨y, v, ry, q1, e1⟩
      | false =>
       refine decide_eq_false ?_
       rintro ⟨d, v', r', q', e'⟩
       have ev : v' = v:=q'.inj q1
       subst ev
       have ed:=Rep.inj I W d y v' r' ry
       subst ed
       rw [e1] at e'
       cases e'
     refine ⟨e, he, fun z hz => ?_, ?_⟩
     ·rcases List.mem_cons.mp hz with rfl | hz
      ·rw [hu]
       exact (eq_sound I W depth y x a e1 A v vx z ux ry rx q1 qx hA).1
      ·exact h1 z hz
     ·rw [List.any_cons, hu, h2]
      exact h
theorem in_units {A : Around} (hu : A.units + 64 < cLine) : A.in1.units + depth < cLine:=by
 show A.units + 1 + 50 < cLine
 omega
theorem op_inD (hu : X.A.units + 64 < cLine) : OpD X EX (compareOp .In) inD:=by
 intro pins s σ H x y v u Q I rx ry h
 obtain ⟨O, a, b, st, W, ra, rb, R⟩:=h
 unfold inD at R
 cases e1 : itemsOf st b with
 | none => rw [e1] at R; exact R.elim
 | some ys =>
  rw [e1] at R
  dsimp only at R
  cases e2 : inN st depth a ys with
  | none => rw [e2] at R; exact R.elim
  | some k =>
   rw [e2] at R
   have fin : EP X pins σ Q (.bool k) s:=⟨.bl k, H, I, rfl, Run.now (k:=Val X.K Q) R W _ (Rep.bl_i.mpr rfl)⟩
   by_cases hb : ∃ zs, b = .tup zs
   ·obtain ⟨zs, rfl⟩:=hb
    simp only [itemsOf, Option.some.injEq] at e1
    subst e1
    rw [Rep.tup_i] at rb
    obtain ⟨p, vs, rfl, q, r⟩:=rb
    cases ry
    obtain ⟨its, hv, hp, _⟩:=I.tuple (SqT.of q)
    obtain ⟨e, _, h1, h2⟩:=in_items I W ra rx (in_units hu) e2 r hv
    exact SeqAt.in_tupleAt e hp (fun z hz => h1 z (by simpa using hz)) (by simpa [h2] using fin)
   ·have e3 : seqL st b = some ys:=by
     cases b <;> first | exact e1 | exact absurd ⟨_, rfl⟩ hb
    obtain ⟨p, vs, rfl, q, r⟩:=rdL W rb e3
    cases ry
    obtain ⟨its, hv, hp, _⟩:=I.list q
    obtain ⟨e, _, h1, h2⟩:=in_items I W ra rx (in_units hu) e2 r hv
    exact SeqAt.in_listAt e hp.isList (fun z hz => h1 z (by simpa using hz)) (by simpa [h2] using fin)
end
end DL
end
section
namespace DL
open PySem PySem.Spec PyProof.Rows L2
section
variable {X : Cx} {EX : EXT} {a b c e : Expr} {fa fb fc : DE} {pos p2 : Pos} {ta tb : DT}
noncomputable abbrev DO:=Ev → Sto → Out (Option Int)
noncomputable def tDO (K : PySem.W.Frag) (EX : EXT) (f : DO) : TO:=fun σ H Q => ∃ O ρ st, WR K O H st ∧ REnv K O H ρ σ ∧ Run K EX O H (f ρ st) (fun o _ _ H' => Q o H')
noncomputable def PDO (X : Cx) (EX : EXT) (e : Option Expr) (f : DO) : Prop:=PO X e (tDO X.K EX f)
noncomputable def dNoPart : DO:=fun _ st => .ok none st
noncomputable def asInt : D → Sto → Out (Option Int)
 | .int i, st => .ok (some i) st
 | _, _ => .bad
noncomputable def dPart (f : DE) : DO:=fun ρ st => (f ρ st).bind asInt
theorem PO.mono {e : Option Expr} {t t' : TO} (h : PO X e t) (f : ∀ σ H Q, t' σ H Q → t σ H Q) : PO X e t':=fun pins s σ H Q I q => h pins s σ H Q I (f σ H Q q)
theorem pdo_none : PDO X EX none dNoPart:=by
 refine PO.mono po_none ?_
 rintro σ H Q ⟨O, ρ, st, W, E, R⟩
 exact Run.now (k:=fun o _ _ H' => Q o H') R W
theorem pdo_some {f : DE} (h : PD X EX e f) : PDO X EX (some e) (dPart f):=by
 refine PO.mono (po_some h) ?_
 rintro σ H Q ⟨O, ρ, st, W, E, R⟩
 refine ⟨O, ρ, st, W, E, R.bind.mono fun d st1 O1 H1 k1 W1 R1 v r => ?_⟩
 cases d with
 | int i => exact ⟨i, Rep.int_i.mp r, Run.now (k:=fun o _ _ H' => Q o H') R1 W1⟩
 | _ => exact R1.elim
noncomputable def cutL {α : Type} (xs : List α) (lo hi : Option Int) : List α:=(xs.drop (HT.sIx xs.length 0 lo)).take (HT.sIx xs.length xs.length hi - HT.sIx xs.length 0 lo)
theorem Reps.cut {K : PySem.W.Frag} {O : List Addr} {H : Hp} {ds : List D} {vs : List V} (r : Reps K O H ds vs) (lo hi : Option Int) : Reps K O H (cutL ds lo hi) (cutV vs lo hi):=by
 unfold cutL cutV
 rw [r.length]
 exact (r.drop _).take _
noncomputable def rDS (K : PySem.W.Frag) (EX : EXT) (g : D → Option Int → Option Int → Sto → Out D) : V → Option Int → Option Int → Hp → VK → Prop:=fun x lo hi H Q => ∃ O d st, WR K O H st ∧ Rep K O H d x ∧ Run K EX O H (g d lo hi st) (Val K Q)
noncomputable def rDSF (K : PySem.W.Frag) (EX : EXT) (g : D → Option Int → Option Int → Sto → Out (List D)) : V → Option Int → Option Int → Hp → VK → Prop:=fun x lo hi H Q => ∃ O d st, WR K O H st ∧ Rep K O H d x ∧ Run K EX O H (g d lo hi st) (New K Q)
noncomputable def dSl {α : Type} (g : D → Option Int → Option Int → Sto → Out α) (f : DE) (l h : DO) : Ev → Sto → Out α:=fun ρ st => (f ρ st).bind fun x st1 => (l ρ st1).bind fun lo st2 => (h ρ st2).bind fun hi st3 => g x lo hi st3
theorem pd_slice {g : D → Option Int → Option Int → Sto → Out D} {lo hi : Option Expr} {fl fh : DO} (hr : SlR X (rDS X.K EX g)) (he : PD X EX e fa) (hl : PDO X EX lo fl) (hh : PDO X EX hi fh) : PD X EX (.Subscript e (.Slice lo hi none p2) pos) (dSl g fa fl fh):=by
 refine PE.mono (pe_slice hr he hl hh) ?_
 rintro σ H Q ⟨O, ρ, st, W, E, R⟩
 refine ⟨O, ρ, st, W, E, R.bind.mono fun x st1 O1 H1 k1 W1 R1 v r => ?_⟩
 refine ⟨O1, ρ, st1, W1, E.mono k1, R1.bind.mono fun lo st2 O2 H2 k2 W2 R2 => ?_⟩
 refine ⟨O2, ρ, st2, W2, E.mono (k1.trans k2), R2.bind.mono fun hi st3 O3 H3 k3 W3 R3 => ?_⟩
 exact ⟨O3, x, st3, W3, Rep.mono (k2.trans k3) x v r, R3⟩
theorem pdf_slice {g : D → Option Int → Option Int → Sto → Out (List D)} {lo hi : Option Expr} {fl fh : DO} (hr : SlR X (rDSF X.K EX g)) (he : PD X EX e fa) (hl : PDO X EX lo fl) (hh : PDO X EX hi fh) : PDF X EX (.Subscript e (.Slice lo hi none p2) pos) (dSl g fa fl fh):=by
 refine PE.mono (pe_slice hr he hl hh) ?_
 rintro σ H Q ⟨O, ρ, st, W, E, R⟩
 refine ⟨O, ρ, st, W, E, R.bind.mono fun x st1 O1 H1 k1 W1 R1 v r => ?_⟩
 refine ⟨O1, ρ, st1, W1, E.mono k1, R1.bind.mono fun lo st2 O2 H2 k2 W2 R2 => ?_⟩
 refine ⟨O2, ρ, st2, W2, E.mono (k1.trans k2), R2.bind.mono fun hi st3 O3 H3 k3 W3 R3 => ?_⟩
 exact ⟨O3, x, st3, W3, Rep.mono (k2.trans k3) x v r, R3⟩
noncomputable def cutT : D → Option Int → Option Int → Sto → Out D
 | .tup xs, lo, hi, st => .ok (.tup (cutL xs lo hi)) st
 | _, _, _, _ => .bad
theorem sl_T : SlR X (rDS X.K EX cutT):=by
 intro pins s σ H x v vl vu lo hi sl Q I rx hs pl pu h
 obtain ⟨O, d, st, W, r, R⟩:=h
 cases d with
 | tup xs =>
  rw [Rep.tup_i] at r
  obtain ⟨a, vs, rfl, q, rs⟩:=r
  by_cases hw : HT.sIx vs.length 0 lo = 0 ∧ HT.sIx vs.length vs.length hi = vs.length
  ·cases rx
   obtain ⟨its, hv, ht, hz⟩:=I.tuple (SqT.of q)
   have hlen : its.toArray.size = vs.length:=by rw [List.size_toArray]; exact hv.length.symm
   refine ⟨"tuple", _, PyProof.Rows.slot_tuple_getitem.lookup, ht.typeIs, HT.getItem_tuple_whole ht hs pl pu (by rw [hlen]; exact hw) ?_⟩
   have e : cutL xs lo hi = xs:=by
    unfold cutL
    rw [rs.length, hw.1, hw.2, List.drop_zero, Nat.sub_zero, ← rs.length, List.take_length]
   refine ⟨.ref a, H, I, rfl, ?_⟩
   dsimp only [cutT] at R
   rw [e] at R
   exact Run.now (k:=Val X.K Q) R W _ (Rep.tup_i.mpr ⟨a, vs, rfl, q, rs⟩)
  ·exact sl_tup pins s σ H _ v vl vu lo hi sl Q I rx hs pl pu ⟨a, vs, rfl, SqT.of q, hw, fun p hp => new_tup W (rs.cut lo hi) hp R⟩
 | _ => exact R.elim
noncomputable def cutF (d : D) (lo hi : Option Int) (st : Sto) : Out (List D):=match seqL st d with
 | some xs => .ok (cutL xs lo hi) st
 | none => .bad
theorem sl_F : SlR X (rDSF X.K EX cutF):=by
 intro pins s σ H x v vl vu lo hi sl Q I rx hs pl pu h
 obtain ⟨O, d, st, W, r, R⟩:=h
 unfold cutF at R
 cases e : seqL st d with
 | none => rw [e] at R; exact R.elim
 | some xs =>
  rw [e] at R
  obtain ⟨a, vs, rfl, q, rs⟩:=rdL W r e
  exact sl_list pins s σ H _ v vl vu lo hi sl Q I rx hs pl pu ⟨a, vs, rfl, q, fun p hp => Run.now (k:=New X.K Q) R W p _ (rs.cut lo hi) hp⟩
noncomputable def ixD (d : D) (i : D) (st : Sto) : Out D:=match i with
 | .int k => match d with
  | .str z => if z.length ≤ small then (match atI z.cps.toList k with
   | some c => .ok (.str ⟨#[c]⟩) st
   | none => .bad) else .bad
  | _ => match itemsOf st d with
   | some xs => match atI xs k with
    | some x => .ok x st
    | none => .bad
   | none => .bad
 | _ => .bad
theorem Reps.atI {K : PySem.W.Frag} {O : List Addr} {H : Hp} {ds : List D} {vs : List V} {k : Int} {d : D} (r : Reps K O H ds vs) (h : L2.atI ds k = some d) : ∃ v, L2.atI vs k = some v ∧ Rep K O H d v:=by
 unfold L2.atI at h ⊢
 rw [← r.length]
 cases e : ixN ds.length k with
 | none => rw [e] at h; cases h
 | some j =>
  rw [e] at h
  obtain ⟨v, h1, h2⟩:=r.get (i:=j) (d:=d) h
  exact ⟨v, h1, h2⟩
theorem ix_D : IxR X (rD2 X.K EX ixD):=by
 intro value slice pins s σ H x y v u Q I rx ry h hsub
 obtain ⟨O, d, i, st, W, rd, ri, R⟩:=h
 cases i with
 | int k =>
  rw [Rep.int_i] at ri
  subst ri
  have seq : ∀ xs, itemsOf st d = some xs → Run X.K EX O H (match L2.atI xs k with
    | some x => .ok x st
    | none => .bad) (Val X.K Q) → wpAny (model X.prog X.w) X.A (subscriptTail value slice v u) (EP X pins σ Q) X.xe s:=by
   intro xs e1 R'
   clear R
   cases e2 : L2.atI xs k with
   | none => rw [e2] at R'; exact R'.elim
   | some z =>
    rw [e2] at R'
    by_cases hb : ∃ zs, d = .tup zs
    ·obtain ⟨zs, rfl⟩:=hb
     simp only [itemsOf, Option.some.injEq] at e1
     subst e1
     rw [Rep.tup_i] at rd
     obtain ⟨p, vs, rfl, q, r⟩:=rd
     obtain ⟨w, h1, h2⟩:=r.atI e2
     exact ix_tup value slice pins s σ H _ _ v u Q I rx ry ⟨p, vs, k, w, rfl, rfl, SqT.of q, h1, Run.now (k:=Val X.K Q) R' W _ h2⟩ hsub
    ·have e3 : seqL st d = some xs:=by
      cases d <;> first | exact e1 | exact absurd ⟨_, rfl⟩ hb
     obtain ⟨p, vs, rfl, q, r⟩:=rdL W rd e3
     obtain ⟨w, h1, h2⟩:=r.atI e2
     exact ix_list value slice pins s σ H _ _ v u Q I rx ry ⟨p, vs, k, w, rfl, rfl, q, h1, Run.now (k:=Val X.K Q) R' W _ h2⟩ hsub
  cases d with
  | str z =>
   rw [Rep.str_i] at rd
   subst rd
   dsimp only [ixD] at R
   by_cases hz : z.length ≤ small
   ·rw [if_pos hz] at R
    cases e : L2.atI z.cps.toList k with
    | none => rw [e] at R; exact R.elim
    | some c =>
     rw [e] at R
     exact ix_str value slice pins s σ H _ _ v u Q I rx ry ⟨z, k, c, rfl, rfl, Nat.le_trans hz small_le, e, Run.now (k:=Val X.K Q) R W _ (Rep.str_i.mpr rfl)⟩ hsub
   ·rw [if_neg hz] at R; exact R.elim
  | tup xs => exact seq xs rfl R
  | lst xs => exact seq xs rfl R
  | scr xs => exact seq xs rfl R
  | res j =>
   dsimp only [ixD] at R
   cases e : itemsOf st (.res j) with
   | none => rw [e] at R; exact R.elim
   | some xs => rw [e] at R; exact seq xs e R
  | _ => exact R.elim
 | _ => exact R.elim
theorem pd_ix (ha : PD X EX a fa) (hb : PD X EX b fb) (hs : PlainIx b:=by intro _ _; rfl) : PD X EX (.Subscript a b pos) (dBin ixD fa fb):=PE.mono (pe_ix ix_D ha hb hs) bin_imp
noncomputable def dCall {α : Type} (g : List D → Sto → Out α) (f : DA) : Ev → Sto → Out α:=fun ρ st => (f ρ st).bind g
theorem call_imp {g : List D → Sto → Out D} {f : DA} : ∀ σ H Q, tD X.K EX (dCall g f) σ H Q → tCB (rDC X.K EX g) (tDA X.K EX f) σ H Q:=by
 rintro σ H Q ⟨O, ρ, st, W, E, R⟩
 exact ⟨O, ρ, st, W, E, R.bind.mono fun ds st1 O1 H1 k1 W1 R1 vs r => ⟨O1, ds, st1, W1, r, R1⟩⟩
theorem callF_imp {g : List D → Sto → Out (List D)} {f : DA} : ∀ σ H Q, tDF X.K EX (dCall g f) σ H Q → tCB (rDCF X.K EX g) (tDA X.K EX f) σ H Q:=by
 rintro σ H Q ⟨O, ρ, st, W, E, R⟩
 exact ⟨O, ρ, st, W, E, R.bind.mono fun ds st1 O1 H1 k1 W1 R1 vs r => ⟨O1, ds, st1, W1, r, R1⟩⟩
theorem pd_callB {x : Str} {p : Pos} {es : List Expr} {id : String} {g : List D → Sto → Out D} {f : DA} (hc : CallD X EX (.builtin id) g) (hg : Gl X x) (hm : X.mg x = none) (hv : bootBuiltins x = some (.builtin id)) (ha : PDA X EX (e :: es) f) (hn : x ≠ "__name__" := by decide) (hdb : (x == ("__debug__" : Str)) = false := by decide)
  (he : starEach (e :: es) X.env = (false, eval e X.env) :: starEach es X.env:=by rfl) (hpl : (backTo pos (starEach es X.env)).any (·.1) = false:=by rfl) : PD X EX (.Call (.Name x p) (e :: es) [] pos) (dCall g f):=PE.mono (pe_callB hc hg hm hv ha hn hdb he hpl) call_imp
theorem pd_callTy {x : Str} {p : Pos} {es : List Expr} {T : String} {g : List D → Sto → Out D} {f : DA} (hc : CallD X EX (.type T) g) (hg : Gl X x) (hm : X.mg x = none) (hv : bootBuiltins x = some (.type T)) (ha : PDA X EX (e :: es) f) (hn : x ≠ "__name__" := by decide) (hdb : (x == ("__debug__" : Str)) = false := by decide)
  (he : starEach (e :: es) X.env = (false, eval e X.env) :: starEach es X.env:=by rfl) (hpl : (backTo pos (starEach es X.env)).any (·.1) = false:=by rfl) : PD X EX (.Call (.Name x p) (e :: es) [] pos) (dCall g f):=PE.mono (pe_callTy hc hg hm hv ha hn hdb he hpl) call_imp
theorem pdf_callTy {x : Str} {p : Pos} {es : List Expr} {T : String} {g : List D → Sto → Out (List D)} {f : DA} (hc : CallF X EX (.type T) g) (hg : Gl X x) (hm : X.mg x = none) (hv : bootBuiltins x = some (.type T)) (ha : PDA X EX (e :: es) f) (hn : x ≠ "__name__" := by decide) (hdb : (x == ("__debug__" : Str)) = false := by decide)
  (he : starEach (e :: es) X.env = (false, eval e X.env) :: starEach es X.env:=by rfl) (hpl : (backTo pos (starEach es X.env)).any (·.1) = false:=by rfl) : PDF X EX (.Call (.Name x p) (e :: es) [] pos) (dCall g f):=PE.mono (pe_callTy hc hg hm hv ha hn hdb he hpl) callF_imp
noncomputable def lenD : List D → Sto → Out D
 | [.str x], st => if x.length ≤ small then .ok (.int x.length) st else .bad
 | [d], st => match itemsOf st d with
  | some xs => .ok (.int xs.length) st
  | none => .bad
 | _, _ => .bad
theorem itemsOf_rd {O : List Addr} {H : Hp} {st : Sto} (W : WR X.K O H st) {d : D} {v : V} {xs : List D} (r : Rep X.K O H d v) (e : itemsOf st d = some xs) : ∃ p vs, v = .ref p ∧ (SqL X.K H p vs ∨ H p = some (.tup vs)) ∧ Reps X.K O H xs vs:=by
 by_cases hb : ∃ zs, d = .tup zs
 ·obtain ⟨zs, rfl⟩:=hb
  simp only [itemsOf, Option.some.injEq] at e
  subst e
  rw [Rep.tup_i] at r
  obtain ⟨p, vs, rfl, q, r⟩:=r
  exact ⟨p, vs, rfl, .inr q, r⟩
 ·have e3 : seqL st d = some xs:=by
   cases d <;> first | exact e | exact absurd ⟨_, rfl⟩ hb
  obtain ⟨p, vs, rfl, q, r⟩:=rdL W r e3
  exact ⟨p, vs, rfl, .inl q, r⟩
theorem Reps.one_of {K : PySem.W.Frag} {O : List Addr} {H : Hp} {d : D} {vs : List V} (h : Reps K O H [d] vs) : ∃ v, vs = [v] ∧ Rep K O H d v:=by
 obtain ⟨v, r, rfl, q, t⟩:=Reps.cons_i.mp h
 rw [Reps.nil_i] at t
 subst t
 exact ⟨v, rfl, q⟩
theorem Reps.two_of {K : PySem.W.Frag} {O : List Addr} {H : Hp} {d e : D} {vs : List V} (h : Reps K O H [d, e] vs) : ∃ v w, vs = [v, w] ∧ Rep K O H d v ∧ Rep K O H e w:=by
 obtain ⟨v, r, rfl, q, t⟩:=Reps.cons_i.mp h
 obtain ⟨w, rfl, q2⟩:=t.one_of
 exact ⟨v, w, rfl, q, q2⟩
theorem call_lenD : CallD X EX (.builtin "len") lenD := by
 intro pins s σ H xs us Q I rx h
 obtain ⟨O, ds, st, W, r, R⟩:=h
 match ds, r, R with
 | [], _, R => exact R.elim
 | [d], r, R =>
  obtain ⟨v, rfl, rv⟩:=r.one_of
  have seq : ∀ zs, itemsOf st d = some zs → Run X.K EX O H (.ok (.int zs.length) st) (Val X.K Q) → wpAny (model X.prog X.w) X.A (PySem.call (.builtin "len") us) (EP X pins σ Q) X.xe s := by
   intro zs e R
   obtain ⟨p, vs, rfl, q, rs⟩:=itemsOf_rd W rv e
   exact call_len_seq pins s σ H _ us Q I rx ⟨p, vs, rfl, q.imp_right SqT.of, by rw [← rs.length]; exact Run.now (k:=Val X.K Q) R W _ (Rep.int_i.mpr rfl)⟩
  cases d with
  | str x =>
   rw [Rep.str_i] at rv
   subst rv
   dsimp only [lenD] at R
   by_cases hz : x.length ≤ small
   ·rw [if_pos hz] at R
    exact call_len_str pins s σ H _ us Q I rx ⟨x, rfl, Nat.le_trans hz small_le, Run.now (k:=Val X.K Q) R W _ (Rep.int_i.mpr rfl)⟩
   ·rw [if_neg hz] at R; exact R.elim
  | tup zs => exact seq zs rfl R
  | lst zs => exact seq zs rfl R
  | scr zs => exact seq zs rfl R
  | res j =>
   dsimp only [lenD] at R
   cases e : itemsOf st (.res j) with
   | none => rw [e] at R; exact R.elim
   | some xs => rw [e] at R; exact seq xs e R
  | _ => exact R.elim
 | d1 :: _ :: _, _, R => cases d1 <;> exact R.elim
noncomputable def tupleD : List D → Sto → Out D
 | [d], st => match itemsOf st d with
  | some xs => .ok (.tup xs) st
  | none => .bad
 | _, _ => .bad
theorem call_tupleD : CallD X EX (.type "tuple") tupleD := by
 intro pins s σ H xs us Q I rx h
 obtain ⟨O, ds, st, W, r, R⟩:=h
 match ds, r, R with
 | [], _, R => exact R.elim
 | [d], r, R =>
  obtain ⟨v, rfl, rv⟩:=r.one_of
  dsimp only [tupleD] at R
  cases e : itemsOf st d with
  | none => rw [e] at R; exact R.elim
  | some zs =>
   rw [e] at R
   obtain ⟨p, vs, rfl, q, rs⟩:=itemsOf_rd W rv e
   rcases q with q | q
   ·exact call_tuple_of pins s σ H _ us Q I rx ⟨p, vs, rfl, .inl ⟨q, fun l hl => new_tup W rs hl R⟩⟩
   ·exact call_tuple_of pins s σ H _ us Q I rx ⟨p, vs, rfl, .inr ⟨SqT.of q, Run.now (k:=Val X.K Q) R W _ (Rep.tup_i.mpr ⟨p, vs, rfl, q, rs⟩)⟩⟩
 | _ :: _ :: _, _, R => exact R.elim
noncomputable def max2D : List D → Sto → Out D
 | [.int i, .int j], st => .ok (.int (if j > i then j else i)) st
 | _, _ => .bad
noncomputable def intD : List D → Sto → Out D
 | [.int i], st => .ok (.int i) st
 | [.bl k], st => .ok (.int (if k then 1 else 0)) st
 | _, _ => .bad
theorem call_max2D (hc : X.calm = true) : CallD X EX (.builtin "max") max2D := by
 intro pins s σ H xs us Q I rx h
 obtain ⟨O, ds, st, W, r, R⟩:=h
 unfold max2D at R
 split at R
 ·obtain ⟨v, w, rfl, r1, r2⟩:=r.two_of
  rw [Rep.int_i] at r1 r2
  subst r1 r2
  exact call_max2 hc pins s σ H _ us Q I rx ⟨_, _, rfl, Run.now (k:=Val X.K Q) R W _ (Rep.int_i.mpr rfl)⟩
 ·exact R.elim
theorem call_intD : CallD X EX (.type "int") intD := by
 intro pins s σ H xs us Q I rx h
 obtain ⟨O, ds, st, W, r, R⟩:=h
 unfold intD at R
 split at R
 ·obtain ⟨v, rfl, r1⟩:=r.one_of
  rw [Rep.int_i] at r1
  subst r1
  exact call_int1 pins s σ H _ us Q I rx (.inl ⟨_, rfl, Run.now (k:=Val X.K Q) R W _ (Rep.int_i.mpr rfl)⟩)
 ·obtain ⟨v, rfl, r1⟩:=r.one_of
  rw [Rep.bl_i] at r1
  subst r1
  exact call_int1 pins s σ H _ us Q I rx (.inr ⟨_, rfl, Run.now (k:=Val X.K Q) R W _ (Rep.int_i.mpr rfl)⟩)
 ·exact R.elim
end
end DL
end
section
namespace DL
open PySem PySem.Spec PyProof.Rows L2
noncomputable abbrev FD:=List D → Sto → Out D
noncomputable def spD (K : PySem.W.Frag) (F : FD) : Sp:=fun vs H Q E => ∃ O ds st, WR K O H st ∧ Reps K O H ds vs ∧ Run K (fun c _ _ H' => E (.ref c) Option.none H') O H (F ds st) (Val K Q)
noncomputable def eOf (EX : EXT) : XK:=fun Cv _ H' => ∃ c st O', Cv = .ref c ∧ EX c st O' H'
noncomputable abbrev XeOk (CX : CXT) (X : Cx) (EX : EXT) : Prop:=Passes CX X (eOf EX)
theorem xe0 {X : Cx} {EX : EXT} : XeOk CX0 X EX:=fun _ _ _ _ _ _ _ h => h.elim
theorem Run.ex {K : PySem.W.Frag} {EX EX' : EXT} {α : Type} {O : List Addr} {H : Hp} {r : Out α} {k : α → Sto → List Addr → Hp → Prop} (h : Run K EX O H r k) (f : ∀ c st O' H', EX c st O' H' → EX' c st O' H') : Run K EX' O H r k:=by
 cases r with
 | ok a st => exact h
 | exc c st => exact fun O' H' kp W => f _ _ _ _ (h O' H' kp W)
 | bad => exact h
theorem Run.eOf {K : PySem.W.Frag} {EX : EXT} {α : Type} {O : List Addr} {H : Hp} {r : Out α} {k : α → Sto → List Addr → Hp → Prop} (h : Run K EX O H r k) : Run K (fun c _ _ H' => eOf EX (.ref c) Option.none H') O H r k :=
 h.ex fun c st O' H' z => ⟨c, st, O', rfl, z⟩
theorem Flds.look {K : PySem.W.Frag} {O : List Addr} {H : Hp} {f : Str} : ∀ {ds : List (Str × D)} {vs : List (Str × V)}, Flds K O H ds vs →
  (ds.lookup f = none → vs.lookup f = none) ∧ ∀ d, ds.lookup f = some d → ∃ v, vs.lookup f = some v ∧ Rep K O H d v
 | [], vs, h => by
  unfold Flds at h
  subst h
  exact ⟨fun _ => rfl, fun d e => by cases e⟩
 | (x, d) :: ds, vs, h => by
  unfold Flds at h
  obtain ⟨v, r, rfl, q, t⟩:=h
  obtain ⟨h1, h2⟩:=Flds.look (f:=f) t
  simp only [List.lookup_cons]
  cases hx : f == x with
  | true => exact ⟨fun e => (by cases e), fun d' e => ⟨v, rfl, by cases e; exact q⟩⟩
  | false => exact ⟨h1, h2⟩
noncomputable def putFD (f : Str) (d : D) : List (Str × D) → List (Str × D)
 | [] => [(f, d)]
 | (g, x) :: r => if g = f then (g, d) :: r else (g, x) :: putFD f d r
theorem Flds.put {K : PySem.W.Frag} {O : List Addr} {H : Hp} {f : Str} {d : D} {v : V} (q : Rep K O H d v) : ∀ {ds : List (Str × D)} {vs : List (Str × V)}, Flds K O H ds vs → Flds K O H (putFD f d ds) (putF f v vs)
 | [], vs, h => by
  unfold Flds at h
  subst h
  show Flds K O H [(f, d)] [(f, v)]
  unfold Flds
  exact ⟨v, [], rfl, q, by unfold Flds; rfl⟩
 | (x, e) :: ds, vs, h => by
  unfold Flds at h
  obtain ⟨u, r, rfl, q', t⟩:=h
  unfold putFD putF
  by_cases hx : x = f
  ·rw [if_pos hx, if_pos hx]
   unfold Flds
   exact ⟨v, r, rfl, q, t⟩
  ·rw [if_neg hx, if_neg hx]
   unfold Flds
   exact ⟨u, putF f v r, rfl, q', Flds.put q t⟩
theorem Flds.length {K : PySem.W.Frag} {O : List Addr} {H : Hp} : ∀ {ds : List (Str × D)} {vs : List (Str × V)}, Flds K O H ds vs → ds.length = vs.length
 | [], vs, h => by unfold Flds at h; subst h; rfl
 | (x, e) :: ds, vs, h => by
  unfold Flds at h
  obtain ⟨u, r, rfl, q', t⟩:=h
  rw [List.length_cons, List.length_cons, Flds.length t]
noncomputable def insAt (C : Addr) (st : Sto) : D → Option (Nat × List (Str × D))
 | .res i => match st[i]? with
  | some (.ins C' fs) => if C' = C then some (i, fs) else none
  | _ => none
 | _ => none
theorem insAt_rd {K : PySem.W.Frag} {O : List Addr} {H : Hp} {st : Sto} (W : WR K O H st) {C : Addr} {d : D} {v : V} {i : Nat} {fs : List (Str × D)} (r : Rep K O H d v) (e : insAt C st d = some (i, fs)) :
  d = .res i ∧ ∃ a dx vfs, v = .ref a ∧ O[i]? = some a ∧ H a = some (.ins C dx vfs) ∧ Flds K O H fs vfs:=by
 cases d with
 | res j =>
  dsimp only [insAt] at e
  cases hs : st[j]? with
  | none => rw [hs] at e; cases e
  | some s =>
   rw [hs] at e
   cases s with
   | lst xs => cases e
   | dct kvs => cases e
   | dtt kvs => cases e
   | fdc kvs => cases e
   | ins C' fs' =>
    dsimp only at e
    by_cases hC : C' = C
    ·rw [if_pos hC] at e
     cases e
     subst hC
     rw [Rep.res_i] at r
     obtain ⟨a, rfl, q⟩:=r
     obtain ⟨dx, vfs, h1, h2⟩:=W.at_ _ _ _ q hs
     exact ⟨rfl, a, dx, vfs, rfl, q, h1, h2⟩
    ·rw [if_neg hC] at e; cases e
 | _ => cases e
section
variable {X : Cx} {EX : EXT} {a b c e o : Expr} {fa fb fc fo : DE} {pos p apos : Pos} {ta tb : DT} {CX : CXT} {k : Nat} {f C : Addr} {fd : FuncData} {ps : List Str} {n : Nat} {F : FD} {x m : Str} {es : List Expr} {g : DA}
theorem pd_call (G : FnOk X.prog X.w X.K X.mg X.base CX k f fd ps (spD X.K F)) (hr : Room k X.A) (hg : Gl X x) (hm : X.mg x = some (.ref f)) (hk : PySem.W.keepIn X.K (.ref f) = true) (hb : Binds X.K fd ps []) (hx : XeOk CX X EX) (ha : PDA X EX (e :: es) g)
  (hdb : (x == ("__debug__" : Str)) = false := by decide) (he : starEach (e :: es) X.env = (false, eval e X.env) :: starEach es X.env := by rfl) (hpl : (backTo pos (starEach es X.env)).any (·.1) = false := by rfl) :
  PD X EX (.Call (.Name x p) (e :: es) [] pos) (dCall F g):=by
 refine PE.mono (pe_call G hr hg hm hk hb .nil hx ha hdb he hpl) ?_
 rintro σ H Q ⟨O, ρ, st, W, E, R⟩
 refine ⟨O, ρ, st, W, E, R.bind.mono fun ds st1 O1 H1 k1 W1 R2 vs r => ?_⟩
 dsimp only
 rw [List.append_nil]
 exact ⟨O1, ds, st1, W1, r, R2.eOf⟩
noncomputable def dMeth (C : Addr) (m : Str) (F : FD) (fo : DE) (g : DA) : DE:=fun ρ st => (fo ρ st).bind fun d st1 => match insAt C st1 d with
 | some (_, fs) => if fs.lookup m = none then (g ρ st1).bind fun ds st2 => F (d :: ds) st2 else .bad
 | none => .bad
theorem meth_imp {g : DA} : ∀ σ H Q, tD X.K EX (dMeth C m F fo g) σ H Q → tMeth C m (spD X.K F) [] (eOf EX) (tD X.K EX fo) (tDA X.K EX g) σ H Q:=by
 rintro σ H Q ⟨O, ρ, st, W, E, R⟩
 refine ⟨O, ρ, st, W, E, R.bind.mono fun d st1 O1 H1 k1 W1 R1 v r => ?_⟩
 cases e : insAt C st1 d with
 | none => rw [e] at R1; exact R1.elim
 | some q =>
  obtain ⟨i, fs⟩:=q
  rw [e] at R1
  dsimp only at R1
  obtain ⟨rfl, a, dx, vfs, rfl, ho, hH, hf⟩:=insAt_rd W1 r e
  by_cases hm : fs.lookup m = none
  ·rw [if_pos hm] at R1
   refine ⟨a, dx, vfs, rfl, hH, hf.look.1 hm, O1, ρ, st1, W1, E.mono k1, R1.bind.mono fun ds st2 O2 H2 k2 W2 R2 vs rs => ?_⟩
   dsimp only
   rw [List.append_nil]
   exact ⟨O2, _, st2, W2, Reps.cons_i.mpr ⟨_, vs, rfl, Rep.mono k2 _ _ r, rs⟩, R2.eOf⟩
  ·rw [if_neg hm] at R1; exact R1.elim
theorem pd_meth {pl : Sem Bool} (he : PD X EX o fo) (c : Cls X.K C) (hm : Meth X.K C m f) (G : FnOk X.prog X.w X.K X.mg X.base CX k f fd ps (spD X.K F)) (hr : Room k X.A) (hb : Binds X.K fd ps []) (hx : XeOk CX X EX) (ha : PDA X EX (e :: es) g)
  (hst : starEach (e :: es) X.env = (false, eval e X.env) :: starEach es X.env:=by rfl) (hpl : (backTo pos (starEach es X.env)).any (·.1) = false:=by rfl)
  (ht : eval (.Call (.Attribute o m apos) (e :: es) [] pos) X.env = (do
   let ov ← eval o X.env
   standAt apos.atName
   let (f, first) ← holding [ov] (getMethod ov m pl)
   callWith pos f first (backTo pos (starEach (e :: es) X.env)) (backToKw pos (keywordEach [] X.env))):=by rfl) :
  PD X EX (.Call (.Attribute o m apos) (e :: es) [] pos) (dMeth C m F fo g):=PE.mono (pe_meth he c hm G hr hb .nil hx ha hst hpl ht) meth_imp
theorem pd_meth0 {pl : Sem Bool} (he : PD X EX o fo) (c : Cls X.K C) (hm : Meth X.K C m f) (G : FnOk X.prog X.w X.K X.mg X.base CX k f fd ps (spD X.K F)) (hr : Room k X.A) (hb : Binds X.K fd ps []) (hx : XeOk CX X EX)
  (ht : eval (.Call (.Attribute o m apos) [] [] pos) X.env = (do
   let ov ← eval o X.env
   standAt apos.atName
   let (f, first) ← holding [ov] (getMethod ov m pl)
   callWith pos f first (backTo pos (starEach [] X.env)) (backToKw pos (keywordEach [] X.env))):=by rfl) :
  PD X EX (.Call (.Attribute o m apos) [] [] pos) (dMeth C m F fo dNil):=by
 refine PE.mono (pe_meth0 he c hm G hr hb .nil hx ht) fun σ H Q h => ?_
 obtain ⟨O, ρ, st, W, E, R⟩:=meth_imp (X:=X) (EX:=EX) σ H Q h
 refine ⟨O, ρ, st, W, E, R.mono fun d st1 O1 H1 k1 W1 R1 v r => ?_⟩
 obtain ⟨a, dx, fs, h1, h2, h3, O2, ρ2, st2, W2, E2, R2⟩:=R1 v r
 exact ⟨a, dx, fs, h1, h2, h3, Run.now (k:=Vls X.K _) R2 W2 _ (Reps.nil_i.mpr rfl)⟩
noncomputable def dFld (C : Addr) (x : Str) (fo : DE) : DE:=fun ρ st => (fo ρ st).bind fun d st1 => match insAt C st1 d with
 | some (_, fs) => match fs.lookup x with
  | some v => .ok v st1
  | none => .bad
 | none => .bad
theorem pd_fld (he : PD X EX e fo) (c : Cls X.K C) (na : NoAttr X.K C x) (hb : attributeBase e x X.env (eval e X.env) = eval e X.env:=by rfl) : PD X EX (.Attribute e x pos) (dFld C x fo):=by
 refine PE.mono (pe_fld he hb) ?_
 rintro σ H Q ⟨O, ρ, st, W, E, R⟩
 refine ⟨O, ρ, st, W, E, R.bind.mono fun d st1 O1 H1 k1 W1 R1 v r => ?_⟩
 cases e : insAt C st1 d with
 | none => rw [e] at R1; exact R1.elim
 | some q =>
  obtain ⟨i, fs⟩:=q
  rw [e] at R1
  dsimp only at R1
  obtain ⟨rfl, a, dx, vfs, rfl, ho, hH, hf⟩:=insAt_rd W1 r e
  cases hl : fs.lookup x with
  | none => rw [hl] at R1; exact R1.elim
  | some w =>
   rw [hl] at R1
   obtain ⟨u, h1, h2⟩:=hf.look.2 w hl
   exact ⟨a, C, dx, vfs, u, rfl, hH, c, na, h1, Run.now (k:=Val X.K Q) R1 W1 _ h2⟩
noncomputable def asNon : D → Sto → Out Unit
 | .non, st => .ok () st
 | _, _ => .bad
noncomputable def dMake (C : Addr) (F : FD) (g : DA) : DE:=fun ρ st => (g ρ st).bind fun ds st1 => (F (.res st1.length :: ds) (st1 ++ [.ins C []])).bind fun d st2 => (asNon d st2).bind fun _ st3 => .ok (.res st1.length) st3
theorem make_imp {g : DA} : ∀ σ H Q, tD X.K EX (dMake C F g) σ H Q → tMake C (spD X.K F) [] (eOf EX) (tDA X.K EX g) σ H Q:=by
 rintro σ H Q ⟨O, ρ, st, W, E, R⟩
 refine ⟨O, ρ, st, W, E, R.bind.mono fun ds st1 O1 H1 k1 W1 R1 vs rs => ?_⟩
 intro y dy hy hdy hne
 rw [List.append_nil]
 have hy' : (upd H1 dy (.own y)) y = none:=by rw [upd_ne (Ne.symm hne)]; exact hy
 have kk : Keep X.K O1 H1 (O1 ++ [y]) (upd (upd H1 dy (.own y)) y (.ins C dy [])):=(Keep.laid hdy).trans (Keep.push hy')
 have WW : WR X.K (O1 ++ [y]) (upd (upd H1 dy (.own y)) y (.ins C dy [])) (st1 ++ [.ins C []]):=(W1.laid hdy).push' hy' ⟨dy, [], upd_same, by unfold Flds; rfl⟩
 refine ⟨O1 ++ [y], .res st1.length :: ds, st1 ++ [.ins C []], WW, Reps.cons_i.mpr ⟨.ref y, vs, rfl, rep_last W1.len, Reps.mono kk _ _ rs⟩, ?_⟩
 refine Run.eOf ?_
 refine (Run.later R1 kk).bind.mono fun d st2 O2 H2 k2 W2 R2 v r => ?_
 cases d with
 | non => exact ⟨Rep.non_i.mp r, Run.now (k:=Val X.K Q) R2 W2 _ (Rep.mono k2 _ _ (rep_last W1.len))⟩
 | _ => exact R2.elim
theorem pd_make {fI : Addr} (M : Mk X.K C fI) (G : FnOk X.prog X.w X.K X.mg X.base CX k fI fd ps (spD X.K F)) (hr : Room (k + 1) X.A) (hg : Gl X x) (hm : X.mg x = some (.ref C)) (hb : Binds X.K fd ps []) (hx : XeOk CX X EX)
  (ha : PDA X EX (e :: es) g) (hdb : (x == ("__debug__" : Str)) = false := by decide) (he : starEach (e :: es) X.env = (false, eval e X.env) :: starEach es X.env := by rfl) (hpl : (backTo pos (starEach es X.env)).any (·.1) = false := by rfl) :
  PD X EX (.Call (.Name x p) (e :: es) [] pos) (dMake C F g):=PE.mono (pe_make M G hr hg hm hb .nil hx ha hdb he hpl) make_imp
end
inductive OutS where
 | nx (ρ : Ev) (st : Sto) | rt (d : D) (st : Sto) | bk (ρ : Ev) (st : Sto) | ct (ρ : Ev) (st : Sto) | exc (c : Addr) (st : Sto) | bad
noncomputable abbrev DS:=Ev → Sto → OutS
noncomputable def RunS (K : PySem.W.Frag) (EX : EXT) (Dn : Ends) (O : List Addr) (H : Hp) : OutS → Prop
 | .nx ρ st => ∀ O' H' σ, Keep K O H O' H' → WR K O' H' st → REnv K O' H' ρ σ → Dn.nx σ H'
 | .bk ρ st => ∀ O' H' σ, Keep K O H O' H' → WR K O' H' st → REnv K O' H' ρ σ → Dn.bk σ H'
 | .ct ρ st => ∀ O' H' σ, Keep K O H O' H' → WR K O' H' st → REnv K O' H' ρ σ → Dn.ct σ H'
 | .rt d st => ∀ O' H' v, Keep K O H O' H' → WR K O' H' st → Rep K O' H' d v → Dn.rt v H'
 | .exc c st => ∀ O' H', Keep K O H O' H' → WR K O' H' st → EX c st O' H'
 | .bad => False
noncomputable def tDS (K : PySem.W.Frag) (EX : EXT) (g : DS) : TS:=fun Dn σ H => ∃ O ρ st, WR K O H st ∧ REnv K O H ρ σ ∧ RunS K EX Dn O H (g ρ st)
noncomputable def PDs (X : Cx) (EX : EXT) (s : Stmt) (g : DS) : Prop:=PS X s (tDS X.K EX g)
noncomputable def PDS (X : Cx) (EX : EXT) (ss : List Stmt) (g : DS) : Prop:=PSs X ss (tDS X.K EX g)
theorem RunS.later {K : PySem.W.Frag} {EX : EXT} {Dn : Ends} {O O' : List Addr} {H H' : Hp} {r : OutS} (h : RunS K EX Dn O H r) (kp : Keep K O H O' H') : RunS K EX Dn O' H' r:=by
 cases r with
 | bad => exact h
 | exc c st => exact fun O2 H2 k2 W2 => h O2 H2 (kp.trans k2) W2
 | rt d st => exact fun O2 H2 v k2 W2 r2 => h O2 H2 v (kp.trans k2) W2 r2
 | nx ρ st => exact fun O2 H2 v k2 W2 r2 => h O2 H2 v (kp.trans k2) W2 r2
 | bk ρ st => exact fun O2 H2 v k2 W2 r2 => h O2 H2 v (kp.trans k2) W2 r2
 | ct ρ st => exact fun O2 H2 v k2 W2 r2 => h O2 H2 v (kp.trans k2) W2 r2
noncomputable def Out.to {α : Type} (r : Out α) (k : α → Sto → OutS) : OutS:=match r with
 | .ok a st => k a st
 | .exc c st => .exc c st
 | .bad => .bad
theorem RunS.to {K : PySem.W.Frag} {EX : EXT} {Dn : Ends} {α : Type} {O : List Addr} {H : Hp} {r : Out α} {g : α → Sto → OutS} (h : RunS K EX Dn O H (r.to g)) : Run K EX O H r (fun a st O' H' => RunS K EX Dn O' H' (g a st)):=by
 cases r with
 | ok a st => exact fun O' H' kp W => RunS.later (r:=g a st) h kp
 | exc c st => exact h
 | bad => exact h
section
variable {X : Cx} {EX : EXT} {a b c e o tg : Expr} {fa fb fc fo : DE} {pos p apos : Pos} {ta tb : DT} {s : Stmt} {ss : List Stmt} {g g' : DS} {x : Str} {C : Addr}
noncomputable def sNext : DS:=fun ρ st => .nx ρ st
noncomputable def sSeq (g g' : DS) : DS:=fun ρ st => match g ρ st with
 | .nx ρ' st' => g' ρ' st'
 | r => r
theorem pds_nil : PDS X EX [] sNext:=by
 refine PSs.mono pss_nil ?_
 rintro Dn σ H ⟨O, ρ, st, W, E, R⟩
 exact R O H σ Keep.refl W E
theorem pds_cons (h1 : PDs X EX s g) (h2 : PDS X EX ss g') : PDS X EX (s :: ss) (sSeq g g'):=by
 refine PSs.mono (pss_cons h1 h2) ?_
 rintro Dn σ H ⟨O, ρ, st, W, E, R⟩
 refine ⟨O, ρ, st, W, E, ?_⟩
 unfold sSeq at R
 cases hg : g ρ st with
 | nx ρ' st' =>
  rw [hg] at R
  exact fun O' H' σ' kp W' E' => ⟨O', ρ', st', W', E', RunS.later R kp⟩
 | _ => rw [hg] at R; exact R
theorem pds_one (h1 : PDs X EX s g) : PDS X EX [s] g:=pss_one h1
noncomputable def sExpr (f : DE) : DS:=fun ρ st => (f ρ st).to fun _ st1 => .nx ρ st1
theorem pd_expr (he : PD X EX e fa) (hs : swapsWith e none pos.line X.env = pure false:=by rfl) : PDs X EX (.Expr e pos) (sExpr fa):=by
 refine PS.mono (ps_expr he hs) ?_
 rintro Dn σ H ⟨O, ρ, st, W, E, R⟩
 exact ⟨O, ρ, st, W, E, R.to.mono fun d st1 O1 H1 k1 W1 R1 v r => R1 O1 H1 σ Keep.refl W1 (E.mono k1)⟩
noncomputable def sRet (f : DE) : DS:=fun ρ st => (f ρ st).to fun d st1 => .rt d st1
theorem pd_ret (he : PD X EX e fa) : PDs X EX (.Return (some e) pos) (sRet fa):=by
 refine PS.mono (ps_ret he) ?_
 rintro Dn σ H ⟨O, ρ, st, W, E, R⟩
 exact ⟨O, ρ, st, W, E, R.to.mono fun d st1 O1 H1 k1 W1 R1 v r => R1 O1 H1 v Keep.refl W1 r⟩
noncomputable def sIf (t : DT) (g g' : DS) : DS:=fun ρ st => (t ρ st).to fun x st1 => if x = true then g ρ st1 else g' ρ st1
theorem pd_if {sa sb : List Stmt} (hc : PDT X EX c ta) (ha : PDS X EX sa g) (hb : PDS X EX sb g') : PDs X EX (.If c sa sb pos) (sIf ta g g'):=by
 refine PS.mono (ps_if hc ha hb) ?_
 rintro Dn σ H ⟨O, ρ, st, W, E, R⟩
 refine ⟨O, ρ, st, W, E, R.to.mono fun x st1 O1 H1 k1 W1 R1 => ?_⟩
 cases x with
 | true => exact ⟨O1, ρ, st1, W1, E.mono k1, R1⟩
 | false => exact ⟨O1, ρ, st1, W1, E.mono k1, R1⟩
noncomputable def sSet (i : Nat) (f : DE) : DS:=fun ρ st => (f ρ st).to fun d st1 => .nx (ρ.set i (some d)) st1
theorem pd_set (i : Nat) {pos' : Pos} (hN : X.N.Nodup) (hi : X.N[i]? = some x) (hx : Loc X.env.scope x) (he : PD X EX e fa) (hs : swapsWith e (some (.Name x pos')) pos.line X.env = pure false:=by rfl)
  (hf : X.fn x = true ∨ X.env.scope.names.lookup x = some .local:=by first | exact .inl rfl | exact .inr rfl | assumption) : PDs X EX (.Assign [.Name x pos'] e pos) (sSet i fa):=by
 refine PS.mono (ps_set hN hi hx he hs hf) ?_
 rintro Dn σ H ⟨O, ρ, st, W, E, R⟩
 exact ⟨O, ρ, st, W, E, R.to.mono fun d st1 O1 H1 k1 W1 R1 v r => R1 O1 H1 _ Keep.refl W1 ((E.mono k1).set r)⟩
noncomputable def sSetF (i : Nat) (f : DA) : DS:=fun ρ st => (f ρ st).to fun ds st1 => .nx (ρ.set i (some (.res st1.length))) (st1 ++ [.lst ds])
theorem pd_setF (i : Nat) {f : DA} {pos' : Pos} (hN : X.N.Nodup) (hi : X.N[i]? = some x) (hx : Loc X.env.scope x) (he : PDF X EX e f) (hs : swapsWith e (some (.Name x pos')) pos.line X.env = pure false:=by rfl)
  (hf : X.fn x = true ∨ X.env.scope.names.lookup x = some .local:=by first | exact .inl rfl | exact .inr rfl | assumption) : PDs X EX (.Assign [.Name x pos'] e pos) (sSetF i f):=by
 refine PS.mono (ps_set hN hi hx he hs hf) ?_
 rintro Dn σ H ⟨O, ρ, st, W, E, R⟩
 exact ⟨O, ρ, st, W, E, R.to.mono fun ds st1 O1 H1 k1 W1 R1 p vs r hp => R1 (O1 ++ [p]) _ _ (Keep.push hp) (W1.push hp r) ((E.mono (k1.trans (Keep.push hp))).set (rep_last W1.len))⟩
noncomputable def sFldS (C : Addr) (x : Str) (fo fv : DE) : DS:=fun ρ st => (fv ρ st).to fun v st1 => (fo ρ st1).to fun d st2 => match insAt C st2 d with
 | some (i, fs) => if fs.length < 900 then .nx ρ (st2.set i (.ins C (putFD x v fs))) else .bad
 | none => .bad
theorem pd_fldS {pos' : Pos} (ha : PD X EX o fo) (hv : PD X EX e fa) (c : Cls X.K C) (na : NoAttr X.K C x) (hs : swapsWith e (some (.Attribute o x pos')) pos.line X.env = pure false:=by rfl) : PDs X EX (.Assign [.Attribute o x pos'] e pos) (sFldS C x fo fa):=by
 refine PS.mono (ps_fld ha hv hs) ?_
 rintro Dn σ H ⟨O, ρ, st, W, E, R⟩
 refine ⟨O, ρ, st, W, E, R.to.mono fun w st1 O1 H1 k1 W1 R1 v r => ?_⟩
 refine ⟨O1, ρ, st1, W1, E.mono k1, R1.to.mono fun d st2 O2 H2 k2 W2 R2 u r2 => ?_⟩
 cases e : insAt C st2 d with
 | none => rw [e] at R2; exact R2.elim
 | some q =>
  obtain ⟨i, fs⟩:=q
  rw [e] at R2
  dsimp only at R2
  obtain ⟨rfl, a, dx, vfs, rfl, ho, hH, hf⟩:=insAt_rd W2 r2 e
  by_cases hl : fs.length < 900
  ·rw [if_pos hl] at R2
   refine ⟨a, C, dx, vfs, rfl, hH, c, na, by rw [← hf.length]; omega, ?_⟩
   have kw : Keep X.K O2 H2 O2 (upd H2 a (.ins C dx (putF x v vfs))):=Keep.write W2 ho
   exact R2 O2 _ σ kw (W2.write ho ⟨dx, _, upd_same, Flds.mono kw _ _ (hf.put (Rep.mono k2 _ _ r))⟩) (E.mono (k1.trans (k2.trans kw)))
  ·rw [if_neg hl] at R2; exact R2.elim
noncomputable def sFldF (C : Addr) (x : Str) (fo : DE) (fv : DA) : DS:=fun ρ st => (fv ρ st).to fun vs st1 => (fo ρ (st1 ++ [.lst vs])).to fun d st2 => match insAt C st2 d with
 | some (i, fs) => if fs.length < 900 then .nx ρ (st2.set i (.ins C (putFD x (.res st1.length) fs))) else .bad
 | none => .bad
theorem pd_fldF {f : DA} {pos' : Pos} (ha : PD X EX o fo) (hv : PDF X EX e f) (c : Cls X.K C) (na : NoAttr X.K C x) (hs : swapsWith e (some (.Attribute o x pos')) pos.line X.env = pure false:=by rfl) : PDs X EX (.Assign [.Attribute o x pos'] e pos) (sFldF C x fo f):=by
 refine PS.mono (ps_fld ha hv hs) ?_
 rintro Dn σ H ⟨O, ρ, st, W, E, R⟩
 refine ⟨O, ρ, st, W, E, R.to.mono fun w st1 O1 H1 k1 W1 R1 p vs r hp => ?_⟩
 refine ⟨O1 ++ [p], ρ, st1 ++ [.lst w], W1.push hp r, E.mono (k1.trans (Keep.push hp)), (RunS.later R1 (Keep.push hp)).to.mono fun d st2 O2 H2 k2 W2 R2 u r2 => ?_⟩
 cases e : insAt C st2 d with
 | none => rw [e] at R2; exact R2.elim
 | some q =>
  obtain ⟨i, fs⟩:=q
  rw [e] at R2
  dsimp only at R2
  obtain ⟨rfl, a, dx, vfs, rfl, ho, hH, hf⟩:=insAt_rd W2 r2 e
  by_cases hl : fs.length < 900
  ·rw [if_pos hl] at R2
   refine ⟨a, C, dx, vfs, rfl, hH, c, na, by rw [← hf.length]; omega, ?_⟩
   have kw : Keep X.K O2 H2 O2 (upd H2 a (.ins C dx (putF x (.ref p) vfs))):=Keep.write W2 ho
   exact R2 O2 _ σ kw (W2.write ho ⟨dx, _, upd_same, Flds.mono kw _ _ (hf.put (Rep.mono k2 _ _ (rep_last W1.len)))⟩) (E.mono (k1.trans ((Keep.push hp).trans (k2.trans kw))))
  ·rw [if_neg hl] at R2; exact R2.elim
noncomputable def sFldAdd (C : Addr) (x : Str) (fo fv : DE) : DS:=fun ρ st => (fo ρ st).to fun d st1 => match insAt C st1 d with
 | some (i, fs) => match fs.lookup x with
  | some (.int z) => (fv ρ st1).to fun v st2 => match v with
   | .int y => match insAt C st2 d with
    | some (j, fs') => if fs'.length < 900 then .nx ρ (st2.set j (.ins C (putFD x (.int (z + y)) fs'))) else .bad
    | none => .bad
   | _ => .bad
  | _ => .bad
 | none => .bad
theorem pd_fldAdd {tpos : Pos} (ha : PD X EX o fo) (hv : PD X EX e fa) (c : Cls X.K C) (na : NoAttr X.K C x) : PDs X EX (.AugAssign (.Attribute o x tpos) .Add e pos) (sFldAdd C x fo fa):=by
 refine PS.mono (ps_fldaug ha hv in_add) ?_
 rintro Dn σ H ⟨O, ρ, st, W, E, R⟩
 refine ⟨O, ρ, st, W, E, R.to.mono fun d st1 O1 H1 k1 W1 R1 u r => ?_⟩
 cases e : insAt C st1 d with
 | none => rw [e] at R1; exact R1.elim
 | some q =>
  obtain ⟨i, fs⟩:=q
  rw [e] at R1
  dsimp only at R1
  obtain ⟨rfl, a, dx, vfs, rfl, ho, hH, hf⟩:=insAt_rd W1 r e
  cases hl : fs.lookup x with
  | none => rw [hl] at R1; exact R1.elim
  | some w =>
   rw [hl] at R1
   cases w with
   | int z =>
    dsimp only at R1
    obtain ⟨v, h1, h2⟩:=hf.look.2 _ hl
    rw [Rep.int_i] at h2
    subst h2
    refine ⟨a, C, dx, vfs, _, rfl, hH, c, na, h1, O1, ρ, st1, W1, E.mono k1, R1.to.mono fun y st2 O2 H2 k2 W2 R2 vy ry => ?_⟩
    cases y with
    | int y =>
     rw [Rep.int_i] at ry
     subst ry
     refine ⟨z, y, rfl, rfl, ?_⟩
     dsimp only at R2
     cases e2 : insAt C st2 (.res i) with
     | none => rw [e2] at R2; exact R2.elim
     | some q =>
      obtain ⟨j, fs'⟩:=q
      rw [e2] at R2
      dsimp only at R2
      obtain ⟨ej, a', dx', vfs', ea, ho', hH', hf'⟩:=insAt_rd W2 (Rep.mono k2 _ _ r) e2
      cases ej
      cases ea
      by_cases hl2 : fs'.length < 900
      ·rw [if_pos hl2] at R2
       refine ⟨dx', vfs', hH', by rw [← hf'.length]; omega, ?_⟩
       have kw : Keep X.K O2 H2 O2 (upd H2 a (.ins C dx' (putF x (.int (z + y)) vfs'))):=Keep.write W2 ho'
       exact R2 O2 _ σ kw (W2.write ho' ⟨dx', _, upd_same, Flds.mono kw _ _ (hf'.put (Rep.int_i.mpr rfl))⟩) (E.mono (k1.trans (k2.trans kw)))
      ·rw [if_neg hl2] at R2; exact R2.elim
    | _ => exact R2.elim
   | _ => exact R1.elim
noncomputable def runF (N n : Nat) (g : DS) : FD:=fun ds st => if ds.length = n then (match g (ds.map some ++ List.replicate (N - n) none) st with
 | .nx _ st' => .ok .non st'
 | .rt d st' => .ok d st'
 | _ => .bad) else .bad
end
section
variable {P : Program} {w : World} {K : PySem.W.Frag} {mg : Str → Option Value} {base : Heap}
theorem renv_start {O : List Addr} {H : Hp} {N : List Str} : ∀ {ds : List D} {vs : List V} (m : Nat), Reps K O H ds vs → REnv K O H (ds.map some ++ List.replicate m none) (vs.map some ++ List.replicate m none):=by
 intro ds vs m r
 refine ⟨by simp [r.length], fun i d h => ?_⟩
 by_cases hi : i < ds.length
 ·rw [List.getElem?_append_left (by simpa using hi)] at h
  rw [List.getElem?_map] at h
  cases e : ds[i]? with
  | none => rw [e] at h; cases h
  | some d' =>
   rw [e] at h
   simp only [Option.map_some, Option.some.injEq] at h
   subst h
   obtain ⟨v, h1, h2⟩:=r.get e
   exact ⟨v, by rw [List.getElem?_append_left (by rw [List.length_map, ← r.length]; exact hi), List.getElem?_map, h1]; rfl, h2⟩
 ·rw [List.getElem?_append_right (by rw [List.length_map]; omega), List.getElem?_replicate] at h
  split at h <;> cases h
theorem fnD {x qual : Str} {st : Stmt} {f : Addr} {fd : FuncData} {N ps : List Str} {k : Nat} {g : DS} (F : Fun K x qual st f fd) (S : FnScope N ps (defScope st))
  (hbody : ∀ (cdv : Value) (A : Around) (outer : List Env) (s : Shared) (H : Hp) (E : XK), Room k (A.deeper (envOfC qual (defScope st) s.heap.objs.size f cdv)) →
   PDS (cxOf CX0 P w K mg base N qual (defScope st) f cdv A outer s H E).nox EX0 (defBody st) g) : FnOk P w K mg base CX0 (k + 1) f fd ps (spD K (runF N.length ps.length g)):=by
 have hlen : ∀ vs H Q E, spD K (runF N.length ps.length g) vs H Q E → vs.length = ps.length:=by
  rintro vs H Q E ⟨O, ds, st, W, r, R⟩
  unfold runF at R
  by_cases hl : ds.length = ps.length
  ·rw [← r.length]; exact hl
  ·rw [if_neg hl] at R; exact R.elim
 refine F.ok S hlen fun cdv A outer s H vs Q E hr h => ?_
 refine ⟨_, hbody cdv A outer s H E hr, ?_⟩
 have hl:=hlen vs H Q E h
 obtain ⟨O, ds, st, W, r, R⟩:=h
 have hd : ds.length = ps.length:=by rw [r.length]; exact hl
 unfold runF at R
 rw [if_pos hd] at R
 refine ⟨O, ds.map some ++ List.replicate (N.length - ps.length) none, st, W, ?_, ?_⟩
 ·unfold L2.start
  rw [hl]
  exact renv_start (N:=N) _ r
 ·cases hg : g (ds.map some ++ List.replicate (N.length - ps.length) none) st with
  | nx ρ st' => rw [hg] at R; exact fun O' H' σ kp W' _ => R O' H' kp W' _ (Rep.non_i.mpr rfl)
  | rt d st' => rw [hg] at R; exact fun O' H' v kp W' rv => R O' H' kp W' v rv
  | exc c st' => rw [hg] at R; exact R.elim
  | bad => rw [hg] at R; exact R
  | bk ρ st' => rw [hg] at R; exact R.elim
  | ct ρ st' => rw [hg] at R; exact R.elim
end
end DL
end
section
namespace DL
open PySem PySem.Spec PyProof.Rows L2
noncomputable abbrev TgD:=D → Ev → Option Ev
noncomputable def tgD (K : PySem.W.Frag) (t : TgD) : TG:=fun v σ H Q => ∃ O d ρ ρ', Rep K O H d v ∧ REnv K O H ρ σ ∧ t d ρ = some ρ' ∧ ∀ σ', REnv K O H ρ' σ' → Q σ' H
noncomputable def PGD (X : Cx) (tg : Expr) (t : TgD) : Prop:=PG X tg (tgD X.K t)
theorem PG.mono {X : Cx} {tg : Expr} {t t' : TG} (h : PG X tg t) (f : ∀ v σ H Q, t' v σ H Q → t v σ H Q) : PG X tg t':=fun pins s σ H v u Q I r q => h pins s σ H v u Q I r (f v σ H Q q)
theorem PGs.mono {X : Cx} {tg : List Expr} {t t' : TGs} (h : PGs X tg t) (f : ∀ v σ H Q, t' v σ H Q → t v σ H Q) : PGs X tg t':=fun pins s σ H v u Q I r q => h pins s σ H v u Q I r (f v σ H Q q)
noncomputable def tgName (i : Nat) : TgD:=fun d ρ => some (ρ.set i (some d))
noncomputable def setAll : List Nat → List D → Ev → Ev
 | i :: is, d :: ds, ρ => setAll is ds (ρ.set i (some d))
 | _, _, ρ => ρ
noncomputable def tgsD (K : PySem.W.Frag) (is : List Nat) : TGs:=fun vs σ H Q => ∃ O ds ρ, Reps K O H ds vs ∧ REnv K O H ρ σ ∧ ds.length = is.length ∧ ∀ σ', REnv K O H (setAll is ds ρ) σ' → Q σ' H
noncomputable def tgTup (is : List Nat) : TgD
 | .tup ds, ρ => if ds.length = is.length then some (setAll is ds ρ) else none
 | _, _ => none
section
variable {X : Cx} {EX : EXT} {pos : Pos} {x : Str}
theorem pgd_name (i : Nat) (hN : X.N.Nodup) (hi : X.N[i]? = some x) (hx : Loc X.env.scope x) (hf : X.fn x = true ∨ X.env.scope.names.lookup x = some .local:=by first | exact .inl rfl | exact .inr rfl | assumption) : PGD X (.Name x pos) (tgName i):=by
 refine PG.mono (pg_name hN hi hx hf) ?_
 rintro v σ H Q ⟨O, d, ρ, ρ', r, E, ht, q⟩
 cases ht
 exact q _ (E.set r)
theorem pgsd_nil : PGs X [] (tgsD X.K []):=by
 refine PGs.mono pgs_nil ?_
 rintro vs σ H Q ⟨O, ds, ρ, r, E, hl, q⟩
 have e : ds = []:=List.length_eq_zero_iff.mp hl
 subst e
 rw [Reps.nil_i] at r
 exact ⟨r, q _ E⟩
theorem pgsd_cons (i : Nat) {is : List Nat} {es : List Expr} (hN : X.N.Nodup) (hi : X.N[i]? = some x) (hx : Loc X.env.scope x) (h2 : PGs X es (tgsD X.K is)) (hf : X.fn x = true ∨ X.env.scope.names.lookup x = some .local:=by first | exact .inl rfl | exact .inr rfl | assumption)
  (hs : (assignEach (.Name x pos :: es) X.env).map (·.2) = assign (.Name x pos) X.env :: (assignEach es X.env).map (·.2):=by rfl) : PGs X (.Name x pos :: es) (tgsD X.K (i :: is)):=by
 refine PGs.mono (pgs_cons (pg_name hN hi hx hf) h2 hs) ?_
 rintro vs σ H Q ⟨O, ds, ρ, r, E, hl, q⟩
 cases ds with
 | nil => cases hl
 | cons d ds =>
  obtain ⟨v, vs', rfl, q1, t⟩:=Reps.cons_i.mp r
  exact ⟨v, vs', rfl, O, ds, _, t, E.set q1, by simpa using hl, q⟩
theorem pgd_tup {is : List Nat} {es : List Expr} {k : Nat} (hc : X.calm = true) (h : PGs X es (tgsD X.K is)) (hn : (assignEach es X.env).length = is.length:=by rfl) (hst : (assignEach es X.env).findIdx? (·.1) = none:=by rfl) : PGD X (.Tuple es k pos) (tgTup is):=by
 refine PG.mono (pg_tup hc h hn hst) ?_
 rintro v σ H Q ⟨O, d, ρ, ρ', r, E, ht, q⟩
 cases d with
 | tup ds =>
  dsimp only [tgTup] at ht
  by_cases hl : ds.length = is.length
  ·rw [if_pos hl] at ht
   cases ht
   rw [Rep.tup_i] at r
   obtain ⟨a, vs, rfl, hq, rs⟩:=r
   exact ⟨a, vs, rfl, SqT.of hq, by rw [← rs.length]; exact hl, O, ds, ρ, rs, E, hl, q⟩
  ·rw [if_neg hl] at ht; cases ht
 | _ => cases ht
end
noncomputable abbrev Wk:=List D × (Sto → Prop)
noncomputable def ItD (K : PySem.W.Frag) (J : It) (O0 : List Addr) (H0 : Hp) (q : Wk) : Prop :=
 ∀ (i : Nat) (O : List Addr) (H : Hp) (st : Sto), Keep K O0 H0 O H → WR K O H st → q.2 st →
  (∀ d, q.1[i]? = some d → J.go i H ∧ ∀ x H', J.yld i H x H' → Keep K O H O H' ∧ WR K O H' st ∧ Rep K O H' d x) ∧ (q.1.length ≤ i → J.stop i H)
noncomputable abbrev DI:=Ev → Sto → Out Wk
noncomputable def wiD (K : PySem.W.Frag) (EX : EXT) (f : DI) : TI:=fun σ H R => ∃ O ρ st, WR K O H st ∧ REnv K O H ρ σ ∧ Run K EX O H (f ρ st) (fun q _ O' H' => ∀ J, ItD K J O' H' q → R J H')
noncomputable def PID (X : Cx) (EX : EXT) (tg iter : Expr) (f : DI) : Prop:=PI X tg iter (wiD X.K EX f)
theorem PI.mono {X : Cx} {tg it : Expr} {t t' : TI} (h : PI X tg it t) (f : ∀ σ H Q, t' σ H Q → t σ H Q) : PI X tg it t':=fun pins s σ H Q I q => h pins s σ H Q I (f σ H Q q)
theorem PI.or {X : Cx} {tg it : Expr} {t t' : TI} (h : PI X tg it t) (h' : PI X tg it t') : PI X tg it (fun σ H R => t σ H R ∨ t' σ H R):=fun pins s σ H Q I q => by
 rcases q with q | q
 ·exact h pins s σ H Q I q
 ·exact h' pins s σ H Q I q
section
variable {K : PySem.W.Frag} {O : List Addr} {H : Hp} {st : Sto}
theorem it_tup {a : Addr} {vs : List V} {xs : List D} {P : Sto → Prop} (q : H a = some (.tup vs)) (r : Reps K O H xs vs) : ItD K (Itt K a) O H (xs, P):=by
 intro i O' H' st' kp W' _
 refine ⟨fun d hd => ?_, fun hl => ⟨vs, SqT.of (kp.tup _ _ q), by rw [← r.length]; exact hl⟩⟩
 obtain ⟨v, h1, h2⟩:=r.get hd
 refine ⟨⟨vs, v, SqT.of (kp.tup _ _ q), h1⟩, ?_⟩
 rintro x H2 ⟨rfl, h3⟩
 have h4:=h3 vs (SqT.of (kp.tup _ _ q))
 rw [h1] at h4
 cases h4
 exact ⟨Keep.refl, W', Rep.mono kp _ _ h2⟩
theorem it_list {a : Addr} {xs : List D} {P : Sto → Prop} (h : ∀ (O' : List Addr) (H' : Hp) (st' : Sto), Keep K O H O' H' → WR K O' H' st' → P st' → ∃ vs, SqL K H' a vs ∧ Reps K O' H' xs vs) : ItD K (Itl K a) O H (xs, P):=by
 intro i O' H' st' kp W' hp
 obtain ⟨vs, q, r⟩:=h O' H' st' kp W' hp
 refine ⟨fun d hd => ?_, fun hl => ⟨vs, q, by rw [← r.length]; exact hl⟩⟩
 obtain ⟨v, h1, h2⟩:=r.get hd
 refine ⟨⟨vs, v, q, h1⟩, ?_⟩
 rintro x H2 ⟨rfl, h3⟩
 have h4:=h3 vs q
 rw [h1] at h4
 cases h4
 exact ⟨Keep.refl, W', h2⟩
theorem it_range {lo : Int} {n : Nat} {P : Sto → Prop} : ItD K (Itr lo n) O H ((List.range n).map (fun (i : Nat) => D.int (lo + i)), P):=by
 intro i O' H' st' kp W' hp
 refine ⟨fun d hd => ?_, fun hl => (show n ≤ i by simpa using hl)⟩
 have hi : i < n:=by
  have:=(List.getElem?_eq_some_iff.mp hd).1
  simpa using this
 have e : d = D.int (lo + i):=by
  rw [List.getElem?_map, List.getElem?_range hi] at hd
  simpa using hd.symm
 subst e
 refine ⟨hi, ?_⟩
 rintro x H2 ⟨rfl, rfl⟩
 exact ⟨Keep.refl, W', Rep.int_i.mpr rfl⟩
end
section
variable {X : Cx} {EX : EXT} {tg e a b : Expr} {f : DE} {g : DA} {pos p : Pos}
noncomputable def dSeq (f : DE) : DI:=fun ρ st => (f ρ st).bind fun d st1 => match itemsOf st1 d with
 | some xs => .ok (xs, fun st => itemsOf st d = some xs) st1
 | none => .bad
theorem pid_seq (h : PD X EX e f) : PID X EX tg e (dSeq f):=by
 refine PI.mono (PI.or (pi_tup h) (pi_list h)) ?_
 rintro σ H R ⟨O, ρ, st, W, E, R0⟩
 have R1:=R0.bind
 cases hf : f ρ st with
 | bad => rw [hf] at R1; exact R1.elim
 | exc c st' =>
  rw [hf] at R1
  exact .inl ⟨O, ρ, st, W, E, by rw [hf]; exact R1⟩
 | ok d st' =>
  rw [hf] at R1
  by_cases hb : ∃ zs, d = .tup zs
  ·obtain ⟨zs, rfl⟩:=hb
   refine .inl ⟨O, ρ, st, W, E, ?_⟩
   rw [hf]
   intro O1 H1 k1 W1 v r
   have R2:=R1 O1 H1 k1 W1
   rw [Rep.tup_i] at r
   obtain ⟨q, vs, rfl, hq, rs⟩:=r
   exact ⟨q, rfl, ⟨vs, SqT.of hq⟩, Run.now (k:=fun q _ O' H' => ∀ J, ItD X.K J O' H' q → R J H') R2 W1 _ (it_tup hq rs)⟩
  ·refine .inr ⟨O, ρ, st, W, E, ?_⟩
   rw [hf]
   intro O1 H1 k1 W1 v r
   have R2:=R1 O1 H1 k1 W1
   have ei : ∀ s', itemsOf s' d = seqL s' d:=by
    intro s'
    cases d <;> first | rfl | exact absurd ⟨_, rfl⟩ hb
   dsimp only at R2
   rw [ei] at R2
   cases e1 : seqL st' d with
   | none => rw [e1] at R2; exact R2.elim
   | some xs =>
    rw [e1] at R2
    obtain ⟨q, vs, rfl, hq, rs⟩:=rdL W1 r e1
    refine ⟨q, rfl, ⟨vs, hq⟩, Run.now (k:=fun q _ O' H' => ∀ J, ItD X.K J O' H' q → R J H') R2 W1 _ (it_list fun O' H' st2 kp W' hp => ?_)⟩
    rw [ei] at hp
    obtain ⟨q', vs', e2, hq', rs'⟩:=rdL W' (Rep.mono kp _ _ r) hp
    cases e2
    exact ⟨vs', hq', rs'⟩
noncomputable def rngOk (j : Int) : Bool:=@decide (-(2 ^ 62) ≤ j ∧ j < 2 ^ 62) (Classical.propDecidable _)
theorem rngOk_iff {j : Int} : rngOk j = true ↔ (-(2 ^ 62) ≤ j ∧ j < 2 ^ 62):=by
 unfold rngOk
 exact @decide_eq_true_iff _ (Classical.propDecidable _)
theorem rngOk_of {j : Int} (h1 : -1000000 ≤ j) (h2 : j ≤ 1000000) : rngOk j = true:=rngOk_iff.mpr ⟨by omega, by omega⟩
noncomputable def dRng1 (g : DA) : DI:=fun ρ st => (g ρ st).bind fun ds st1 => match ds with
 | [.int j] => if rngOk j = true then .ok ((List.range j.toNat).map (fun (i : Nat) => D.int (0 + i)), fun _ => True) st1 else .bad
 | _ => .bad
theorem pid_range1 (hg : Gl X "range") (hm : X.mg "range" = none) (ha : PDA X EX [a] g) (hs : starEach [a] X.env = [(false, eval a X.env)] := by rfl) : PID X EX tg (.Call (.Name "range" p) [a] [] pos) (dRng1 g) := by
 refine PI.mono (pi_range1 hg hm ha hs) ?_
 rintro σ H R ⟨O, ρ, st, W, E, R0⟩
 refine ⟨O, ρ, st, W, E, R0.bind.mono fun ds st1 O1 H1 k1 W1 R1 vs r => ?_⟩
 split at R1
 ·rename_i j
  obtain ⟨v, rfl, rv⟩:=r.one_of
  rw [Rep.int_i] at rv
  subst rv
  by_cases hj : rngOk j = true
  ·rw [if_pos hj] at R1
   exact ⟨j, rfl, (rngOk_iff.mp hj).1, (rngOk_iff.mp hj).2, Run.now (k:=fun q _ O' H' => ∀ J, ItD X.K J O' H' q → R J H') R1 W1 _ it_range⟩
  ·rw [if_neg hj] at R1; exact R1.elim
 ·exact R1.elim
end
open Classical in
noncomputable def loopD (chk : Sto → Prop) (t : TgD) (g : DS) : List D → DS
 | [], ρ, st => if chk st then .nx ρ st else .bad
 | x :: xs, ρ, st => if chk st then (match t x ρ with
  | none => .bad
  | some ρ1 => match g ρ1 st with
   | .nx ρ' st' => loopD chk t g xs ρ' st'
   | .ct ρ' st' => loopD chk t g xs ρ' st'
   | .bk ρ' st' => .nx ρ' st'
   | r => r) else .bad
noncomputable def sFor (f : DI) (t : TgD) (g : DS) : DS:=fun ρ st => (f ρ st).to fun q st1 => loopD q.2 t g q.1 ρ st1
section
variable {X : Cx} {EX : EXT} {tg it : Expr} {f : DI} {t : TgD} {g : DS} {pos : Pos} {body : List Stmt}
theorem pd_for (hp : PassesOwn (model X.prog X.w) X.A X.env X.xe) (hc : X.calm = true) (hi : PID X EX tg it f) (hg : PGD X tg t) (hb : PDS X EX body g) (hs : ∀ x, foldedSetIterable it X.env x = pure x:=by intro _; rfl) : PDs X EX (.For tg it body [] pos) (sFor f t g):=by
 refine PS.mono (ps_for hp hc hi hg hb hs) ?_
 rintro Dn σ H ⟨O, ρ, st, W, E, R⟩
 refine ⟨O, ρ, st, W, E, R.to.mono fun q st1 O1 H1 k1 W1 R1 J hJ => ?_⟩
 refine ⟨fun i m σ' H' => m + i = q.1.length ∧ ∃ O' ρ' st', Keep X.K O1 H1 O' H' ∧ WR X.K O' H' st' ∧ REnv X.K O' H' ρ' σ' ∧ RunS X.K EX Dn O' H' (loopD q.2 t g (q.1.drop i) ρ' st'), ⟨q.1.length, rfl, O1, ρ, st1, Keep.refl, W1, E.mono k1, R1⟩, ?_⟩
 rintro i m σ' H' ⟨hm, O', ρ', st', kp, W', E', R'⟩
 cases hd : q.1.drop i with
 | nil =>
  rw [hd] at R'
  unfold loopD at R'
  have hl : q.1.length ≤ i:=List.drop_eq_nil_iff.mp hd
  by_cases hch : q.2 st'
  ·rw [if_pos hch] at R'
   exact .inl ⟨(hJ i O' H' st' kp W' hch).2 hl, R' O' H' σ' Keep.refl W' E'⟩
  ·rw [if_neg hch] at R'; exact R'.elim
 | cons x xs =>
  rw [hd] at R'
  unfold loopD at R'
  have hx : q.1[i]? = some x:=by
   have:=List.getElem?_drop (xs:=q.1) (i:=i) (j:=0)
   rw [hd] at this
   simpa using this.symm
  have hxs : q.1.drop (i + 1) = xs:=by
   have:=List.drop_drop (i:=1) (j:=i) (l:=q.1)
   rw [hd] at this
   simpa using this.symm
  have hi : i < q.1.length:=(List.getElem?_eq_some_iff.mp hx).1
  by_cases hch : q.2 st'
  ·rw [if_pos hch] at R'
   obtain ⟨hgo, hy⟩:=(hJ i O' H' st' kp W' hch).1 x hx
   refine .inr ⟨hgo, fun σ2 H2 => (m - 1) + (i + 1) = q.1.length ∧ ∃ O' ρ' st', True ∧ WR X.K O' H2 st' ∧ Keep X.K O1 H1 O' H2 ∧ REnv X.K O' H2 ρ' σ2 ∧ RunS X.K EX Dn O' H2 (loopD q.2 t g (q.1.drop (i + 1)) ρ' st'), ?_, ?_⟩
   ·rintro σ2 H2 ⟨h1, O2, ρ2, st2, _, W2, kp2, E2, R2⟩
    exact ⟨m - 1, by omega, h1, O2, ρ2, st2, kp2, W2, E2, R2⟩
   ·intro v H2 hv
    obtain ⟨ky, Wy, ry⟩:=hy v H2 hv
    cases ht : t x ρ' with
    | none => rw [ht] at R'; exact R'.elim
    | some ρ1 =>
     rw [ht] at R'
     dsimp only at R'
     refine ⟨O', x, ρ', ρ1, ry, E'.mono ky, ht, fun σ2 E2 => ⟨O', ρ1, st', Wy, E2, ?_⟩⟩
     cases hgr : g ρ1 st' with
     | nx ρ2 st2 =>
      rw [hgr] at R'
      intro O3 H3 σ3 k3 W3 E3
      exact ⟨by omega, O3, ρ2, st2, trivial, W3, kp.trans (ky.trans k3), E3, by rw [hxs]; exact RunS.later R' (ky.trans k3)⟩
     | ct ρ2 st2 =>
      rw [hgr] at R'
      intro O3 H3 σ3 k3 W3 E3
      exact ⟨by omega, O3, ρ2, st2, trivial, W3, kp.trans (ky.trans k3), E3, by rw [hxs]; exact RunS.later R' (ky.trans k3)⟩
     | bk ρ2 st2 =>
      rw [hgr] at R'
      exact fun O3 H3 σ3 k3 W3 E3 => R' O3 H3 σ3 (ky.trans k3) W3 E3
     | rt d st2 =>
      rw [hgr] at R'
      exact fun O3 H3 σ3 k3 W3 E3 => R' O3 H3 σ3 (ky.trans k3) W3 E3
     | exc c st2 =>
      rw [hgr] at R'
      exact fun O3 H3 k3 W3 => R' O3 H3 (ky.trans k3) W3
     | bad => rw [hgr] at R'; exact R'
  ·rw [if_neg hch] at R'; exact R'.elim
end
section
variable {X : Cx} {EX : EXT} {c : Expr} {t : DT} {g : DS} {pos : Pos} {body : List Stmt}
end
end DL
end
section
namespace DL
open PySem PySem.Spec PyProof.Rows L2
section
variable {prog : Program} {w : World} {A : Around} {E : Value → Shared → Prop} {R : Result → Shared → Prop} {s : Shared}
theorem compLoop_gen {elt target iter : Expr} {ifs : List Expr} {scope : Scope} {pos : Pos} {it acc : Value} {env : Env} (I : Nat → Shared → Prop)
  (turn : ∀ n s, I n s → wpAny (model prog w) A (pyNext it) (fun r s₁ => match r with
   | none => R (.ok .next) s₁
   | some v => wpAny (model prog w) A (letOwnedTupleGo target it v) (fun _ s₁' => wpAny (model prog w) A (assign target env v) (fun _ s₂ =>
     wpAny (model prog w) A (forIn ifs true fun c r => if r = true then do let ok ← isTrue c env (eval c env); pure (ForInStep.yield ok) else pure (ForInStep.yield r)) (fun ok s₃ =>
      if ok = true then wpAny (model prog w) A (eval elt env) (fun x s₄ =>
       wpAny (model prog w) A (call (.builtin "list.append") [acc, x]) (fun _ s₅ => ∃ m, m < n ∧ I m s₅) (fun _ _ => False) s₄) (fun _ _ => False) s₃
      else ∃ m, m < n ∧ I m s₃) (fun _ _ => False) s₂) (fun _ _ => False) s₁') (fun _ _ => False) s₁) (fun _ _ => False) s)
  (n : Nat) (h : I n s) :
  codeAny (model prog w) A (.compLoop (.ListComp elt [⟨target, iter, ifs, 0⟩] scope pos) 0 it acc env) R s:=by
 refine codeAny_loop rfl I (fun n s hI => ?_) n h
 show wpAny _ A ((compTurn (.ListComp elt [⟨target, iter, ifs, 0⟩] scope pos) 0 it acc env).onRaise (fun x => do noteFrame x env; theTreesLotGoes x)) _ _ s
 refine wpAny_noted ?_
 rw [compTurn_list]
 refine wpAny_bind (wpAny_standAt (wpAny_bind (wpAny_mono (turn n s hI) (fun r s₁ h₁ => ?_) fun _ _ h' => h'.elim)))
 cases r with
 | none => exact wpAny_pure h₁
 | some v =>
  refine wpAny_bind (wpAny_mono h₁ (fun _ s₁' h₁' => ?_) fun _ _ h' => h'.elim)
  refine wpAny_bind (wpAny_mono h₁' (fun _ s₂ h₂ => wpAny_bind (wpAny_mono h₂ (fun ok s₃ h₃ => ?_) fun _ _ h' => h'.elim)) fun _ _ h' => h'.elim)
  cases ok with
  | false => exact wpAny_pure ⟨rfl, h₃⟩
  | true =>
   exact wpAny_bind (wpAny_bind (wpAny_mono h₃ (fun x s₄ h₄ => wpAny_bind (wpAny_mono h₄ (fun _ s₅ h₅ => wpAny_pure (wpAny_pure ⟨rfl, h₅⟩)) fun _ _ h' => h'.elim)) fun _ _ h' => h'.elim))
theorem append_obj {l : Addr} {items : List Value} {n : Nat} {x : Value} {Q : Value → Shared → Prop} (ho : s.heap.get? l = some { cls := .type "list", data := .seq items.toArray n })
  (hQ : ∀ h', h'.get? l = some { cls := .type "list", data := .seq (items ++ [x]).toArray (n + 1) } → Heap.SameBut l s.heap h' → Q .none { s with heap := h' }) (hsz : items.length ≤ sizeLine) :
  wpAny (model prog w) A (call (.builtin "list.append") [.ref l, x]) Q E s := by
 have hl : s.heap.IsList l items.toArray:=⟨_, ho, rfl, n, rfl⟩
 refine wpAny_call_entry slot_list_append hl.typeIs entry_list_append ?_ (args_list_append _ _)
 show wpAny _ _ (updateSeq l (·.push x) >>= fun _ => ret .none) _ _ s
 refine wpAny_bind ?_
 refine wpAny_updateSeq (hz:=by rw [List.size_toArray]; exact hsz) ho rfl (wpAny_pure ⟨.none, rfl, hQ _ ?_ (Heap.SameBut.update ..)⟩)
 rw [Heap.get?_update_self _ ho (by rfl)]
 simp [Obj.mapSeq]
end
noncomputable def clOf (env : Env) : List (Str × NameKind) → List (Str × Addr) → List (Str × Addr)
 | [], acc => acc
 | (n, k) :: r, acc => if k == .free then (match env.cells.lookup n with
  | some a => clOf env r ((n, a) :: acc)
  | none => clOf env r acc) else clOf env r acc
theorem clos_run (env : Env) : ∀ (names : List (Str × NameKind)) (acc : List (Str × Addr)), (∀ y ∈ names, y.2 = .free → ∃ a, env.cells.lookup y.1 = some a) →
  (forIn names acc fun (x : Str × NameKind) (cs : List (Str × Addr)) => (if (x.2 == NameKind.free) = true then do let a ← cellOf env x.1; pure (ForInStep.yield ((x.1, a) :: cs)) else pure (ForInStep.yield cs) : Sem (ForInStep (List (Str × Addr))))) = pure (clOf env names acc)
 | [], acc, _ => rfl
 | (n, k) :: r, acc, h => by
  have ih:=fun acc => clos_run env r acc fun y hy => h y (List.mem_cons_of_mem _ hy)
  rw [List.forIn_cons]
  unfold clOf
  by_cases hk : (k == NameKind.free) = true
  ·obtain ⟨a, ha⟩:=h (n, k) List.mem_cons_self (by simpa using hk)
   have e : cellOf env n = pure a:=by unfold cellOf; rw [ha]
   simp only [hk, if_true, e, ha, pure_bind]
   exact ih _
  ·have hk' : (k == NameKind.free) = false:=by simpa using hk
   simp only [hk', Bool.false_eq_true, if_false, pure_bind]
   exact ih _
theorem closureFor_of {scope : Scope} {env : Env} (h : ∀ y ∈ scope.names, y.2 = .free → ∃ a, env.cells.lookup y.1 = some a) : closureFor scope env = pure (clOf env scope.names []):=by
 have e:=clos_run env scope.names [] h
 unfold closureFor
 simp only [bind_pure]
 refine Eq.trans ?_ e
 rfl
theorem clOf_look {env : Env} {x : Str} {c : Addr} : ∀ (names : List (Str × NameKind)) (acc : List (Str × Addr)), (∀ y a, acc.lookup y = some a → env.cells.lookup y = some a) → (clOf env names acc).lookup x = some c → env.cells.lookup x = some c
 | [], acc, h, e => h x c e
 | (n, k) :: r, acc, h, e => by
  unfold clOf at e
  split at e
  ·split at e
   ·rename_i a ha
    refine clOf_look r _ (fun y b hb => ?_) e
    rw [List.lookup_cons] at hb
    cases hy : y == n with
    | true =>
     rw [hy] at hb
     have ey : y = n:=eq_of_beq hy
     subst ey
     cases hb
     exact ha
    | false => rw [hy] at hb; exact h y b hb
   ·exact clOf_look r _ h e
  ·exact clOf_look r _ h e
theorem clOf_acc {env : Env} {x : Str} {c : Addr} (hx : env.cells.lookup x = some c) : ∀ (names : List (Str × NameKind)) (acc : List (Str × Addr)), acc.lookup x = some c ∨ (x, NameKind.free) ∈ names → (clOf env names acc).lookup x = some c
 | [], acc, h => by
  rcases h with h | h
  ·exact h
  ·cases h
 | (n, k) :: r, acc, h => by
  unfold clOf
  have keep : ∀ a, env.cells.lookup n = some a → acc.lookup x = some c → ((n, a) :: acc).lookup x = some c:=by
   intro a ha hl
   rw [List.lookup_cons]
   cases hy : x == n with
   | true =>
    have ey : x = n:=eq_of_beq hy
    subst ey
    rw [hx] at ha
    cases ha
    rfl
   | false => exact hl
  split
  ·rename_i hk
   split
   ·rename_i a ha
    refine clOf_acc hx r _ ?_
    rcases h with h | h
    ·exact .inl (keep a ha h)
    ·rcases List.mem_cons.mp h with e | h
     ·cases e
      refine .inl ?_
      rw [hx] at ha
      cases ha
      simp
     ·exact .inr h
   ·rename_i hn
    refine clOf_acc hx r _ ?_
    rcases h with h | h
    ·exact .inl h
    ·rcases List.mem_cons.mp h with e | h
     ·cases e
      rw [hx] at hn
      cases hn
     ·exact .inr h
  ·rename_i hk
   refine clOf_acc hx r _ ?_
   rcases h with h | h
   ·exact .inl h
   ·rcases List.mem_cons.mp h with e | h
    ·cases e
     exact absurd rfl hk
    ·exact .inr h
noncomputable def relS (scope sc : Scope) : Scope :=
 { scope with names:=scope.names.map fun (n, k) => if (k == .free && sc.kind == .function && sc.names.lookup n == some .cell) then (n, .cell) else (n, k) }
structure Blk (sc scope : Scope) (N0 N : List Str) (caps : List Nat) (nT : Nat) : Prop where
 kind : scope.kind = .function
 nocell : ∀ y ∈ scope.names, y.2 ≠ .cell
 names : ∀ y ∈ scope.names, y.2 = .local → scope.names.lookup y.1 = some .local
 free : ∀ y ∈ scope.names, y.2 = .free → sc.names.lookup y.1 = some .cell ∨ sc.names.lookup y.1 = some .free
 len : N.length = nT + caps.length
 cap : ∀ q ∈ (List.range caps.length), ∃ i x, caps[q]? = some i ∧ N[nT + q]? = some x ∧ N0[i]? = some x ∧ (x, NameKind.free) ∈ scope.names ∧ ((relS scope sc).names.lookup x = some .cell ∨ (relS scope sc).names.lookup x = some .free)
noncomputable def blkB (sc scope : Scope) (N0 N : List Str) (caps : List Nat) (nT : Nat) : Bool :=
 (scope.kind == .function) && scope.names.all (fun y => !(y.2 == .cell)) && scope.names.all (fun y => !(y.2 == .local) || scope.names.lookup y.1 == some .local) &&
  scope.names.all (fun y => !(y.2 == .free) || (sc.names.lookup y.1 == some .cell || sc.names.lookup y.1 == some .free)) && (N.length == nT + caps.length) &&
  (List.range caps.length).all fun q => match caps[q]?, N[nT + q]? with
   | some i, some x => (N0[i]? == some x) && scope.names.any (fun y => y.1 == x && y.2 == .free) && ((relS scope sc).names.lookup x == some .cell || (relS scope sc).names.lookup x == some .free)
   | _, _ => false
theorem Blk.of {sc scope : Scope} {N0 N : List Str} {caps : List Nat} {nT : Nat} (h : blkB sc scope N0 N caps nT = true) : Blk sc scope N0 N caps nT:=by
 unfold blkB at h
 simp only [Bool.and_eq_true] at h
 obtain ⟨⟨⟨⟨⟨h1, h2⟩, h3⟩, h4⟩, h5⟩, h6⟩:=h
 refine ⟨eq_of_beq h1, fun y hy => ?_, fun y hy hl => ?_, fun y hy hl => ?_, eq_of_beq h5, fun q hq => ?_⟩
 ·have:=List.all_eq_true.mp h2 y hy
  simpa using this
 ·have:=List.all_eq_true.mp h3 y hy
  rw [hl] at this
  simpa using this
 ·have:=List.all_eq_true.mp h4 y hy
  rw [hl] at this
  simpa using this
 ·have:=List.all_eq_true.mp h6 q hq
  split at this
  ·rename_i i x e1 e2
   simp only [Bool.and_eq_true, Bool.or_eq_true, List.any_eq_true, beq_iff_eq] at this
   obtain ⟨⟨g1, ⟨y, g2, g3, g4⟩⟩, g5⟩:=this
   refine ⟨i, x, e1, e2, g1, ?_, g5⟩
   obtain ⟨y1, y2⟩:=y
   simp only at g3 g4
   subst g3 g4
   exact g2
  ·cases this
noncomputable def cxC (X : Cx) (N : List Str) (scope : Scope) (acc : Addr) (fp : List Addr) (s3 : Shared) (H : Hp) : Cx :=
 { X with N:=N, s₀:=s3, H₀:=H, env:=compEnvC scope (clOf X.env scope.names []) s3.heap.objs.size X.env, outer:=X.stack, ex:=acc :: fp, fn:=fun _ => false, pn:=[], xe:=fun _ _ => False }
noncomputable def capEv (ρ : Ev) (caps : List Nat) (nT : Nat) : Ev:=List.replicate nT none ++ caps.map fun i => (ρ[i]?).join
noncomputable def capSt (σ : L2.St) (caps : List Nat) (nT : Nat) : L2.St:=List.replicate nT none ++ caps.map fun i => (σ[i]?).join
theorem capEnv {K : PySem.W.Frag} {O : List Addr} {H : Hp} {ρ : Ev} {σ : L2.St} (E : REnv K O H ρ σ) (caps : List Nat) (nT : Nat) : REnv K O H (capEv ρ caps nT) (capSt σ caps nT):=by
 refine ⟨by simp [capEv, capSt], fun i d h => ?_⟩
 unfold capEv at h
 unfold capSt
 by_cases hi : i < nT
 ·rw [List.getElem?_append_left (by simpa using hi), List.getElem?_replicate] at h
  split at h <;> cases h
 ·rw [List.getElem?_append_right (by simpa using hi)] at h ⊢
  rw [List.length_replicate, List.getElem?_map] at h ⊢
  cases hc : caps[i - nT]? with
  | none => rw [hc] at h; cases h
  | some j =>
   rw [hc] at h
   simp only [Option.map_some, Option.some.injEq] at h ⊢
   cases hj : ρ[j]? with
   | none => rw [hj] at h; cases h
   | some z =>
    rw [hj] at h
    simp only [Option.join_some] at h
    subst h
    obtain ⟨v, h1, h2⟩:=E.at_ j d hj
    exact ⟨v, by rw [h1]; rfl, h2⟩
section
variable {X : Cx} {pins : List (Addr × Obj)} {σ : L2.St} {H : Hp} {s : Shared} {scope : Scope} {N : List Str} {caps : List Nat} {nT : Nat} {fp : List Addr}
theorem blk_start (B : Blk X.env.scope scope X.N N caps nT) (I : Inv X pins σ H s) (hf : ∀ b ∈ fp, FpOk X pins H b) (ho : ∀ b ∈ fp, ∃ o, s.heap.get? b = some o) {h4 : Heap} {tk : Nat}
  (hns : h4.Ns (s.heap.push { cls := .type "list", data := .seq ([] : List Value).toArray }).objs.size (fun x => ([] : List (Str × Value)).reverse.lookup x))
  (hsb : Heap.SameBut (s.heap.push { cls := .type "list", data := .seq ([] : List Value).toArray }).objs.size ((s.heap.push { cls := .type "list", data := .seq ([] : List Value).toArray }).push { cls := .type "dict", data := .dict #[] }) h4) :
  Inv (cxC X N scope s.heap.objs.size fp { s with heap := s.heap.push { cls := .type "list", data := .seq ([] : List Value).toArray } } H) [] (capSt σ caps nT) H { s with heap := h4, toks := tk } := by
 generalize hH2 : s.heap.push { cls := .type "list", data := .seq ([] : List Value).toArray } = h3 at hns hsb ⊢
 have hC : h3.objs.size = s.heap.objs.size + 1:=by rw [← hH2, Heap.size_push]
 have k3 : ∀ b o, s.heap.get? b = some o → h3.get? b = some o:=fun b o e => hH2 ▸ Heap.get?_push_of_some _ e
 have I3 : Inv X pins σ H { s with heap:=h3 }:=I.kept (t':=s.toks) k3
 have k4 : ∀ b o, h3.get? b = some o → h4.get? b = some o:=fun b o e => hsb.extBut b o (Nat.ne_of_lt (Heap.lt_size e)) (Heap.get?_push_of_some _ e)
 have lt3 : ∀ b o, s.heap.get? b = some o → b < h3.objs.size:=fun b o e => Heap.lt_size (k3 b o e)
 have cells : ∀ x c, (clOf X.env scope.names []).lookup x = some c → X.env.cells.lookup x = some c:=fun x c e => clOf_look scope.names [] (fun y a z => by cases z) e
 have ok : (cxC X N scope s.heap.objs.size fp { s with heap:=h3 } H).Ok:=by
  refine ⟨I.ok.mod, B.kind, I.ok.glob, I.ok.blt, Nat.le_refl _, fun x y c h1 h2 => I.ok.inj x y c (cells _ _ h1) (cells _ _ h2), ?_, fun x c hx => (by cases hx), I.ok.hd, I.ok.frames, .inl rfl, ?_, I3.bs, Nat.le_trans I.ok.bsz (Nat.le_trans I.sz (by show s.heap.objs.size ≤ h3.objs.size; omega)), ?_, ?_, I3.stack, I3.stkFree⟩
  ·intro x hx
   have hx' : (relS scope X.env.scope).names.lookup x = some .cell ∨ (relS scope X.env.scope).names.lookup x = some .free:=hx
   have hm : (x, NameKind.free) ∈ scope.names:=by
    have mem : ∀ (l : List (Str × NameKind)), ((l.map fun (n, k) => if (k == NameKind.free && X.env.scope.kind == .function && X.env.scope.names.lookup n == some .cell) then (n, NameKind.cell) else (n, k)).lookup x = some .cell ∨ (l.map fun (n, k) => if (k == NameKind.free && X.env.scope.kind == .function && X.env.scope.names.lookup n == some .cell) then (n, NameKind.cell) else (n, k)).lookup x = some .free) → (∀ y ∈ l, y.2 ≠ .cell) → (x, NameKind.free) ∈ l:=by
     intro l
     induction l with
     | nil => intro h _; rcases h with h | h <;> cases h
     | cons y l ih =>
      obtain ⟨n, k⟩:=y
      intro h hnc
      rw [List.map_cons] at h
      by_cases hc : (k == NameKind.free && X.env.scope.kind == .function && X.env.scope.names.lookup n == some .cell) = true
      ·simp only [hc, if_true, List.lookup_cons] at h
       have hk : k = .free:=by simp only [Bool.and_eq_true] at hc; simpa using hc.1.1
       cases hy : x == n with
       | true => rw [eq_of_beq hy, hk]; exact List.mem_cons_self
       | false =>
        rw [hy] at h
        exact List.mem_cons_of_mem _ (ih h fun z hz => hnc z (List.mem_cons_of_mem _ hz))
      ·simp only [hc, if_false, List.lookup_cons, Bool.false_eq_true] at h
       cases hy : x == n with
       | true =>
        rw [hy] at h
        have hk : k = .free:=by
         rcases h with h | h
         ·exact absurd (Option.some.inj h) (hnc (n, k) List.mem_cons_self)
         ·exact Option.some.inj h
        rw [eq_of_beq hy, hk]; exact List.mem_cons_self
       | false =>
        rw [hy] at h
        exact List.mem_cons_of_mem _ (ih h fun z hz => hnc z (List.mem_cons_of_mem _ hz))
    exact mem scope.names hx' B.nocell
   obtain ⟨c, hc⟩:=I.ok.has x (B.free _ hm rfl)
   exact ⟨c, clOf_acc hc scope.names [] (.inr hm)⟩
  ·intro b hb
   rcases List.mem_cons.mp hb with rfl | hb
   ·refine ⟨?_, fun x c h1 h2 => ?_⟩
    ·show s.heap.objs.size ≠ h3.objs.size
     omega
    ·obtain ⟨v, o, ho', _⟩:=I.cell x c (cells _ _ h1)
     exact absurd (h2 ▸ Heap.lt_size ho') (Nat.lt_irrefl _)
   ·obtain ⟨o, ho'⟩:=ho b hb
    refine ⟨?_, fun x c h1 => (hf b hb).2.2.2.2.1 x c (cells _ _ h1)⟩
    exact Nat.ne_of_lt (lt3 b o ho')
  ·intro b o hb
   intro hm
   rcases List.mem_cons.mp hm with rfl | hm
   ·exact absurd (Heap.lt_size (I.bk _ _ hb)) (Nat.lt_irrefl _)
   ·rcases (hf b hm).2.2.2.1 with h1 | h1
    ·exact I.ok.noex b o hb h1
    ·exact absurd (Nat.lt_of_lt_of_le (Heap.lt_size (I.ok.bs b o hb).1) h1) (Nat.lt_irrefl _)
  ·intro b hb hm
   rcases List.mem_cons.mp hb with rfl | hb
   ·rcases List.mem_cons.mp (I.stkSub _ hm) with h1 | h1
    ·have:=I.lt
     rw [← h1] at this
     exact absurd this (Nat.lt_irrefl _)
    ·exact I.nofs (Nat.le_refl _) h1
   ·rcases List.mem_cons.mp (I.stkSub _ hm) with h1 | h1
    ·exact (hf b hb).2.1 h1
    ·exact (hf b hb).2.2.1 h1
 refine ⟨ok, rfl, I.bare, Un.kept k4, ?_, ?_, ?_, ?_, (fun p hp => (by cases hp)), I3.hok.kept k4, ?_⟩
 ·refine ⟨_, hns, fun i x v h1 h2 hv => ?_⟩
  by_cases hi : i < nT
  ·unfold capSt at h2
   rw [List.getElem?_append_left (by simpa using hi), List.getElem?_replicate] at h2
   split at h2 <;> cases h2
  ·unfold capSt at h2
   rw [List.getElem?_append_right (by simpa using hi), List.length_replicate, List.getElem?_map] at h2
   cases hc : caps[i - nT]? with
   | none => rw [hc] at h2; cases h2
   | some j =>
    rw [hc] at h2
    simp only [Option.map_some, Option.some.injEq] at h2
    cases hj : σ[j]? with
    | none => rw [hj] at h2; cases h2
    | some z =>
     rw [hj] at h2
     simp only [Option.join_some] at h2
     subst h2
     have hq : i - nT < caps.length:=(List.getElem?_eq_some_iff.mp hc).1
     obtain ⟨j', x', e1, e2, e3, e4, e5⟩:=B.cap (i - nT) (List.mem_range.mpr hq)
     rw [hc] at e1
     cases e1
     have en : nT + (i - nT) = i:=by omega
     rw [en] at e2
     have ex : x' = x:=Option.some.inj (e2.symm.trans h1)
     subst ex
     have hk:=B.free _ e4 rfl
     obtain ⟨m, hm, hloc⟩:=I.loc
     obtain ⟨u, ru, lk⟩:=hloc j x' v e3 hj (hk.elim (fun z => .inr (.inl z)) fun z => .inr (.inr z))
     rcases lk with ⟨hl, _⟩ | ⟨_, c, hc1, hc2⟩
     ·rcases hk with hk | hk
      ·have : X.env.scope.names.lookup x' = some .local:=hl
       rw [hk] at this; cases this
      ·have : X.env.scope.names.lookup x' = some .local:=hl
       rw [hk] at this; cases this
     ·refine ⟨u, ru, .inr ⟨e5, c, clOf_acc hc1 scope.names [] (.inr e4), ?_⟩⟩
      obtain ⟨o, ho', hd⟩:=hc2
      exact ⟨o, k4 _ _ (k3 _ _ ho'), hd⟩
 ·intro x c h1
  obtain ⟨v, o, ho', hd⟩:=I.cell x c (cells _ _ h1)
  exact ⟨v, o, k4 _ _ (k3 _ _ ho'), hd⟩
 ·exact I3.hok.fresh (Nat.le_refl _)
 ·intro x c h1
  exact I.freeC x c (cells _ _ h1)
 ·show (capSt σ caps nT).length = N.length
  rw [B.len]
  simp [capSt]
end
end DL
end
section
namespace DL
open PySem PySem.Spec PyProof.Rows L2
section
variable {X : Cx} {pins : List (Addr × Obj)} {σ : L2.St} {H : Hp} {s : Shared} {scope : Scope} {N : List Str} {fp : List Addr}
theorem blk_end (I : Inv X pins σ H s) (hf : ∀ b ∈ fp, FpOk X pins H b) {σc : L2.St} {H' : Hp} {s' : Shared} {vs : List V} {its : List Value} {n : Nat}
  (J : Inv (cxC X N scope s.heap.objs.size fp { s with heap := s.heap.push { cls := .type "list", data := .seq ([] : List Value).toArray } } H) [] σc H' s')
  (ha : s'.heap.get? s.heap.objs.size = some { cls := .type "list", data := .seq its.toArray n }) (hn : H' s.heap.objs.size = none) (hv : Vals vs its) (hz : vs.length ≤ sizeLine) : Inv X pins σ (upd H' s.heap.objs.size (.lst vs)) s' := by
 have u:=J.base
 have push : ∀ b o, s.heap.get? b = some o → (s.heap.push { cls := .type "list", data := .seq ([] : List Value).toArray }).get? b = some o := fun b o e => Heap.get?_push_of_some _ e
 have ne : ∀ b o, s.heap.get? b = some o → b ≠ s.heap.objs.size:=fun b o e => Nat.ne_of_lt (Heap.lt_size e)
 have nex : ∀ b o, s.heap.get? b = some o → b ∉ fp → b ∉ s.heap.objs.size :: fp:=fun b o e hb hm => by
  rcases List.mem_cons.mp hm with h | h
  ·exact ne b o e h
  ·exact hb h
 refine I.call' (ch:=fp) J.os ?_ ?_ J.bare fun b hb => ⟨(hf b hb).2.2.2.1, (hf b hb).2.1, (hf b hb).2.2.2.2.1, (hf b hb).2.2.2.2.2⟩
 ·refine ⟨fun b o e h0 h1 h2 => u.keep b o (push b o e) h0 h1 (nex b o e h2), fun b o e h0 h1 h2 => u.slot b o (push b o e) h0 h1 (nex b o e h2), fun b o e h0 h2 => ?_, fun b o e h2 => u.there b o (push b o e) (nex b o e h2), fun b xs e => ?_, fun b o w e => ?_, fun b ps e => ?_⟩
  ·rw [upd_ne (ne b o e)]
   exact u.free b o (push b o e) h0 (nex b o e h2)
  ·have h1:=u.tups b xs e
   rw [upd_ne (ne_of_none h1 hn)]
   exact h1
  ·have h1:=u.frzs b o w e
   rw [upd_ne (ne_of_none h1 hn)]
   exact h1
  ·obtain ⟨more, h1⟩:=u.tbls b ps e
   exact ⟨more, by rw [upd_ne (ne_of_none h1 hn)]; exact h1⟩
 ·intro a o e
  by_cases haa : a = s.heap.objs.size
  ·subst haa
   rw [upd_same] at e
   cases e
   exact ⟨hz, its, n, hv, ha⟩
  ·rw [upd_ne haa] at e
   exact (J.hok a o e).stay (fun b u _ q => q) (fun b q => by rw [upd_ne (ne_of_none q hn)]; exact q) fun b xs q => by rw [upd_ne (ne_of_none q hn)]; exact q
end
noncomputable def dTrue : DT:=fun _ st => .ok true st
open Classical in
noncomputable def compD (chk : Sto → Prop) (t : TgD) (cond : DT) (fe : DE) : List D → Ev → Sto → List D → Out (List D)
 | [], _, st, acc => if chk st then .ok acc st else .bad
 | x :: xs, ρ, st, acc => if chk st ∧ acc.length < small then (match t x ρ with
  | none => .bad
  | some ρ1 => match cond ρ1 st with
   | .ok true st1 => (match fe ρ1 st1 with
    | .ok d st2 => compD chk t cond fe xs ρ1 st2 (acc ++ [d])
    | _ => .bad)
   | .ok false st1 => compD chk t cond fe xs ρ1 st1 acc
   | _ => .bad) else .bad
noncomputable def dComp (caps : List Nat) (nT : Nat) (f : DI) (t : TgD) (cond : DT) (fe : DE) : DA:=fun ρ st => (f ρ st).bind fun q st1 => compD q.2 t cond fe q.1 (capEv ρ caps nT) st1 []
noncomputable def PTs (X : Cx) (ifs : List Expr) (cond : DT) : Prop:=∀ (pins : List (Addr × Obj)) (s : Shared) (σ : L2.St) (H : Hp) (Q : Bool → Hp → Prop), Inv X pins σ H s → tDT X.K EX0 cond σ H Q →
 wpAny (model X.prog X.w) X.A (forIn ifs true fun c r => if r = true then do let ok ← isTrue c X.env (eval c X.env); pure (ForInStep.yield ok) else pure (ForInStep.yield r)) (TP X pins σ Q) X.xe s
theorem pts_nil {X : Cx} : PTs X [] dTrue:=by
 rintro pins s σ H Q I ⟨O, ρ, st, W, E, R⟩
 exact wpAny_tests_nil ⟨H, I, Run.now (k:=fun b _ _ H' => Q b H') R W⟩
theorem pts_one {X : Cx} {c : Expr} {t : DT} (h : PDT X EX0 c t) : PTs X [c] t:=fun pins s σ H Q I q => wpAny_tests_one (h pins s σ H Q I q)
section
variable {X : Cx} {EX : EXT} {scope : Scope} {N : List Str} {caps : List Nat} {nT : Nat} {elt tg iter : Expr} {ifs : List Expr} {pos : Pos} {f : DI} {t : TgD} {cond : DT} {fe : DE}
structure BlkOk (X : Cx) (scope : Scope) (N : List Str) (caps : List Nat) (nT : Nat) (tg elt : Expr) (ifs : List Expr) (t : TgD) (cond : DT) (fe : DE) : Prop where
 blk : Blk X.env.scope scope X.N N caps nT
 tgt : ∀ acc fp s3 H, PGD (cxC X N scope acc fp s3 H) tg t
 tst : ∀ acc fp s3 H, PTs (cxC X N scope acc fp s3 H) ifs cond
 elt : ∀ acc fp s3 H, PD (cxC X N scope acc fp s3 H) EX0 elt fe
noncomputable def ItF (K : PySem.W.Frag) (J : It) (O0 : List Addr) (H0 : Hp) (q : Wk) : Prop :=
 ∀ (i : Nat) (O : List Addr) (H : Hp) (st : Sto), Keep K O0 H0 O H → (∀ b o u, H0 b = some (.frz o u) → H b = some (.frz o u)) → WR K O H st → q.2 st →
  (∀ d, q.1[i]? = some d → J.go i H ∧ ∀ x H', J.yld i H x H' → Keep K O H O H' ∧ WR K O H' st ∧ Rep K O H' d x) ∧ (q.1.length ≤ i → J.stop i H)
theorem ItD.fz {K : PySem.W.Frag} {J : It} {O0 : List Addr} {H0 : Hp} {q : Wk} (h : ItD K J O0 H0 q) : ItF K J O0 H0 q:=fun i O H st k _ => h i O H st k
theorem lc_block (hc : X.calm = true) (B : BlkOk X scope N caps nT tg elt ifs t cond fe) {pins : List (Addr × Obj)} {σ : L2.St} {H : Hp} {s : Shared} {O : List Addr} {ρ : Ev} {st : Sto} {q : Wk} {J : It} {fp : List Addr} {it : Addr} {tn : Nat → Heap → Prop} {Q : VK} {E : Value → Shared → Prop}
  {RR : Value → Addr → Result → Shared → Prop}
  (I : Inv X pins σ H s) (T : Turn X.prog X.w X.K tg J fp it tn) (h0 : tn 0 s.heap) (hf : ∀ b ∈ fp, FpOk X pins H b) (hJ : ItF X.K J O H q) (W : WR X.K O H st) (Er : REnv X.K O H ρ σ)
  (R : Run X.K EX O H (compD q.2 t cond fe q.1 (capEv ρ caps nT) st []) (New X.K Q))
  (hRR : ∀ (p C : Addr) (H' : Hp) (vs : List V) (s' : Shared) (m : Str → Option Value), s.heap.objs.size ≤ C → H' C = none → s'.heap.Ns C m → p ≠ C → Inv X pins σ (upd H' p (.lst vs)) s' → Q (.ref p) (upd H' p (.lst vs)) → RR (.ref p) C (.ok .next) s') :
  wpAny (model X.prog X.w) X.A (newList []) (fun acc s₃ => wpAny (model X.prog X.w) X.A (newFunctionEnv scope X.env.globals (clOf X.env scope.names []) [] X.env.qual none .none (some X.env)) (fun cenv s₄ =>
   codeAny (model X.prog X.w) X.A (.compStart (.ListComp elt [⟨tg, iter, ifs, 0⟩] scope pos) 0 (.ref it) acc { cenv with scope:=relabel scope X.env }) (RR acc cenv.locals) s₄) E s₃) E s:=by
 refine wpAny_newObj_type (wpAny_newFunctionEnv B.blk.nocell (by intro y hy; simp at hy) (fun h₁ hns₁ hsb₁ => ?_) B.blk.kind)
 dsimp only at hns₁ hsb₁ ⊢
 have ltC : s.heap.objs.size < (s.heap.push { cls := .type "list", data := .seq ([] : List Value).toArray }).objs.size := by rw [Heap.size_push]; exact Nat.lt_succ_self _
 have fpo : ∀ b ∈ fp, ∃ o, s.heap.get? b = some o:=fun b hb => let ⟨o, e, _⟩:=T.obj 0 _ h0 b hb; ⟨o, e⟩
 have I4:=blk_start (tk:=s.toks + ([] : List (Str × Value)).length) B.blk I hf fpo hns₁ hsb₁
 have fpne : ∀ b ∈ fp, b ≠ s.heap.objs.size:=fun b hb => let ⟨o, e⟩:=fpo b hb; Nat.ne_of_lt (Heap.lt_size e)
 generalize hXC : cxC X N scope s.heap.objs.size fp { s with heap := s.heap.push { cls := .type "list", data := .seq ([] : List Value).toArray } } H = XC at I4
 have fok : ∀ (H' : Hp) (P : List (Addr × Obj)), (∀ b ∈ fp, H' b = none) → (∀ p ∈ P, p.1 ∉ fp) → ∀ b ∈ fp, FpOk XC P H' b:=by
  intro H' P h1 h2 b hb
  subst hXC
  obtain ⟨o, e⟩:=fpo b hb
  refine ⟨h1 b hb, Nat.ne_of_lt (Nat.lt_trans (Heap.lt_size e) ltC), fun hm => ?_, .inl (List.mem_cons_of_mem _ hb), fun x c hx => (hf b hb).2.2.2.2.1 x c (clOf_look scope.names [] (fun y a z => (by cases z)) hx), fun p hp hpe => h2 p (by have hp' : p ∈ [] ++ P:=hp; simpa using hp') (hpe ▸ hb)⟩
  rcases List.mem_cons.mp (I.stkSub _ hm) with z | z
  ·exact (hf b hb).2.1 z
  ·exact (hf b hb).2.2.1 z
 have aok : ∀ (H' : Hp), H' s.heap.objs.size = none → FpOk XC [] H' s.heap.objs.size:=by
  intro H' h1
  subst hXC
  refine ⟨h1, Nat.ne_of_lt ltC, fun hm => ?_, .inl List.mem_cons_self, fun x c hx z => ?_, fun p hp => by cases hp⟩
  ·rcases List.mem_cons.mp (I.stkSub _ hm) with z | z
   ·have:=I.lt
    rw [← z] at this
    exact absurd this (Nat.lt_irrefl _)
   ·exact I.nofs (Nat.le_refl _) z
  ·obtain ⟨v, o, ho', _⟩:=I.cell x c (clOf_look scope.names [] (fun y a z => (by cases z)) hx)
   exact absurd (z ▸ Heap.lt_size ho') (Nat.lt_irrefl _)
 have k4 : ∀ b o, s.heap.get? b = some o → h₁.get? b = some o:=fun b o e => hsb₁.extBut b o (Nat.ne_of_lt (Nat.lt_trans (Heap.lt_size e) ltC)) (Heap.get?_push_of_some _ (Heap.get?_push_of_some _ e))
 have hacc0 : h₁.get? s.heap.objs.size = some { cls := .type "list", data := .seq ([] : List Value).toArray } := hsb₁.extBut _ _ (Nat.ne_of_lt ltC) (Heap.get?_push_of_some _ (Heap.get?_push_size _ rfl))
 have eP : XC.prog = X.prog:=by subst hXC; rfl
 have eW : XC.w = X.w:=by subst hXC; rfl
 have eK : XC.K = X.K:=by subst hXC; rfl
 have eA : XC.A = X.A:=by subst hXC; rfl
 have eC : XC.calm = true:=by subst hXC; exact hc
 have eX : XC.xe = fun _ _ => False:=by subst hXC; rfl
 have eE : XC.env = compEnvC scope (clOf X.env scope.names []) (s.heap.push { cls := .type "list", data := .seq ([] : List Value).toArray }).objs.size X.env := by subst hXC; rfl
 have loop : ∀ s4 : Shared, s4 = { s with heap:=h₁, toks:=s.toks + ([] : List (Str × Value)).length } →
   codeAny (model X.prog X.w) X.A (.compLoop (.ListComp elt [⟨tg, iter, ifs, 0⟩] scope pos) 0 (.ref it) (.ref s.heap.objs.size) XC.env) (RR (.ref s.heap.objs.size) (s.heap.push { cls := .type "list", data := .seq ([] : List Value).toArray }).objs.size) s4 := by
  intro s4 es4
  refine compLoop_gen (fun n s' => ∃ (i : Nat) (O' : List Addr) (ρ' : Ev) (st' : Sto) (ds : List D) (vs : List V) (its : List Value) (nn : Nat) (H' : Hp) (σc : L2.St), n + i = q.1.length ∧ Inv XC [] σc H' s' ∧ Keep X.K O H O' H' ∧ WR X.K O' H' st' ∧ REnv X.K O' H' ρ' σc ∧ tn i s'.heap ∧
   (∀ b ∈ fp, H' b = none) ∧ s'.heap.get? s.heap.objs.size = some { cls := .type "list", data := .seq its.toArray nn } ∧ H' s.heap.objs.size = none ∧ Vals vs its ∧ Reps X.K O' H' ds vs ∧ ds.length ≤ small ∧ Run X.K EX O' H' (compD q.2 t cond fe (q.1.drop i) ρ' st' ds) (New X.K Q)) ?_ q.1.length ?_
  ·rintro n s' ⟨i, O', ρ', st', ds, vs, its, nn, H', σc, hn, Ic, kp, W', E', htn, hfn, hacc, haccH, hv, hr, hz, hR⟩
   have IcA : Inv XC (pinsAt [s.heap.objs.size] s'.heap) σc H' s':=by
    have:=Ic.pinned (fp:=[s.heap.objs.size]) (fun b hb => by rw [List.mem_singleton] at hb; subst hb; exact aok H' haccH) (fun b hb => by rw [List.mem_singleton] at hb; subst hb; exact ⟨_, hacc, fun v z => by cases z⟩)
    simpa using this
   have pA : ∀ p ∈ pinsAt [s.heap.objs.size] s'.heap, p.1 ∉ fp:=fun p hp hm => by
    have:=(of_pinsAt hp).1
    rw [List.mem_singleton] at this
    exact fpne _ hm this
   have fz : ∀ b o u, H b = some (.frz o u) → H' b = some (.frz o u):=by subst hXC; exact Ic.base.frzs
   have hpin : (s.heap.objs.size, ({ cls := .type "list", data := .seq its.toArray nn } : Obj)) ∈ pinsAt [s.heap.objs.size] s'.heap := mem_pinsAt (List.mem_singleton.mpr rfl) hacc
   cases hd : q.1.drop i with
   | nil =>
    rw [hd] at hR
    unfold compD at hR
    by_cases hch : q.2 st'
    ·rw [if_pos hch] at hR
     have hl : q.1.length ≤ i:=List.drop_eq_nil_iff.mp hd
     have hstop:=(hJ i O' H' st' kp fz W' hch).2 hl
     have hw:=T.done XC eP eW eK eC i (pinsAt [s.heap.objs.size] s'.heap) s' σc H' (fun _ _ => False) IcA (fok H' _ hfn pA) htn hstop
     rw [eA] at hw
     refine wpAny_mono hw (fun r s1 hr1 => ?_) fun _ _ z => z
     obtain ⟨rfl, I1⟩:=hr1
     obtain ⟨p1, p2, _⟩:=I1.pin _ (List.mem_append_right _ hpin)
     obtain ⟨m, hm, _⟩:=I1.loc
     have I1' : Inv XC [] σc H' s1:=I1.pins_of fun p hp => I1.pin p (List.mem_append_left _ (by simpa using hp))
     have hCf:=I1.free
     rw [eE] at hm hCf
     refine hRR _ _ H' vs s1 m (Nat.le_of_lt ltC) hCf hm (Nat.ne_of_lt ltC) ?_ (Run.now (k:=New X.K Q) hR W' _ vs hr haccH)
     subst hXC
     exact blk_end I hf I1' p1 haccH hv (by rw [← hr.length]; exact Nat.le_trans hz small_le)
    ·rw [if_neg hch] at hR; exact hR.elim
   | cons x xs =>
    rw [hd] at hR
    unfold compD at hR
    have hx : q.1[i]? = some x:=by
     have:=List.getElem?_drop (xs:=q.1) (i:=i) (j:=0)
     rw [hd] at this
     simpa using this.symm
    have hxs : q.1.drop (i + 1) = xs:=by
     have:=List.drop_drop (i:=1) (j:=i) (l:=q.1)
     rw [hd] at this
     simpa using this.symm
    have hi : i < q.1.length:=(List.getElem?_eq_some_iff.mp hx).1
    by_cases hch : q.2 st' ∧ ds.length < small
    ·rw [if_pos hch] at hR
     obtain ⟨hgo, hy⟩:=(hJ i O' H' st' kp fz W' hch.1).1 x hx
     have hw:=T.item XC eP eW eK eC i (pinsAt [s.heap.objs.size] s'.heap) s' σc H' (fun _ _ => False) IcA (fok H' _ hfn pA) htn hgo
     rw [eA] at hw
     refine wpAny_mono hw (fun r s1 hr1 => ?_) fun _ _ z => z
     obtain ⟨u, rfl, hw2⟩:=hr1
     refine wpAny_mono hw2 (fun _ s2 hr2 => ?_) fun _ _ z => z
     obtain ⟨x', H1, I1, rx, hyl, htn1, hfn1⟩:=hr2
     obtain ⟨ky, Wy, ry⟩:=hy x' H1 hyl
     cases ht : t x ρ' with
     | none => rw [ht] at hR; exact hR.elim
     | some ρ1 =>
      rw [ht] at hR
      dsimp only at hR
      have I1' : Inv XC (pinsAt [s.heap.objs.size] s'.heap ++ pinsAt fp s2.heap) σc H1 s2:=I1.pinned (fok H1 _ hfn1 pA) fun b hb => T.obj (i + 1) _ htn1 b hb
      generalize hP2 : pinsAt [s.heap.objs.size] s'.heap ++ pinsAt fp s2.heap = P2 at I1'
      have hpa : (s.heap.objs.size, ({ cls := .type "list", data := .seq its.toArray nn } : Obj)) ∈ P2 := hP2 ▸ List.mem_append_left _ hpin
      have hpf : ∀ b ∈ fp, ∀ o, s2.heap.get? b = some o → (b, o) ∈ P2:=fun b hb o e => hP2 ▸ List.mem_append_right _ (mem_pinsAt hb e)
      have back : ∀ {σ2 : L2.St} {H2 : Hp} {s3 : Shared}, Inv XC P2 σ2 H2 s3 → s3.heap.get? s.heap.objs.size = some { cls := .type "list", data := .seq its.toArray nn } ∧ H2 s.heap.objs.size = none ∧ (∀ b ∈ fp, H2 b = none) ∧ (∀ b ∈ fp, ∀ o, s2.heap.get? b = some o → s3.heap.get? b = some o) ∧ Inv XC [] σ2 H2 s3 := by
       intro σ2 H2 s3 I3
       refine ⟨(I3.pin _ (List.mem_append_right _ hpa)).1, (I3.pin _ (List.mem_append_right _ hpa)).2.1, fun b hb => ?_, fun b hb o e => (I3.pin _ (List.mem_append_right _ (hpf b hb o e))).1, I3.pins_of fun p hp => I3.pin p (List.mem_append_left _ (by simpa using hp))⟩
       obtain ⟨o, e, _⟩:=T.obj (i + 1) _ htn1 b hb
       exact (I3.pin _ (List.mem_append_right _ (hpf b hb o e))).2.1
      have PG1 : PGD XC tg t:=by subst hXC; exact B.tgt _ _ _ _
      have PT1 : PTs XC ifs cond:=by subst hXC; exact B.tst _ _ _ _
      have PE1 : PD XC EX0 elt fe:=by subst hXC; exact B.elt _ _ _ _
      have ha:=PG1 P2 s2 σc H1 x' u (fun σ' H'' => H'' = H1 ∧ REnv X.K O' H1 ρ1 σ') I1' rx ⟨O', x, ρ', ρ1, by rw [eK]; exact ry, by rw [eK]; exact E'.mono ky, ht, fun σ' E2 => ⟨rfl, by rw [eK] at E2; exact E2⟩⟩
      rw [eP, eW, eA, eX] at ha
      refine wpAny_mono ha (fun _ s3 hr3 => ?_) fun _ _ z => z
      obtain ⟨σ2, H1', I3, rfl, E2⟩:=hr3
      have hb:=PT1 P2 s3 σ2 H1' (fun b H'' => ∃ O'' stb, cond ρ1 st' = .ok b stb ∧ Keep X.K O' H1' O'' H'' ∧ WR X.K O'' H'' stb) I3 ⟨O', ρ1, st', by rw [eK]; exact Wy, by rw [eK]; exact E2, by
       rw [eK]
       cases hcnd : cond ρ1 st' with
       | ok b stb => exact fun O'' H'' k W => ⟨O'', stb, rfl, k, W⟩
       | exc c stb => rw [hcnd] at hR; exact hR.elim
       | bad => rw [hcnd] at hR; exact hR.elim⟩
      rw [eP, eW, eA, eX] at hb
      refine wpAny_mono hb (fun ok s4 hr4 => ?_) fun _ _ z => z
      obtain ⟨H2, I4', O2, stb, hcnd, kb, Wb⟩:=hr4
      rw [hcnd] at hR
      cases ok with
      | false =>
       dsimp only at hR
       obtain ⟨b1, b2, b3, b4, b5⟩:=back I4'
       refine ⟨n - 1, by omega, i + 1, O2, ρ1, stb, ds, vs, its, nn, H2, σ2, by omega, b5, kp.trans (ky.trans kb), Wb, E2.mono kb, T.keep _ _ _ htn1 b4, b3, b1, b2, hv, Reps.mono (ky.trans kb) _ _ hr, hz, ?_⟩
       rw [hxs]
       exact Run.later hR (ky.trans kb)
      | true =>
       dsimp only at hR
       have he:=PE1 P2 s4 σ2 H2 (fun v H3 => ∃ O3 st3 d, fe ρ1 stb = .ok d st3 ∧ Keep X.K O2 H2 O3 H3 ∧ WR X.K O3 H3 st3 ∧ Rep X.K O3 H3 d v) I4' ⟨O2, ρ1, stb, by rw [eK]; exact Wb, by rw [eK]; exact E2.mono kb, by
        rw [eK]
        cases hfe : fe ρ1 stb with
        | ok d st3 => exact fun O3 H3 k W v r => ⟨O3, st3, d, rfl, k, W, r⟩
        | exc c st3 => rw [hfe] at hR; exact hR.elim
        | bad => rw [hfe] at hR; exact hR.elim⟩
       rw [eP, eW, eA, eX] at he
       refine wpAny_mono he (fun uv s5 hr5 => ?_) fun _ _ z => z
       obtain ⟨v, H3, I5, rv, O3, st3, d, hfe, ke, We, re⟩:=hr5
       rw [hfe] at hR
       dsimp only at hR
       obtain ⟨b1, b2, b3, b4, b5⟩:=back I5
       refine append_obj b1 (fun h6 hg6 hs6 => ?_) (by rw [← hv.length, ← hr.length]; exact Nat.le_trans hz small_le)
       obtain ⟨f0, f1, f2, f3, f4, f5⟩:=aok H3 b2
       have I6 : Inv XC [] σ2 H3 { s5 with heap:=h6 }:=b5.turned (t':=s5.toks) (fun b o hb e => (hs6.2 b hb).trans e) f0 f1 f3 f4 f5
       refine ⟨n - 1, by omega, i + 1, O3, ρ1, st3, ds ++ [d], vs ++ [v], its ++ [uv], nn + 1, H3, σ2, by omega, I6, kp.trans (ky.trans (kb.trans ke)), We, E2.mono (kb.trans ke), T.keep _ _ _ htn1 (fun b hb o e => (hs6.2 b (fpne b hb)).trans (b4 b hb o e)), b3, hg6, b2, hv.append (.cons rv .nil), (Reps.mono (ky.trans (kb.trans ke)) _ _ hr).append (Reps.one re), by rw [List.length_append]; exact hch.2, ?_⟩
       rw [hxs]
       exact Run.later hR (ky.trans (kb.trans ke))
    ·rw [if_neg hch] at hR; exact hR.elim
  ·subst es4
   refine ⟨0, O, capEv ρ caps nT, st, [], [], [], 0, H, capSt σ caps nT, rfl, I4, Keep.refl, W, capEnv Er caps nT, T.keep _ _ _ h0 (fun b hb o e => k4 b o e), fun b hb => (hf b hb).1, hacc0, I.hok.fresh (Nat.le_refl _), .nil, Reps.nil_i.mpr rfl, Nat.zero_le _, ?_⟩
   rw [List.drop_zero]
   exact R
 have e5 : ({ newEnv scope (s.heap.push { cls := .type "list", data := .seq ([] : List Value).toArray }).objs.size X.env.globals (clOf X.env scope.names []) X.env.qual none .none (some X.env) builtinsNs with scope := relabel scope X.env } : Env) = XC.env := by rw [eE]; rfl
 have h5:=loop _ rfl
 refine codeAny_compStart_list ?_ ?_
 ·exact e5 ▸ h5
 ·exact T.self _ 0 _ _ _ (T.keep _ _ _ h0 (fun b hb o e => k4 b o e)) (e5 ▸ h5)
end
end DL
end
section
namespace DL
open PySem PySem.Spec PyProof.Rows L2
section
variable {X : Cx} {EX : EXT} {scope : Scope} {N : List Str} {caps : List Nat} {nT : Nat} {elt tg iter : Expr} {ifs : List Expr} {pos spos py : Pos} {f : DI} {t : TgD} {cond : DT} {fe : DE} {y : Str}
theorem gone {pins : List (Addr × Obj)} {σ : L2.St} {H H1 : Hp} {s s1 : Shared} {C : Addr} {h' : Heap} (I : Inv X pins σ H s) (hC : s.heap.objs.size ≤ C) {σ1 : L2.St} (I1 : Inv X pins σ1 H1 s1) (hn : H1 C = none) (hs : Heap.SameBut C s1.heap h') : Inv X pins σ1 H1 { s1 with heap:=h' }:=by
 refine I1.turned (t':=s1.toks) (fun b o hb e => (hs.2 b hb).trans e) hn ?_ (.inr (Nat.le_trans I.sz hC)) ?_ ?_
 ·intro z
  exact absurd (Nat.lt_of_lt_of_le I.lt (z ▸ hC)) (Nat.lt_irrefl _)
 ·intro x c hx z
  obtain ⟨v, o, ho, _⟩:=I.cell x c hx
  exact absurd (Nat.lt_of_lt_of_le (Heap.lt_size ho) (z ▸ hC)) (Nat.lt_irrefl _)
 ·intro p hp z
  obtain ⟨h1, _⟩:=I.pin p hp
  exact absurd (Nat.lt_of_lt_of_le (Heap.lt_size h1) (z ▸ hC)) (Nat.lt_irrefl _)
noncomputable def LcI (X : Cx) (EX : EXT) (pins : List (Addr × Obj)) (σ : L2.St) (tg : Expr) (caps : List Nat) (nT : Nat) (t : TgD) (cond : DT) (fe : DE) (Q : VK) (itv : Value) (s2 : Shared) : Prop :=
 ∃ (it : Addr) (fp : List Addr) (tn : Nat → Heap → Prop) (J : It) (H1 : Hp), itv = .ref it ∧ Inv X pins σ H1 s2 ∧ Turn X.prog X.w X.K tg J fp it tn ∧ tn 0 s2.heap ∧ (∀ b ∈ fp, FpOk X pins H1 b) ∧
  ∃ O1 ρ q st1 Q', ItF X.K J O1 H1 q ∧ WR X.K O1 H1 st1 ∧ REnv X.K O1 H1 ρ σ ∧ Run X.K EX O1 H1 (compD q.2 t cond fe q.1 (capEv ρ caps nT) st1 []) (New X.K Q') ∧
   ∀ p vs H2, Q' (.ref p) (upd H2 p (.lst vs)) → ∃ H3, Q (.ref p) H3 ∧ (∀ C, C ≠ p → H2 C = none → H3 C = none) ∧ ∀ σ' s', Inv X pins σ' (upd H2 p (.lst vs)) s' → Inv X pins σ' H3 s'
noncomputable def PLc (X : Cx) (EX : EXT) (tg iter : Expr) (caps : List Nat) (nT : Nat) (t : TgD) (cond : DT) (fe : DE) (F : DA) : Prop :=
 ∀ (pins : List (Addr × Obj)) (s : Shared) (σ : L2.St) (H : Hp) (Q : VK), Inv X pins σ H s → tDF X.K EX F σ H Q →
  wpAny (model X.prog X.w) X.A (eval iter X.env) (fun v s1 => wpAny (model X.prog X.w) X.A (pyIter v) (LcI X EX pins σ tg caps nT t cond fe Q) X.xe s1) X.xe s
theorem plc_of (hi : PID X EX tg iter f) : PLc X EX tg iter caps nT t cond fe (dComp caps nT f t cond fe):=by
 rintro pins s σ H Q I ⟨O, ρ, st, W, E, R⟩
 refine wpAny_mono (hi pins s σ H (fun J H1 => ∃ O1 ρ q st1, ItD X.K J O1 H1 q ∧ WR X.K O1 H1 st1 ∧ REnv X.K O1 H1 ρ σ ∧ Run X.K EX O1 H1 (compD q.2 t cond fe q.1 (capEv ρ caps nT) st1 []) (New X.K Q)) I
  ⟨O, ρ, st, W, E, R.bind.mono fun q st1 O1 H1 k1 W1 R1 J hJ => ⟨O1, ρ, q, st1, hJ, W1, E.mono k1, R1⟩⟩) (fun xv s₁ h₁ => wpAny_mono h₁ (fun itv s₂ h₂ => ?_) fun _ _ e => e) fun _ _ e => e
 obtain ⟨it, fp, tn, J, H', rfl, I', T, h0, hf, O1, ρ, q, st1, hJ, W1, E1, R1⟩:=h₂
 exact ⟨it, fp, tn, J, H', rfl, I', T, h0, hf, O1, ρ, q, st1, Q, hJ.fz, W1, E1, R1, fun p vs H2 hq => ⟨_, hq, fun C hC e => by rw [upd_ne hC]; exact e, fun _ _ I => I⟩⟩
theorem clos_ok {pins : List (Addr × Obj)} {σ : L2.St} {H : Hp} {s : Shared} (B : Blk X.env.scope scope X.N N caps nT) (I : Inv X pins σ H s) : closureFor scope X.env = pure (clOf X.env scope.names []) :=
 closureFor_of fun y hy hk => I.ok.has y.1 (B.free y hy hk)
theorem pdf_lcG {F : DA} (hc : X.calm = true) (B : BlkOk X scope N caps nT tg elt ifs t cond fe) (hi : PLc X EX tg iter caps nT t cond fe F) (hs : ∀ x, foldedSetIterable iter X.env x = pure x:=by intro _; rfl) : PDF X EX (.ListComp elt [⟨tg, iter, ifs, 0⟩] scope pos) F:=by
 intro pins s σ H Q I h
 rw [eval_ListComp]
 refine wpAny_comprehension_free (use:=none) rfl hs (clos_ok B.blk I) B.blk.kind B.blk.names (wpAny_mono (hi pins s σ H _ I h) (fun xv s₁ h₁ => wpAny_mono h₁ (fun itv s₂ h₂ => ?_) fun _ _ e => e) fun _ _ e => e)
 obtain ⟨it, fp, tn, J, H', rfl, I', T, h0, hf, O1, ρ, q, st1, Q', hJ, W1, E1, R1, thaw⟩:=h₂
 refine lc_block (RR:=fun acc C => compPost (model X.prog X.w) X.A X.xe none (EP X pins σ Q) acc C) hc B I' T h0 hf hJ W1 E1 R1 ?_
 intro p C H2 vs s' m hC hn hns hpC I2 hq
 obtain ⟨H3, q3, n3, i3⟩:=thaw p vs H2 hq
 refine ⟨m, hns, fun h' hsb => ⟨.ref p, _, gone I' hC (i3 _ _ I2) (n3 C (Ne.symm hpC) hn) hsb, rfl, q3⟩⟩
theorem pdf_lc (hc : X.calm = true) (B : BlkOk X scope N caps nT tg elt ifs t cond fe) (hi : PID X EX tg iter f) (hs : ∀ x, foldedSetIterable iter X.env x = pure x:=by intro _; rfl) : PDF X EX (.ListComp elt [⟨tg, iter, ifs, 0⟩] scope pos) (dComp caps nT f t cond fe):=pdf_lcG hc B (plc_of hi) hs
theorem ps_lcG {F : DA} (i : Nat) (hc : X.calm = true) (B : BlkOk X scope N caps nT tg elt ifs t cond fe) (hi : PLc X EX tg iter caps nT t cond fe F) (hN : X.N.Nodup) (hy : X.N[i]? = some y) (hx : Loc X.env.scope y)
  (hsw : swapsWith (.ListComp elt [⟨tg, iter, ifs, 0⟩] scope pos) (some (.Name y py)) spos.line X.env = pure true)
  (hs : ∀ x, foldedSetIterable iter X.env x = pure x:=by intro _; rfl) (hfn : X.fn y = true ∨ X.env.scope.names.lookup y = some .local:=by first | exact .inl rfl | exact .inr rfl | assumption) :
  PS X (.Assign [.Name y py] (.ListComp elt [⟨tg, iter, ifs, 0⟩] scope pos) spos) (fun Dn σ H => tDF X.K EX F σ H fun v H' => Dn.nx (σ.set i (some v)) H'):=by
 intro pins s σ H Dn I h
 rw [exec_Assign_Name_used _ _ _ _ hsw]
 refine wpAny_bind (wpAny_standAt (wpAny_bind ?_))
 show wpAny _ X.A (do let _ ← comprehension (.ListComp elt [⟨tg, iter, ifs, 0⟩] scope pos) scope X.env _ (newList []) false (eval iter X.env) (some (assign (.Name y py) X.env))) _ _ s
 refine wpAny_bind (wpAny_mono (wpAny_comprehension_free (use:=some (assign (.Name y py) X.env)) (Q:=fun _ s' => SP X pins Dn .next s') rfl hs (clos_ok B.blk I) B.blk.kind B.blk.names
  (wpAny_mono (hi pins s σ H _ I h) (fun xv s₁ h₁ => wpAny_mono h₁ (fun itv s₂ h₂ => ?_) fun _ _ e => e) fun _ _ e => e)) (fun _ s' hq => wpAny_pure (wpAny_pure hq)) fun _ _ e => e)
 obtain ⟨it, fp, tn, J, H', rfl, I', T, h0, hf, O1, ρ, q, st1, Q', hJ, W1, E1, R1, thaw⟩:=h₂
 refine lc_block (RR:=fun acc C => compPost (model X.prog X.w) X.A X.xe (some (assign (.Name y py) X.env)) (fun _ s' => SP X pins Dn .next s') acc C) hc B I' T h0 hf hJ W1 E1 R1 ?_
 intro p C H2 vs s' m hC hn hns hpC I2 hq
 obtain ⟨H3, q3, n3, i3⟩:=thaw p vs H2 hq
 show wpAny _ X.A (assign (.Name y py) X.env (.ref p)) _ _ _
 refine wpAny_assign_Name (store_ok2 (v:=.ref p) (i3 _ _ I2) hN hy hx rfl (fun s'' I3 hsb => ?_) hfn)
 obtain ⟨a, sb, ha⟩:=hsb
 have hne : C ≠ a:=by
  intro z
  rcases ha with ha | ha
  ·exact absurd (Nat.lt_of_lt_of_le I'.lt (ha ▸ z ▸ hC)) (Nat.lt_irrefl _)
  ·obtain ⟨v, o, ho, _⟩:=I'.cell _ _ ha
   exact absurd (Nat.lt_of_lt_of_le (Heap.lt_size ho) (z ▸ hC)) (Nat.lt_irrefl _)
 exact ⟨m, hns.at' fun o e => (sb.2 C hne).trans e, fun h' hsb => ⟨_, _, gone I' hC I3 (n3 C (Ne.symm hpC) hn) hsb, q3⟩⟩
theorem pd_setLCG {F : DA} (i : Nat) (hc : X.calm = true) (B : BlkOk X scope N caps nT tg elt ifs t cond fe) (hi : PLc X EX tg iter caps nT t cond fe F) (hN : X.N.Nodup) (hy : X.N[i]? = some y) (hx : Loc X.env.scope y)
  (hsw : swapsWith (.ListComp elt [⟨tg, iter, ifs, 0⟩] scope pos) (some (.Name y py)) spos.line X.env = pure true:=by rfl)
  (hs : ∀ x, foldedSetIterable iter X.env x = pure x:=by intro _; rfl) (hfn : X.fn y = true ∨ X.env.scope.names.lookup y = some .local:=by first | exact .inl rfl | exact .inr rfl | assumption) :
  PDs X EX (.Assign [.Name y py] (.ListComp elt [⟨tg, iter, ifs, 0⟩] scope pos) spos) (sSet i (dF F)):=by
 refine PS.mono (ps_lcG i hc B hi hN hy hx hsw hs hfn) ?_
 rintro Dn σ H ⟨O, ρ, st, W, E, R⟩
 refine ⟨O, ρ, st, W, E, ?_⟩
 refine (R.to.bind).mono fun ds st1 O1 H1 k1 W1 R1 p vs r hp => ?_
 have R2:=R1 O1 (upd H1 p (.lst vs)) (Keep.laid hp) (W1.laid hp)
 refine R2 O1 (upd H1 p (.lst vs)) _ Keep.refl (W1.laid hp) ((E.mono (k1.trans (Keep.laid hp))).set (Rep.lst_i.mpr ⟨p, vs, rfl, fun hm => ?_, upd_same, Reps.mono (Keep.laid hp) _ _ r⟩))
 obtain ⟨j, hj⟩:=List.mem_iff_getElem?.mp hm
 exact W1.ne hj hp rfl
theorem pd_setLC (i : Nat) (hc : X.calm = true) (B : BlkOk X scope N caps nT tg elt ifs t cond fe) (hi : PID X EX tg iter f) (hN : X.N.Nodup) (hy : X.N[i]? = some y) (hx : Loc X.env.scope y)
  (hsw : swapsWith (.ListComp elt [⟨tg, iter, ifs, 0⟩] scope pos) (some (.Name y py)) spos.line X.env = pure true:=by rfl)
  (hs : ∀ x, foldedSetIterable iter X.env x = pure x:=by intro _; rfl) (hfn : X.fn y = true ∨ X.env.scope.names.lookup y = some .local:=by first | exact .inl rfl | exact .inr rfl | assumption) :
  PDs X EX (.Assign [.Name y py] (.ListComp elt [⟨tg, iter, ifs, 0⟩] scope pos) spos) (sSet i (dF (dComp caps nT f t cond fe))):=pd_setLCG i hc B (plc_of hi) hN hy hx hsw hs hfn
end
end DL
end
section
namespace HT
open PySem PyProof.Rows
section
open PySem.AutoSeq1 (wpAny_loadPart')
theorem noFill_tuple_mul : fillsNumberSlot (.type "tuple") "mul" = pure false :=
 PySem.fillsNumberSlot_seq (id := "tuple.__mul__") (r := some (.builtin "tuple.__rmul__")) F.slot_tuple_mul.lookup (by decide +kernel) F.slot_tuple_rmul.lookup (by decide +kernel)
theorem repeat_tuple : seqRepeat? (.type "tuple") = pure (some (.builtin "tuple.__mul__")) := by
 unfold seqRepeat?
 rw [PySem.seqSlot_of (T := "tuple") (name := "__mul__") (id := "tuple.__mul__") F.slot_tuple_mul.lookup (by decide +kernel), PySem.seqSlot_of (T := "tuple") (name := "__rmul__") (id := "tuple.__rmul__") F.slot_tuple_rmul.lookup (by decide +kernel)]
 rfl
theorem int_rmul_tuple (a : Int) (t : Tok) (l : Addr) (items : Array Value) (n : Nat) (dd : Option Addr) (sl : Array (Option Value)) :
  Meets (Builtin.«int.__rmul__» ⟨[.int a t, .ref l], []⟩) (fun _ R s => s.heap.get? l = some { cls := .type "tuple", dict := dd, data := .seq items n, slots := sl } ∧ R (.ok (.ret Value.notImplemented)) s) :=
 .of_wp fun prog w A R s h => by obtain ⟨hp, g, d, tk, os⟩:=s; obtain ⟨hl, h⟩:=h; wp_walk using wpAny_loadPart' hl; exact ⟨_, rfl, h⟩
theorem tuple_mulW1 (l : Addr) (items : Array Value) (n : Nat) (dd : Option Addr) (sl : Array (Option Value)) (k : Int) (u : Tok) (hf : ¬ (decide (k < -(2 ^ 63)) || decide (k ≥ 2 ^ 63)) = true) (hc : (items.isEmpty || k == 1) = true) :
  Meets (Builtin.«tuple.__mul__» ⟨[.ref l, .int k u], []⟩) (fun _ R s => s.heap.get? l = some { cls := .type "tuple", dict := dd, data := .seq items n, slots := sl } ∧ R (.ok (.ret (.ref l))) s) :=
 .of_wp fun prog w A R s h => by obtain ⟨hp, g, d, tk, os⟩:=s; obtain ⟨hl, h⟩:=h; have f1:=AutoSeq1.idx_int; wp_walk using wpAny_loadPart' hl; refine wpAny_ite_false (decide_eq_false hf) ?_; wp_walk using wpAny_loadPart' hl; exact ⟨_, rfl, h⟩
theorem tuple_mulW2 (l : Addr) (items : Array Value) (n : Nat) (dd : Option Addr) (sl : Array (Option Value)) (k : Int) (u : Tok) (hf : ¬ (decide (k < -(2 ^ 63)) || decide (k ≥ 2 ^ 63)) = true) (hc : ¬ (items.isEmpty || k == 1) = true) (hc2 : (decide (k ≤ 0) || items.isEmpty) = true) :
  Meets (Builtin.«tuple.__mul__» ⟨[.ref l, .int k u], []⟩) (fun _ R s => s.heap.get? l = some { cls := .type "tuple", dict := dd, data := .seq items n, slots := sl } ∧ R (.ok (.ret (.ref s.heap.objs.size))) { s with heap := s.heap.push { cls := .type "tuple", data := .seq #[] } }) :=
 .of_wp fun prog w A R s h => by obtain ⟨hp, g, d, tk, os⟩:=s; obtain ⟨hl, h⟩:=h; have f1:=AutoSeq1.idx_int; wp_walk using wpAny_loadPart' hl; refine wpAny_ite_false (decide_eq_false hf) ?_; wp_walk using wpAny_loadPart' hl; exact ⟨_, rfl, h⟩
theorem tuple_mulW3 (l : Addr) (items : Array Value) (n : Nat) (dd : Option Addr) (sl : Array (Option Value)) (k : Int) (u : Tok) (hf : ¬ (decide (k < -(2 ^ 63)) || decide (k ≥ 2 ^ 63)) = true) (hc : ¬ (items.isEmpty || k == 1) = true) (hc2 : ¬ (decide (k ≤ 0) || items.isEmpty) = true)
  (hc3 : ¬ (items.size : Int) * k > (2 ^ 63 - 1) / 8) (hc4 : ¬ Builtin.Tuple.tupleTooMany ((items.size : Int) * k) = true) (hsz : ((List.replicate k.toNat items).foldl (· ++ ·) #[]).size ≤ sizeLine) :
  Meets (Builtin.«tuple.__mul__» ⟨[.ref l, .int k u], []⟩) (fun _ R s => s.heap.get? l = some { cls := .type "tuple", dict := dd, data := .seq items n, slots := sl } ∧ R (.ok (.ret (.ref s.heap.objs.size))) { s with heap := s.heap.push { cls := .type "tuple", data := .seq ((List.replicate k.toNat items).foldl (· ++ ·) #[]) } }) :=
 .of_wp fun prog w A R s h => by obtain ⟨hp, g, d, tk, os⟩:=s; obtain ⟨hl, h⟩:=h; have f1:=AutoSeq1.idx_int; wp_walk using wpAny_loadPart' hl; refine wpAny_ite_false (decide_eq_false hf) ?_; wp_walk using wpAny_loadPart' hl; refine wpAny_ite_false (decide_eq_false hc3) ?_; wp_walk using wpAny_loadPart' hl; exact ⟨_, rfl, h⟩
end
end HT
namespace DL
open PySem PySem.Spec PyProof.Rows L2
section
variable {X : Cx} {EX : EXT} {a b c e o : Expr} {fa fb fc fo : DE} {pos p apos : Pos}
noncomputable def repL (xs : List D) (k : Nat) : List D:=(List.replicate k xs).flatten
noncomputable def mul2D : D → D → Sto → Out D
 | .tup xs, .int k, st => if -1000 ≤ k ∧ k ≤ 1000 ∧ xs.length ≤ 10 then .ok (.tup (repL xs k.toNat)) st else .bad
 | .str x, .int k, st => if -1000 ≤ k ∧ k ≤ 1000 ∧ x.length ≤ 10 then .ok (.str (PySem.Txt.mul x k)) st else .bad
 | a, b, st => mulD a b st
theorem mul_tup {pins : List (Addr × Obj)} {σ : L2.St} {H : Hp} {s : Shared} {O : List Addr} {st : Sto} {xs : List D} {l : Addr} {vs : List V} {k : Int} {t : Tok} {Q : VK} (I : Inv X pins σ H s) (W : WR X.K O H st) (q : H l = some (.tup vs)) (r : Reps X.K O H xs vs) (hk : -1000 ≤ k ∧ k ≤ 1000 ∧ xs.length ≤ 10)
  (R : Run X.K EX O H (.ok (.tup (repL xs k.toNat)) st) (Val X.K Q)) : wpAny (model X.prog X.w) X.A (binaryOp .Mult (.ref l) (.int k t)) (EP X pins σ Q) X.xe s:=by
 obtain ⟨its, hv, ht, hz⟩:=I.tuple (SqT.of q)
 obtain ⟨⟨cls, dd, data, sl⟩, ho, hc, n, hd⟩:=id ht
 simp only at hc hd
 subst hc hd
 have lk : its.length ≤ 10:=by rw [← hv.length, ← r.length]; exact hk.2.2
 have hf : ¬ (decide (k < -(2 ^ 63)) || decide (k ≥ 2 ^ 63)) = true:=by
  rw [Bool.or_eq_true, not_or]
  exact ⟨fun h => by have:=of_decide_eq_true h; omega, fun h => by have:=of_decide_eq_true h; omega⟩
 have fold : (List.replicate k.toNat its.toArray).foldl (· ++ ·) #[] = (List.replicate k.toNat its).flatten.toArray:=by
  have:=foldl_rep its k.toNat []
  rw [List.nil_append] at this
  exact this
 refine wpAny_binaryOp_repeat_ref (T := "tuple") (U := "int") (by decide) ⟨_, ho, rfl⟩ (fun s' => typeIs_int s' k t) HT.noFill_tuple_mul F.fills_int_mul F.slot_int_rmul HT.repeat_tuple F.slot_int_index.lookup
  (call_meets F.slot_int_rmul (typeIs_int s k t) F.entry_int_rmul (F.args_int_rmul_2 _ _) (HT.int_rmul_tuple k t l its.toArray n dd sl)
   ⟨ho, rfl, ⟨_, ho, rfl⟩, ?_⟩)
 by_cases h1 : (its.toArray.isEmpty || k == 1) = true
 ·refine call_meets F.slot_tuple_mul ⟨_, ho, rfl⟩ F.entry_tuple_mul (F.args_tuple_mul_2 _ _) (HT.tuple_mulW1 l its.toArray n dd sl k t hf h1) ⟨ho, ?_⟩
  have e : repL xs k.toNat = xs:=by
   rw [Bool.or_eq_true] at h1
   rcases h1 with h1 | h1
   ·have h2 : its = []:=by simpa using h1
    have h3 : xs = []:=by
     have:=r.length
     rw [hv.length, h2] at this
     exact List.length_eq_zero_iff.mp this
    subst h3
    unfold repL
    induction k.toNat with
    | zero => rfl
    | succ m ih => rw [List.replicate_succ, List.flatten_cons, ih]; rfl
   ·have h2 : k = 1:=by simpa using h1
    subst h2
    simp [repL]
  rw [e] at R
  exact ⟨.ref l, H, I, rfl, Run.now (k:=Val X.K Q) R W _ (Rep.tup_i.mpr ⟨l, vs, rfl, q, r⟩)⟩
 ·by_cases h2 : (decide (k ≤ 0) || its.toArray.isEmpty) = true
  ·refine call_meets F.slot_tuple_mul ⟨_, ho, rfl⟩ F.entry_tuple_mul (F.args_tuple_mul_2 _ _) (HT.tuple_mulW2 l its.toArray n dd sl k t hf h1 h2) ⟨ho, ?_⟩
   have e : k.toNat = 0:=by
    rw [Bool.or_eq_true] at h2 h1
    rcases h2 with h2 | h2
    ·have:=of_decide_eq_true h2; omega
    ·exact absurd (.inl h2) h1
   have hp:=I.hok.fresh (Nat.le_refl s.heap.objs.size)
   rw [e] at R
   refine ⟨.ref s.heap.objs.size, _, I.laid (t':=s.toks) (o:=.tup []) (fun b ob q => Heap.get?_push_of_some _ q) (Nat.le_refl _) ⟨by decide, [], .nil, IsTup.new _ _⟩, rfl, ?_⟩
   exact new_tup (xs:=repL xs 0) W (Reps.nil_i.mpr rfl) hp R
  ·have hk0 : 0 < k:=by
    rw [Bool.or_eq_true, not_or] at h2
    have:=of_decide_eq_false (Bool.eq_false_iff.mpr h2.1)
    omega
   have hm : (its.toArray.size : Int) * k ≤ 10000:=by
    have h3 : (its.toArray.size : Int) ≤ 10:=by rw [List.size_toArray]; omega
    have h4 : (its.toArray.size : Int) * k ≤ 10 * k:=Int.mul_le_mul_of_nonneg_right h3 (by omega)
    omega
   have hlen : ((List.replicate k.toNat its).flatten).length ≤ 10000:=by
    rw [len_rep]
    have h3 : k.toNat * its.length ≤ 1000 * 10:=Nat.mul_le_mul (by omega) lk
    omega
   have hbig : (10000 : Nat) ≤ sizeLine:=small_le
   refine call_meets F.slot_tuple_mul ⟨_, ho, rfl⟩ F.entry_tuple_mul (F.args_tuple_mul_2 _ _) (HT.tuple_mulW3 l its.toArray n dd sl k t hf h1 h2 (by omega) (by
     unfold Builtin.Tuple.tupleTooMany
     intro h
     have:=of_decide_eq_true h
     omega) (by rw [fold, List.size_toArray]; omega)) ⟨ho, ?_⟩
   have hp:=I.hok.fresh (Nat.le_refl s.heap.objs.size)
   rw [fold]
   refine ⟨.ref s.heap.objs.size, _, I.laid (t':=s.toks) (o:=.tup (List.replicate k.toNat vs).flatten) (fun b ob q => Heap.get?_push_of_some _ q) (Nat.le_refl _) ⟨?_, _, hv.rep k.toNat, IsTup.new _ _⟩, rfl, ?_⟩
   ·rw [len_rep, hv.length, ← len_rep]; omega
   ·exact new_tup W (r.rep k.toNat) hp R
theorem op_mul2D : OpD X EX (binaryOp .Mult) mul2D:=by
 intro pins s σ H x y v u Q I rx ry h
 obtain ⟨O, a, b, st, W, ra, rb, R⟩:=h
 have other : Run X.K EX O H (mulD a b st) (Val X.K Q) → wpAny (model X.prog X.w) X.A (binaryOp .Mult v u) (EP X pins σ Q) X.xe s:=fun R => op_mulD pins s σ H x y v u Q I rx ry ⟨O, a, b, st, W, ra, rb, R⟩
 cases a <;> cases b <;> first | exact other R | skip
 case tup.int xs k =>
  dsimp only [mul2D] at R
  by_cases hk : -1000 ≤ k ∧ k ≤ 1000 ∧ xs.length ≤ 10
  ·rw [if_pos hk] at R
   rw [Rep.tup_i] at ra
   rw [Rep.int_i] at rb
   subst rb
   obtain ⟨l, vs, rfl, q, r⟩:=ra
   cases rx
   obtain ⟨t, rfl⟩:=ry
   exact mul_tup I W q r hk R
  ·rw [if_neg hk] at R; exact R.elim
 case str.int z k =>
  dsimp only [mul2D] at R
  by_cases hk : -1000 ≤ k ∧ k ≤ 1000 ∧ z.length ≤ 10
  ·rw [if_pos hk] at R
   rw [Rep.str_i] at ra
   rw [Rep.int_i] at rb
   subst ra rb
   obtain ⟨t', rfl⟩:=rx
   obtain ⟨t, rfl⟩:=ry
   exact SB.mul (mulOk_of 10 1000 hk.2.2 hk.2.1 (by omega) (by decide) (by decide)) fun t2 k2 => ⟨.str (PySem.Txt.mul z k), H, I.tok k2, ⟨t2, rfl⟩, Run.now (k:=Val X.K Q) R W _ (Rep.str_i.mpr rfl)⟩
  ·rw [if_neg hk] at R; exact R.elim
end
end DL
end
section
namespace HT
open PySem PyProof.Rows
section
variable {prog : Program} {w : World} {A : Around} {E : Value → Shared → Prop} {s : Shared}
end
end HT
end
section
namespace DL
open PySem PySem.Spec PyProof.Rows L2
end DL
end
section
namespace HT
open PySem PyProof.Rows
section
variable {prog : Program} {w : World} {A : Around} {E : Value → Shared → Prop} {s : Shared}
end
end HT
namespace DL
open PySem PySem.Spec PyProof.Rows L2
section
variable {X : Cx} {EX : EXT} {a b e o tg : Expr} {fa fb fo : DE} {g : DA} {pos p px apos cpos : Pos} {x : Str}
noncomputable def dAppend (fo fa : DE) : DE:=fun ρ st => (fo ρ st).bind fun d st1 => match d with
 | .res i => match st1[i]? with
  | some (.lst _) => (fa ρ st1).bind fun v st2 => match st2[i]? with
   | some (.lst xs) => if xs.length < small then .ok .non (st2.set i (.lst (xs ++ [v]))) else .bad
   | _ => .bad
  | _ => .bad
 | _ => .bad
theorem res_lst {K : PySem.W.Frag} {O : List Addr} {H : Hp} {st : Sto} (W : WR K O H st) {i : Nat} {v : V} {xs : List D} (r : Rep K O H (.res i) v) (e : st[i]? = some (.lst xs)) : ∃ a vs, v = .ref a ∧ O[i]? = some a ∧ H a = some (.lst vs) ∧ Reps K O H xs vs:=by
 rw [Rep.res_i] at r
 obtain ⟨a, rfl, q⟩:=r
 obtain ⟨vs, h1, h2⟩:=W.at_ _ _ _ q e
 exact ⟨a, vs, rfl, q, h1, h2⟩
theorem pd_append (ho : PD X EX o fo) (ha : PD X EX a fa) (hbase : attributeBase o "append" X.env (eval o X.env) = eval o X.env := by rfl)
  (hfew : ((backTo cpos (starEach [a] X.env)).all (fun x => !x.1) && (backToKw cpos (keywordEach [] X.env)).all (fun x => x.1.isSome)
   && decide ([a].length + ([] : List Keyword).length + (if ([] : List Keyword).isEmpty then 0 else 1) < 30)) = true:=by rfl)
  (hline : (apos.endLine == cpos.line) = true := by rfl) (hs : starEach [a] X.env = (false, eval a X.env) :: starEach [] X.env := by rfl) (hplain : (backTo cpos (starEach [] X.env)).any (·.1) = false := by rfl) : PD X EX (.Call (.Attribute o "append" apos) [a] [] cpos) (dAppend fo fa) := by
 refine PE.mono (pe_bm PySem.F.plainAttrs_list PySem.F.slot_list_append PySem.F.type_list_append mt_append ho (pda_cons ha pda_nil hs) hbase hfew hline hs hplain) ?_
 rintro σ H Q ⟨O, ρ, st, W, E, R⟩
 refine ⟨O, ρ, st, W, E, R.bind.mono fun d st1 O1 H1 k1 W1 R1 v r => ?_⟩
 cases d with
 | res i =>
  dsimp only at R1
  cases e1 : st1[i]? with
  | none => rw [e1] at R1; exact R1.elim
  | some s1 =>
   rw [e1] at R1
   cases s1 with
   | ins C fs => exact R1.elim
   | dct kvs => exact R1.elim
   | dtt kvs => exact R1.elim
   | fdc kvs => exact R1.elim
   | lst xs0 =>
    dsimp only at R1
    obtain ⟨pa, vs0, rfl, q0, h0, _⟩:=res_lst W1 r e1
    refine ⟨.inl ⟨rfl, _, SqL.of h0⟩, O1, ρ, st1, W1, E.mono k1, ?_⟩
    cases hfa : fa ρ st1 with
    | bad => rw [hfa] at R1; exact R1.elim
    | exc c st2 =>
     rw [hfa] at R1
     show Run X.K EX O1 H1 (dCons fa dNil ρ st1) _
     unfold dCons
     rw [hfa]
     exact R1
    | ok w st2 =>
     rw [hfa] at R1
     show Run X.K EX O1 H1 (dCons fa dNil ρ st1) _
     unfold dCons
     rw [hfa]
     intro O2 H2 k2 W2 ws rs
     obtain ⟨u, rfl, ru⟩:=Reps.one_of rs
     have R2:=Run.later R1 k2
     dsimp only [Out.bind] at R2
     cases e2 : st2[i]? with
     | none => rw [e2] at R2; exact R2.elim
     | some s2 =>
      rw [e2] at R2
      cases s2 with
      | ins C fs => exact R2.elim
      | dct kvs => exact R2.elim
      | dtt kvs => exact R2.elim
      | fdc kvs => exact R2.elim
      | lst xs =>
       dsimp only at R2
       by_cases hl : xs.length < small
       ·rw [if_pos hl] at R2
        obtain ⟨pa', vs, e3, q, h1, h2⟩:=res_lst W2 (Rep.mono k2 _ _ r) e2
        cases e3
        refine ⟨pa, vs, u, rfl, rfl, h1, by rw [← h2.length]; exact Nat.lt_of_lt_of_le hl small_le, ?_⟩
        exact R2 O2 _ (Keep.write W2 q) (W2.writeL q (h2.append (Reps.one ru))) _ (Rep.non_i.mpr rfl)
       ·rw [if_neg hl] at R2; exact R2.elim
 | _ => exact R1.elim
end
end DL
end
section
namespace DL
open PySem PySem.Spec PyProof.Rows L2
section
variable {X : Cx} {EX : EXT} {a b c e o : Expr} {fa fb fc fo : DE} {pos p pT apos : Pos}
noncomputable def dNeg (f : DE) : DE:=fun ρ st => (f ρ st).bind fun d st1 => match d with
 | .int i => .ok (.int (-i)) st1
 | _ => .bad
theorem pd_neg (ha : PD X EX a fa) : PD X EX (.UnaryOp .USub a pos) (dNeg fa):=by
 refine PE.mono (pe_un un_neg ha) ?_
 rintro σ H Q ⟨O, ρ, st, W, E, R⟩
 refine ⟨O, ρ, st, W, E, R.bind.mono fun d st1 O1 H1 k1 W1 R1 v r => ?_⟩
 cases d with
 | int i => exact ⟨i, Rep.int_i.mp r, Run.now (k:=Val X.K Q) R1 W1 _ (Rep.int_i.mpr rfl)⟩
 | _ => exact R1.elim
end
structure FnAt (P : Program) (w : World) (K : PySem.W.Frag) (mg : Str → Option Value) (base : Heap) (x : Str) (k : Nat) (F : FD) : Prop where
 ex : ∃ (f : Addr) (fd : FuncData) (ps : List Str), FnOk P w K mg base CX0 k f fd ps (spD K F) ∧ mg x = some (.ref f) ∧ PySem.W.keepIn K (.ref f) = true ∧ Binds K fd ps []
section
variable {X : Cx} {EX : EXT} {e : Expr} {es : List Expr} {pos p : Pos} {x : Str} {k j : Nat} {F : FD} {g : DA}
theorem pd_fn (h : FnAt X.prog X.w X.K X.mg X.base x j F) (hr : Room k X.A) (hj : j ≤ k) (hg : Gl X x) (ha : PDA X EX (e :: es) g)
  (hdb : (x == ("__debug__" : Str)) = false := by decide) (he : starEach (e :: es) X.env = (false, eval e X.env) :: starEach es X.env := by rfl) (hpl : (backTo pos (starEach es X.env)).any (·.1) = false := by rfl) :
  PD X EX (.Call (.Name x p) (e :: es) [] pos) (dCall F g):=by
 obtain ⟨f, fd, ps, G, hm, hk, hb⟩:=h.ex
 exact pd_call G (hr.mono hj) hg hm hk hb xe0 ha hdb he hpl
end
theorem fnAt {P : Program} {w : World} {K : PySem.W.Frag} {mg : Str → Option Value} {base : Heap} {x qual : Str} {st : Stmt} {f : Addr} {fd : FuncData} {N ps : List Str} {k : Nat} {g : DS} (F : Fun K x qual st f fd) (S : FnScope N ps (defScope st)) (hm : mg x = some (.ref f)) (hb : Binds K fd ps [])
  (hbody : ∀ (cdv : Value) (A : Around) (outer : List Env) (s : Shared) (H : Hp) (E : XK), Room k (A.deeper (envOfC qual (defScope st) s.heap.objs.size f cdv)) →
   PDS (cxOf CX0 P w K mg base N qual (defScope st) f cdv A outer s H E).nox EX0 (defBody st) g) : FnAt P w K mg base x (k + 1) (runF N.length ps.length g) :=
 ⟨f, fd, ps, fnD F S hbody, hm, F.kp, hb⟩
end DL
end
section
namespace HT
open PySem PyProof.Rows PyProof.Rows.LSm
section
variable {prog : Program} {w : World} {A : Around} {E : Value → Shared → Prop} {s : Shared} {l : Addr} {vs : List Value}
end
end HT
namespace DL
open PySem PySem.Spec PyProof.Rows L2
section
variable {X : Cx} {EX : EXT}
noncomputable def leX : D → D → Sto → Out D
 | .int a, .int b, st => .ok (.bl (decide (a ≤ b))) st
 | .str a, .str b, st => .ok (.bl (!(decide (b.cps.toList < a.cps.toList)))) st
 | _, _, _ => .bad
theorem op_leX : OpD X EX (compareOp .LtE) leX:=by
 intro pins s σ H x y v u Q I rx ry h'
 obtain ⟨O, a, b, st, W, ra, rb, R⟩:=h'
 cases a <;> cases b <;> first | exact R.elim | skip
 ·rename_i i j
  rw [Rep.int_i] at ra rb
  subst ra rb
  exact op_le pins s σ H _ _ v u Q I rx ry ⟨i, j, rfl, rfl, Run.now (k:=Val X.K Q) R W _ (Rep.bl_i.mpr rfl)⟩
 ·rename_i i j
  rw [Rep.str_i] at ra rb
  subst ra rb
  obtain ⟨t, rfl⟩:=rx
  obtain ⟨t', rfl⟩:=ry
  exact PySem.P.le_str ⟨.bl _, H, I, rfl, Run.now (k:=Val X.K Q) R W _ (Rep.bl_i.mpr rfl)⟩
end
end DL
end
section
namespace DL
open PySem PySem.Spec PyProof.Rows L2
section
variable {X : Cx} {EX : EXT} {tg e : Expr} {f : DE}
end
end DL
end
section
namespace DL
open PySem PySem.Spec PyProof.Rows L2
section
variable {X : Cx} {EX : EXT} {a b c e o i : Expr} {fa fb fc fo fi : DE} {pos p p2 apos : Pos} {ta tb : DT}
noncomputable def sSetIx (fo fi fv : DE) : DS:=fun ρ st => (fv ρ st).to fun v st1 => (fo ρ st1).to fun d st2 => (fi ρ st2).to fun i st3 => match d, i with
 | .res r, .int k => match st3[r]? with
  | some (.lst xs) => match ixN xs.length k with
   | some j => .nx ρ (st3.set r (.lst (xs.set j v)))
   | none => .bad
  | _ => .bad
 | _, _ => .bad
theorem pd_setIx {p1 : Pos} (ho : PD X EX o fo) (hi : PD X EX i fi) (hv : PD X EX e fa) (hs : swapsWithSole [.Subscript o i p1] e pos.line X.env = pure false:=by rfl) (hw : swappedStores [.Subscript o i p1] e X.env = pure none:=by rfl)
  (h1 : (assignEach [.Subscript o i p1] X.env).map (·.2) = [assign (.Subscript o i p1) X.env]:=by rfl)
  (ha : ∀ v, assign (.Subscript o i p1) X.env v = (do
   let ov ← holding [v] (eval o X.env)
   let iv ← holding [v, ov] (eval i X.env)
   standAt p1
   holding [v, ov, iv] (setItem ov iv v)
   release [v, ov, iv] []):=by intro _; rfl) : PDs X EX (.Assign [.Subscript o i p1] e pos) (sSetIx fo fi fa):=by
 refine PS.mono (ps_asg hv (pg_sub ho hi set_list ha) hs hw h1) ?_
 rintro Dn σ H ⟨O, ρ, st, W, E, R⟩
 refine ⟨O, ρ, st, W, E, R.to.mono fun w st1 O1 H1 k1 W1 R1 v r => ?_⟩
 refine ⟨O1, ρ, st1, W1, E.mono k1, R1.to.mono fun d st2 O2 H2 k2 W2 R2 u r2 => ?_⟩
 refine ⟨O2, ρ, st2, W2, E.mono (k1.trans k2), R2.to.mono fun j st3 O3 H3 k3 W3 R3 z r3 => ?_⟩
 split at R3
 ·rename_i rr k
  split at R3
  ·rename_i xs hx
   split at R3
   ·rename_i jj hj
    rw [Rep.int_i] at r3
    subst r3
    have r2':=Rep.mono k3 _ _ r2
    rw [Rep.res_i] at r2'
    obtain ⟨a, rfl, q⟩:=r2'
    obtain ⟨vs, h1, h2⟩:=W3.at_ _ _ _ q hx
    refine ⟨a, vs, k, jj, rfl, rfl, h1, by rw [← h2.length]; exact hj, ?_⟩
    have kw : Keep X.K O3 H3 O3 (upd H3 a (.lst (vs.set jj v))):=Keep.write W3 q
    exact R3 O3 _ σ kw (W3.writeL q (h2.set (Rep.mono (k2.trans k3) _ _ r) jj)) (E.mono (k1.trans (k2.trans (k3.trans kw))))
   ·exact R3.elim
  ·exact R3.elim
 ·exact R3.elim
noncomputable def sBad : DS:=fun _ _ => .bad
theorem pd_bad {s : Stmt} : PDs X EX s sBad:=by
 rintro pins s σ H D I ⟨O, ρ, st, W, E, R⟩
 exact R.elim
end
structure MtAt (P : Program) (w : World) (K : PySem.W.Frag) (mg : Str → Option Value) (base : Heap) (C : Addr) (m : Str) (k : Nat) (F : FD) : Prop where
 ex : ∃ (f : Addr) (fd : FuncData) (ps : List Str), FnOk P w K mg base CX0 k f fd ps (spD K F) ∧ Meth K C m f ∧ Binds K fd ps []
structure MkAt (P : Program) (w : World) (K : PySem.W.Frag) (mg : Str → Option Value) (base : Heap) (x : Str) (C : Addr) (k : Nat) (F : FD) : Prop where
 ex : ∃ (f : Addr) (fd : FuncData) (ps : List Str), FnOk P w K mg base CX0 k f fd ps (spD K F) ∧ Mk K C f ∧ Binds K fd ps [] ∧ mg x = some (.ref C)
section
variable {X : Cx} {EX : EXT} {e o : Expr} {es : List Expr} {pos p apos : Pos} {x m : Str} {k j : Nat} {F : FD} {g : DA} {C : Addr} {fo : DE}
theorem pd_mt {pl : Sem Bool} (h : MtAt X.prog X.w X.K X.mg X.base C m j F) (c : Cls X.K C) (hr : Room k X.A) (hj : j ≤ k) (he : PD X EX o fo) (ha : PDA X EX (e :: es) g)
  (hst : starEach (e :: es) X.env = (false, eval e X.env) :: starEach es X.env:=by rfl) (hpl : (backTo pos (starEach es X.env)).any (·.1) = false:=by rfl)
  (ht : eval (.Call (.Attribute o m apos) (e :: es) [] pos) X.env = (do
   let ov ← eval o X.env
   standAt apos.atName
   let (f, first) ← holding [ov] (getMethod ov m pl)
   callWith pos f first (backTo pos (starEach (e :: es) X.env)) (backToKw pos (keywordEach [] X.env))):=by rfl) :
  PD X EX (.Call (.Attribute o m apos) (e :: es) [] pos) (dMeth C m F fo g):=by
 obtain ⟨f, fd, ps, G, hm, hb⟩:=h.ex
 exact pd_meth he c hm G (hr.mono hj) hb xe0 ha hst hpl ht
theorem pd_mt0 {pl : Sem Bool} (h : MtAt X.prog X.w X.K X.mg X.base C m j F) (c : Cls X.K C) (hr : Room k X.A) (hj : j ≤ k) (he : PD X EX o fo)
  (ht : eval (.Call (.Attribute o m apos) [] [] pos) X.env = (do
   let ov ← eval o X.env
   standAt apos.atName
   let (f, first) ← holding [ov] (getMethod ov m pl)
   callWith pos f first (backTo pos (starEach [] X.env)) (backToKw pos (keywordEach [] X.env))):=by rfl) :
  PD X EX (.Call (.Attribute o m apos) [] [] pos) (dMeth C m F fo dNil):=by
 obtain ⟨f, fd, ps, G, hm, hb⟩:=h.ex
 exact pd_meth0 he c hm G (hr.mono hj) hb xe0 ht
theorem pd_mk (h : MkAt X.prog X.w X.K X.mg X.base x C j F) (hr : Room k X.A) (hj : j + 1 ≤ k) (hg : Gl X x) (ha : PDA X EX (e :: es) g)
  (hdb : (x == ("__debug__" : Str)) = false := by decide) (he : starEach (e :: es) X.env = (false, eval e X.env) :: starEach es X.env := by rfl) (hpl : (backTo pos (starEach es X.env)).any (·.1) = false := by rfl) :
  PD X EX (.Call (.Name x p) (e :: es) [] pos) (dMake C F g):=by
 obtain ⟨f, fd, ps, G, hm, hb, hx⟩:=h.ex
 exact pd_make hm G (hr.mono hj) hg hx hb xe0 ha hdb he hpl
end
section
variable {P : Program} {w : World} {K : PySem.W.Frag} {mg : Str → Option Value} {base : Heap}
theorem mtAt {x qual : Str} {st : Stmt} {f C : Addr} {fd : FuncData} {N ps : List Str} {k : Nat} {g : DS} (F : Fun K x qual st f fd) (S : FnScope N ps (defScope st)) (hm : Meth K C x f) (hb : Binds K fd ps [])
  (hbody : ∀ (cdv : Value) (A : Around) (outer : List Env) (s : Shared) (H : Hp) (E : XK), Room k (A.deeper (envOfC qual (defScope st) s.heap.objs.size f cdv)) →
   PDS (cxOf CX0 P w K mg base N qual (defScope st) f cdv A outer s H E).nox EX0 (defBody st) g) : MtAt P w K mg base C x (k + 1) (runF N.length ps.length g) :=
 ⟨f, fd, ps, fnD F S hbody, hm, hb⟩
theorem mkAt {x qual cn : Str} {st : Stmt} {f C : Addr} {fd : FuncData} {N ps : List Str} {k : Nat} {g : DS} (F : Fun K x qual st f fd) (S : FnScope N ps (defScope st)) (hm : Mk K C f) (hb : Binds K fd ps []) (hx : mg cn = some (.ref C))
  (hbody : ∀ (cdv : Value) (A : Around) (outer : List Env) (s : Shared) (H : Hp) (E : XK), Room k (A.deeper (envOfC qual (defScope st) s.heap.objs.size f cdv)) →
   PDS (cxOf CX0 P w K mg base N qual (defScope st) f cdv A outer s H E).nox EX0 (defBody st) g) : MkAt P w K mg base cn C (k + 1) (runF N.length ps.length g) :=
 ⟨f, fd, ps, fnD F S hbody, hm, hb, hx⟩
noncomputable def spA (K : PySem.W.Frag) (F : (Nat → Addr) → FD) : Sp:=fun vs H Q E => ∀ cv, spD K (F cv) vs H Q E
theorem fnOk_spA {k : Nat} {f : Addr} {fd : FuncData} {ps : List Str} {F : (Nat → Addr) → FD} {cv : Nat → Addr} (G : FnOk P w K mg base CX0 k f fd ps (spD K (F cv))) : FnOk P w K mg base CX0 k f fd ps (spA K F) :=
 G.imp fun _ _ _ _ h => h cv
end
section
variable {ρ : Ev} {st : Sto} {f fo fi fv : DE} {da : DA} {C : Addr} {x m : Str} {F : FD}
theorem z_meth : dMeth C m F fo da ρ st = (fo ρ st).bind fun d st1 => match insAt C st1 d with
 | some (_, fs) => if fs.lookup m = none then (da ρ st1).bind fun ds st2 => F (d :: ds) st2 else .bad
 | none => .bad:=rfl
theorem z_fld : dFld C x fo ρ st = (fo ρ st).bind fun d st1 => match insAt C st1 d with
 | some (_, fs) => match fs.lookup x with
  | some v => .ok v st1
  | none => .bad
 | none => .bad:=rfl
theorem z_make : dMake C F da ρ st = (da ρ st).bind fun ds st1 => (F (.res st1.length :: ds) (st1 ++ [.ins C []])).bind fun d st2 => (asNon d st2).bind fun _ st3 => .ok (.res st1.length) st3:=rfl
theorem z_sFldS : sFldS C x fo fv ρ st = (fv ρ st).to fun v st1 => (fo ρ st1).to fun d st2 => match insAt C st2 d with
 | some (i, fs) => if fs.length < 900 then .nx ρ (st2.set i (.ins C (putFD x v fs))) else .bad
 | none => .bad:=rfl
theorem z_sFldF : sFldF C x fo da ρ st = (da ρ st).to fun vs st1 => (fo ρ (st1 ++ [.lst vs])).to fun d st2 => match insAt C st2 d with
 | some (i, fs) => if fs.length < 900 then .nx ρ (st2.set i (.ins C (putFD x (.res st1.length) fs))) else .bad
 | none => .bad:=rfl
theorem z_sFldAdd : sFldAdd C x fo fv ρ st = (fo ρ st).to fun d st1 => match insAt C st1 d with
 | some (i, fs) => match fs.lookup x with
  | some (.int z) => (fv ρ st1).to fun v st2 => match v with
   | .int y => match insAt C st2 d with
    | some (j, fs') => if fs'.length < 900 then .nx ρ (st2.set j (.ins C (putFD x (.int (z + y)) fs'))) else .bad
    | none => .bad
   | _ => .bad
  | _ => .bad
 | none => .bad:=rfl
theorem z_sSetIx : sSetIx fo fi fv ρ st = (fv ρ st).to fun v st1 => (fo ρ st1).to fun d st2 => (fi ρ st2).to fun i st3 => match d, i with
 | .res r, .int k => match st3[r]? with
  | some (.lst xs) => match ixN xs.length k with
   | some j => .nx ρ (st3.set r (.lst (xs.set j v)))
   | none => .bad
  | _ => .bad
 | _, _ => .bad:=rfl
end
end DL
end
section
namespace DL
open PySem PySem.Spec PyProof.Rows L2
noncomputable def Ite (K : PySem.W.Frag) (a : Addr) : It :=
  ⟨fun i H => ∃ xs x, SqL K H a xs ∧ xs[i]? = some x,
   fun i H v H' => ∃ p x, H p = none ∧ v = .ref p ∧ H' = upd H p (.tup [.int (i : Int), x]) ∧ ∀ xs, SqL K H a xs → xs[i]? = some x,
   fun i H => ∃ xs, SqL K H a xs ∧ xs.length ≤ i⟩
theorem turn_enum {P : Program} {w : World} {K : PySem.W.Frag} {es : List Expr} {k : Nat} {pt : Pos} (a e it : Addr) (hei : e ≠ it) :
  Turn P w K (.Tuple es k pt) (Ite K a) [e, it] e (fun i h => (∃ old, IsEnum h e it ((i : Nat) : Int) old) ∧ h.IsListIter it a i) where
 mem:=by simp
 obj:=fun i h st c hc => by
  obtain ⟨⟨old, h1⟩, o4, h4, _, d4⟩:=st
  simp only [List.mem_cons, List.not_mem_nil, or_false] at hc
  rcases hc with rfl | rfl
  ·exact ⟨_, h1, fun v z => by cases z⟩
  ·exact ⟨_, h4, fun v z => by rw [d4] at z; cases z⟩
 keep:=fun i h h' st k => by
  obtain ⟨⟨old, h1⟩, h4⟩:=st
  exact ⟨⟨old, k e (by simp) _ h1⟩, h4.at fun o q => k it (by simp) o q⟩
 item:=by
  intro X hP hw hK hc i pins s σ H E I hf st hg
  subst hP hw hK
  obtain ⟨xs, vx, q1, g1⟩:=hg
  obtain ⟨its1, r1, p1, _⟩:=I.list q1
  obtain ⟨ux, e1, rx⟩:=r1.get g1
  obtain ⟨⟨old, hz⟩, h4⟩:=st
  have fz:=hf e (by simp)
  have f1:=hf it (by simp)
  have heH : e < s.heap.objs.size:=Heap.lt_size hz
  have hiH : it < s.heap.objs.size:=by obtain ⟨o, ho, _⟩:=id h4; exact Heap.lt_size ho
  refine wpAny_pyNext_enum_item hz h4 p1.isList (by simpa using e1) hei fun h' z1 z2 z3 z4 z5 => ?_
  refine ⟨_, rfl, wpAny_letOwnedTupleGo_enum z1 fun h'' y1 y2 => ?_⟩
  replace y2 : Heap.SameBut e h' h'':=y2
  have up : ∀ c o, c ≠ e → h'.get? c = some o → h''.get? c = some o:=fun c o hce ho => (y2.2 c hce).trans ho
  have z7 : ∀ c o, c ≠ e → c ≠ it → s.heap.get? c = some o → h''.get? c = some o:=fun c o c1 c2 ho => up c o c1 (z5 c o c1 c2 ho)
  have hfr:=I.hok.fresh (Nat.le_refl s.heap.objs.size)
  have hT : h''.get? s.heap.objs.size = some { cls := .type "tuple", data := .seq #[.int (i : Int) s.toks, ux] } := up _ _ (Nat.ne_of_gt heH) z3
  refine ⟨.ref s.heap.objs.size, upd H s.heap.objs.size (.tup [.int (i : Int), vx]), ?_, rfl, ⟨s.heap.objs.size, vx, hfr, rfl, rfl, fun zs hq => by rw [I.list_inj hq q1]; exact g1⟩, ⟨⟨ux, ?_⟩, (z2.at fun o q => up _ o (Ne.symm hei) q)⟩, fun c hc => ?_⟩
  ·show Inv X pins σ _ { s with heap:=h'', toks:=s.toks + 1 }
   refine I.step (ch:=[e, it]) (g':=s.gens) (t':=s.toks + 1) (d':=s.drawn) ?_ ?_ ?_ ?_ ?_ ?_ ?_ ?_ ?_ ?_ I.bare
   ·intro c hc
    obtain ⟨k0, k1, k2, k3, k4, k5⟩:=hf c hc
    exact ⟨k3, k1, k4, k5⟩
   ·intro c o k1 k2 k3 k4 k5
    simp only [List.mem_cons, List.not_mem_nil, or_false, not_or] at k3
    exact z7 c o k3.1 k3.2 k4
   ·intro c o k1 k2 k3 k4 k5
    simp only [List.mem_cons, List.not_mem_nil, or_false, not_or] at k3
    exact ⟨o.slots, z7 c o k3.1 k3.2 k4⟩
   ·intro c o k3 k4 k5
    rw [upd_ne (Nat.ne_of_lt (Heap.lt_size k4))]
    exact k5
   ·intro c o k3 k4
    simp only [List.mem_cons, List.not_mem_nil, or_false, not_or] at k3
    exact ⟨o, z7 c o k3.1 k3.2 k4⟩
   ·intro c ws k
    rw [upd_ne (ne_of_none k hfr)]; exact k
   ·intro c ob ws k
    rw [upd_ne (ne_of_none k hfr)]; exact k
   ·intro c ps k
    exact ⟨#[], by rw [upd_ne (ne_of_none k hfr), k]; simp⟩
   ·intro m hm
    exact hm.at' fun o q => z7 _ o (Ne.symm fz.2.1) (Ne.symm f1.2.1) q
   ·intro c o q
    by_cases hcc : c = s.heap.objs.size
    ·subst hcc
     rw [upd_same] at q
     cases q
     exact ⟨(by show 2 ≤ sizeLine; rw [sizeLine_eq]; decide), [.int (i : Int) s.toks, ux], .cons ⟨_, rfl⟩ (.cons rx .nil), ⟨_, hT, rfl, _, rfl⟩⟩
    ·rw [upd_ne hcc] at q
     refine (I.hok c o q).stay (fun d u hd k => ?_) (fun d k => by rw [upd_ne (ne_of_none k hfr)]; exact k) fun d ws k => by rw [upd_ne (ne_of_none k hfr)]; exact k
     have hHd : ∃ o', H d = some o':=by
      rcases hd with rfl | hd
      ·exact ⟨o, q⟩
      ·exact ⟨_, hd⟩
     obtain ⟨o', ho'⟩:=hHd
     exact z7 d u (ne_of_none ho' fz.1) (ne_of_none ho' f1.1) k
  ·have ez : (((i + 1 : Nat) : Int)) = (i : Int) + 1:=by omega
   show IsEnum h'' e it (((i + 1 : Nat) : Int)) ux
   rw [ez]
   exact y1
  ·have hcn:=(hf c hc).1
   have hlt : c < s.heap.objs.size:=by
    simp only [List.mem_cons, List.not_mem_nil, or_false] at hc
    rcases hc with rfl | rfl
    ·exact heH
    ·exact hiH
   rw [upd_ne (Nat.ne_of_lt hlt)]
   exact hcn
 done:=by
  intro X hP hw hK hc i pins s σ H E I hf st hg
  subst hP hw hK
  obtain ⟨xs, q1, g⟩:=hg
  obtain ⟨its1, r1, p1, _⟩:=I.list q1
  obtain ⟨⟨old, hz⟩, h4⟩:=st
  obtain ⟨f0, f1, f2, f3, f4, f5⟩:=hf it (by simp)
  have hl:=r1.length
  exact wpAny_pyNext_enum_end (I.ok.hd hc) hz h4 p1.isList (by simp; omega) fun h' eb => ⟨rfl, I.turned (t':=s.toks) (fun b o hb q => eb b o hb q) f0 f1 f3 f4 f5⟩
 self:=fun _ _ _ _ _ st h => by
  obtain ⟨⟨old, hz⟩, _⟩:=st
  exact wpAny_pyIter_enum hz h
section
variable {X : Cx} {EX : EXT} {es : List Expr} {k : Nat} {pt p pos : Pos} {a : Expr} {f : DE}
noncomputable def iEnum (K : PySem.W.Frag) (tl : TA) : TI:=fun σ H R => tl σ H fun vs H1 => ∃ a, vs = [.ref a] ∧ (∃ xs, SqL K H1 a xs) ∧ R (Ite K a) H1
theorem pi_enum {ta : TA} (hg : Gl X "enumerate") (hm : X.mg "enumerate" = none) (ha : PA X [a] ta) (hs : starEach [a] X.env = [(false, eval a X.env)] := by rfl) : PI X (.Tuple es k pt) (.Call (.Name "enumerate" p) [a] [] pos) (iEnum X.K ta) := by
 intro pins s σ H R I h
 refine Call_ (ld_blt I hg hm PyProof.Rows.boot_enumerate (PyProof.Rows.callWith_type1 (thn (ha pos pins s σ H _ I h) fun us s1 ⟨vs, H1, I1, r1, q1⟩ => ?_) (by rw [hs]; rfl) rfl))
 obtain ⟨pa, e, ⟨xs, h1⟩, q⟩:=q1
 subst e
 cases r1 with
 | cons r rr =>
  cases rr
  cases r
  obtain ⟨its1, v1, p1, _⟩:=I1.list h1
  refine call_enumerate_list p1.isList fun h' z1 z2 z3 z4 => ?_
  have I2 : Inv X pins σ H1 { s1 with heap:=h' }:=I1.kept (t':=s1.toks) z4
  have T:=turn_enum (P:=X.prog) (w:=X.w) (K:=X.K) (es:=es) (k:=k) (pt:=pt) pa (s1.heap.objs.size + 1) s1.heap.objs.size (Nat.ne_of_gt (Nat.lt_succ_self _))
  have st : (∃ old, IsEnum h' (s1.heap.objs.size + 1) s1.heap.objs.size ((0 : Nat) : Int) old) ∧ h'.IsListIter s1.heap.objs.size pa 0:=⟨⟨_, z1⟩, z2⟩
  refine T.self _ 0 _ _ _ st ?_
  refine ⟨_, _, _, _, H1, rfl, I2, T, st, fun c hc => ?_, q⟩
  have hle : s1.heap.objs.size ≤ c:=by
   simp only [List.mem_cons, List.not_mem_nil, or_false] at hc
   rcases hc with rfl | rfl
   ·exact Nat.le_succ _
   ·exact Nat.le_refl _
  exact I1.fpOk hle (I1.hok.fresh hle)
noncomputable def enumL (n : Nat) : List D → List D
 | [] => []
 | x :: xs => .tup [.int (n : Int), x] :: enumL (n + 1) xs
theorem enumL_get : ∀ (xs : List D) (n i : Nat), (enumL n xs)[i]? = (xs[i]?).map fun x => D.tup [.int ((n + i : Nat) : Int), x]
 | [], n, i => by simp [enumL]
 | x :: xs, n, 0 => by simp [enumL]
 | x :: xs, n, i + 1 => by
  have h : n + 1 + i = n + (i + 1):=by omega
  simp [enumL, enumL_get xs (n + 1) i, h]
theorem enumL_len : ∀ (xs : List D) (n : Nat), (enumL n xs).length = xs.length
 | [], n => rfl
 | x :: xs, n => by simp [enumL, enumL_len xs (n + 1)]
noncomputable def dEnum (f : DE) : DI:=fun ρ st => (f ρ st).bind fun d st1 => match seqL st1 d with
 | some xs => .ok (enumL 0 xs, fun st => seqL st d = some xs) st1
 | none => .bad
theorem pid_enum (hg : Gl X "enumerate") (hm : X.mg "enumerate" = none) (ha : PD X EX a f) (hs : starEach [a] X.env = [(false, eval a X.env)] := by rfl) : PID X EX (.Tuple es k pt) (.Call (.Name "enumerate" p) [a] [] pos) (dEnum f) := by
 refine PI.mono (pi_enum hg hm (pda_cons ha pda_nil (by rw [hs]; rfl)) hs) ?_
 rintro σ H R ⟨O, ρ, st, W, E, R0⟩
 have R1:=R0.bind
 refine ⟨O, ρ, st, W, E, ?_⟩
 unfold dCons dNil
 cases hf : f ρ st with
 | bad => rw [hf] at R1; exact R1.elim
 | exc c st' => rw [hf] at R1; exact R1
 | ok d st' =>
  rw [hf] at R1
  refine fun O1 H1 k1 W1 vs r => ?_
  have R2:=R1 O1 H1 k1 W1
  dsimp only at R2
  obtain ⟨v, rfl, rv⟩:=r.one_of
  cases e : seqL st' d with
  | none => rw [e] at R2; exact R2.elim
  | some xs =>
   rw [e] at R2
   obtain ⟨pa, va, rfl, q, rs⟩:=rdL W1 rv e
   refine ⟨pa, rfl, ⟨va, q⟩, Run.now (k:=fun q _ O' H' => ∀ J, ItD X.K J O' H' q → R J H') R2 W1 _ ?_⟩
   intro i O' H' st2 kp W' hp
   obtain ⟨pa', ws, e1, q', r'⟩:=rdL W' (Rep.mono kp _ _ rv) hp
   cases e1
   refine ⟨fun x hx => ?_, fun hl => ⟨ws, q', by rw [← r'.length]; rw [enumL_len] at hl; exact hl⟩⟩
   dsimp only at hx
   rw [enumL_get] at hx
   cases hz : xs[i]? with
   | none => rw [hz] at hx; cases hx
   | some y =>
    rw [hz] at hx
    simp only [Option.map_some, Option.some.injEq, Nat.zero_add] at hx
    subst hx
    obtain ⟨vy, e2, ry⟩:=r'.get hz
    refine ⟨⟨ws, vy, q', e2⟩, ?_⟩
    rintro v2 H2 ⟨p2, x', hp2, rfl, rfl, h3⟩
    have e3:=h3 ws q'
    rw [e2] at e3
    cases e3
    exact ⟨Keep.laid hp2, W'.laid hp2, Rep.tup_i.mpr ⟨p2, _, rfl, upd_same, Reps.cons_i.mpr ⟨_, _, rfl, Rep.int_i.mpr rfl, Reps.one (Rep.mono (Keep.laid hp2) _ _ ry)⟩⟩⟩
end
end DL
end
section
namespace DL
open PySem PySem.Spec PyProof.Rows L2
section
variable {X : Cx} {EX : EXT} {CX : CXT} {k j : Nat} {f C : Addr} {fd : FuncData} {ps : List Str} {sp : Sp} {E : XK} {x m : Str} {p pos apos : Pos} {e : Expr} {es : List Expr} {t : TA} {F : FD} {g : DA}
end
section
variable {X : Cx} {EX : EXT} {k j : Nat} {C : Addr} {x m : Str} {p pos apos : Pos} {e : Expr} {es : List Expr} {F : FD} {g : DA}
end
section
variable {P : Program} {w : World} {K : PySem.W.Frag} {mg : Str → Option Value} {base : Heap}
end
end DL
end
section
namespace DL
open PySem PySem.Spec PyProof.Rows L2
section
variable {X : Cx} {EX : EXT} {a b : Expr} {ta : TA} {p p2 pos pos2 : Pos} {g : DA}
end
end DL
end
section
namespace DL
open PySem PySem.Spec PyProof.Rows L2
section
variable {X : Cx} {EX : EXT}
end
end DL
end
section
namespace HT
open PySem PyProof.Rows
noncomputable def absI (n : Int) : Int:=if n < 0 then -n else n
noncomputable def stepA (m n : Int) : Int:=if absI n < absI m then n else m
theorem min_key_dflt (a v d : Value) : argsOk "min" ⟨[a], [(Str.ofString "key", v), (Str.ofString "default", d)]⟩ := by unfold argsOk; kernel_rfl
theorem ne_hi {b I : Addr} {n : Nat} (h1 : b < n) (h2 : n ≤ I) : b ≠ I:=Nat.ne_of_lt (Nat.lt_of_lt_of_le h1 h2)
section
variable {prog : Program} {w : World} {A : Around} {E : Value → Shared → Prop} {s : Shared} {R : Result → Shared → Prop} {l I S : Addr}
theorem lt_ints {a b : Int} {t u : Tok} {s : Shared} {Q : Value → Shared → Prop} (h : Q (.bool (decide (a < b))) s) : wpAny (model prog w) A (richCompare .Lt (.int a t) (.int b u)) Q E s :=
 CmpOf.ints_lt (prog:=prog) (w:=w) (A:=A) (P:=fun i v => ∃ t, v = .int (if i = 0 then a else b) t) (fun i => if i = 0 then a else b) (fun i v h => h) 0 1 _ _ _ _ _ ⟨t, rfl⟩ ⟨u, rfl⟩ (by simpa using h)
theorem min_loop {s0 : Heap} {items : List Value} (hh : A.handled = none) (hl : s0.IsList l items.toArray) (hI : s0.objs.size ≤ I) (hS : s0.objs.size ≤ S) (hSI : S ≠ I) (hlI : l ≠ I) (hlS : l ≠ S) :
  ∀ (rest : List Int) (j : Nat) (m : Int) (tm tb : Tok) (h : Heap) (tk c : Nat), (∀ b o, s0.get? b = some o → h.get? b = some o) → h.get? S = some (seqObj "list" #[.int m tm, .int (absI m) tb] c) → h.IsListIter I l j →
   items.length = j + rest.length → (∀ i n, rest[i]? = some n → ∃ t, items[j + i]? = some (.int n t)) →
   (∀ h' tk' t', (∀ b o, s0.get? b = some o → h'.get? b = some o) → R (.ok (.ret (.int (rest.foldl stepA m) t'))) { s with heap:=h', toks:=tk' }) →
   codeAny (model prog w) A (.builtin "min.loop" ⟨[.ref I, .builtin "abs", .ref S], [(Str.ofString "default", .none)]⟩) R { s with heap := h, toks := tk } := by
 have hname : (toString "min" ++ toString ".loop" : String) = "min.loop" := by decide
 intro rest
 induction rest with
 | nil =>
  intro j m tm tb h tk c hk gS hit hlen hget hR
  have hl' : h.IsList l items.toArray:=hl.at fun o e => hk l o e
  refine codeAny_builtin PySem.F.entry_min_loop ?_
  rw [Around.under_plainId PySem.F.plain_min_loop _]
  show wpAny _ A.in1 (seqItems? (.ref S) >>= _) _ _ _
  refine wpAny_bind (wpAny_seqItems gS rfl ?_)
  show wpAny _ A.in1 (tryCatch (pyNext (.ref I)) _ >>= _) _ _ _
  refine wpAny_bind (wpAny_tryCatch (wpAny_pyNext_list_end (A:=A.in1) hh hit hl' (by simp at hlen ⊢; omega) fun h' hk' => ?_))
  have gS' : h'.get? S = _:=hk' S _ hSI gS
  have s1:=Heap.SameBut.update h' S (Obj.mapSeq fun _ => (#[] : Array Value))
  show wpAny _ A.in1 (updateSeq S (fun _ => #[]) >>= _) _ _ _
  refine wpAny_bind ?_
  refine wpAny_updateSeq gS' rfl (wpAny_bind (wpAny_letGo (wpAny_pure ?_)))
  refine hR _ _ tm fun b o e => ?_
  have hb : b < s0.objs.size:=Heap.lt_size e
  exact s1.extBut b o (ne_hi hb hS) (hk' b o (ne_hi hb hI) (hk b o e))
 | cons n rest ih =>
  intro j m tm tb h tk c hk gS hit hlen hget hR
  have hl' : h.IsList l items.toArray:=hl.at fun o e => hk l o e
  obtain ⟨t, ht⟩:=hget 0 n rfl
  refine codeAny_builtin PySem.F.entry_min_loop ?_
  rw [Around.under_plainId PySem.F.plain_min_loop _]
  show wpAny _ A.in1 (seqItems? (.ref S) >>= _) _ _ _
  refine wpAny_bind (wpAny_seqItems gS rfl ?_)
  show wpAny _ A.in1 (tryCatch (pyNext (.ref I)) _ >>= _) _ _ _
  refine wpAny_bind (wpAny_tryCatch (wpAny_pyNext_list_item (A:=A.in1) (x:=.int n t) hit hl' (by simpa using ht) fun h' hit' sb => ?_))
  replace sb : Heap.SameBut I h h':=sb
  have hk1 : ∀ b o, s0.get? b = some o → h'.get? b = some o:=fun b o e => sb.extBut b o (ne_hi (Heap.lt_size e) hI) (hk b o e)
  have gS1 : h'.get? S = some (seqObj "list" #[.int m tm, .int (absI m) tb] c) := sb.extBut S _ hSI gS
  show wpAny _ A.in1 (tryCatch (holding [.int n t] (call (.builtin "abs") [.int n t])) _ >>= _) _ _ _
  refine wpAny_bind (wpAny_tryCatch (wpAny_holding (call_abs_int fun u tk1 => ?_)))
  show wpAny _ A.in1 (tryCatch (holding [.int n t, .int (absI n) u] (richCompare .Lt (.int (absI n) u) (.int (absI m) tb) >>= _)) _ >>= _) _ _ _
  refine wpAny_bind (wpAny_tryCatch (wpAny_holding (wpAny_bind (lt_ints ?_))))
  refine wpAny_bind (wpAny_holding (wpAny_truthy_bool ?_))
  refine wpAny_bind (wpAny_letGo (wpAny_pure ?_))
  have hget' : ∀ i k, rest[i]? = some k → ∃ t, items[j + 1 + i]? = some (.int k t):=fun i k e => by
   obtain ⟨t', e'⟩:=hget (i + 1) k (by simpa using e)
   exact ⟨t', by rw [show j + 1 + i = j + (i + 1) by omega]; exact e'⟩
  have hlen' : items.length = j + 1 + rest.length:=by simp at hlen; omega
  by_cases hb : absI n < absI m
  ·have s1:=Heap.SameBut.update h' S (Obj.mapSeq fun _ => #[.int n t, .int (absI n) u])
   obtain ⟨c2, hc2⟩ : ∃ c2, (h'.update S (Obj.mapSeq fun _ => #[.int n t, .int (absI n) u])).get? S = some (seqObj "list" #[.int n t, .int (absI n) u] c2) := ⟨_, get?_update_seq gS1 fun _ => #[.int n t, .int (absI n) u]⟩
   simp only [hb, decide_true, if_true]
   refine wpAny_bind ?_
   refine wpAny_updateSeq gS1 rfl (wpAny_bind (wpAny_letGo ?_))
   rw [hname]
   refine wpAny_pure ⟨plainId_quiet PySem.F.plain_min_loop _, ih (j + 1) n t u _ _ c2 (fun b o e => s1.extBut b o (ne_hi (Heap.lt_size e) hS) (hk1 b o e)) hc2 (hit'.extBut s1.extBut (Ne.symm hSI)) hlen' hget' fun h2 tk2 t2 hk2 => ?_⟩
   have e : stepA m n = n:=by unfold stepA; rw [if_pos hb]
   have:=hR h2 tk2 t2 hk2
   rw [List.foldl_cons, e] at this
   exact this
  ·simp only [hb, decide_false, Bool.false_eq_true, if_false]
   refine wpAny_bind (wpAny_letGo ?_)
   rw [hname]
   refine wpAny_pure ⟨plainId_quiet PySem.F.plain_min_loop _, ih (j + 1) m tm tb _ _ c hk1 gS1 hit' hlen' hget' fun h2 tk2 t2 hk2 => ?_⟩
   have e : stepA m n = m:=by unfold stepA; rw [if_neg hb]
   have:=hR h2 tk2 t2 hk2
   rw [List.foldl_cons, e] at this
   exact this
noncomputable def minAbs : List Int → Option Int
 | [] => none
 | n :: ns => some (ns.foldl stepA n)
theorem call_min_abs {items : List Value} {ns : List Int} {Q : Value → Shared → Prop} (hh : A.handled = none) (hl : s.heap.IsList l items.toArray) (hlen : items.length = ns.length) (hget : ∀ (i : Nat) (n : Int), ns[i]? = some n → ∃ t, items[i]? = some (Value.int n t))
  (hN : minAbs ns = none → ∀ h' tk, (∀ b o, s.heap.get? b = some o → h'.get? b = some o) → Q .none { s with heap:=h', toks:=tk })
  (hQ : ∀ m, minAbs ns = some m → ∀ h' tk t, (∀ b o, s.heap.get? b = some o → h'.get? b = some o) → Q (.int m t) { s with heap:=h', toks:=tk }) :
  wpAny (model prog w) A (call (.builtin "min") [.ref l] [(Str.ofString "key", .builtin "abs"), (Str.ofString "default", .none)]) Q E s := by
 have hname : (toString "min" ++ toString ".loop" : String) = "min.loop" := by decide
 obtain ⟨ol, hol, _⟩:=id hl
 have hll : l < s.heap.objs.size:=Heap.lt_size hol
 refine kmb_tree PySem.F.kind_min PySem.F.plain_min PySem.F.entry_min (min_key_dflt _ _ _) ?_
 show wpAny _ A.in1 (Builtin.Builtins.bindParams "min" ["key", "default"] 0 ⟨[], [(Str.ofString "key", .builtin "abs"), (Str.ofString "default", .none)]⟩ >>= _) _ _ s
 refine wpAny_bind (wpAny_of_eq (show Builtin.Builtins.bindParams "min" ["key", "default"] 0 ⟨[], [(Str.ofString "key", .builtin "abs"), (Str.ofString "default", .none)]⟩ = pure [some (.builtin "abs"), some .none] from rfl) ?_)
 refine wpAny_bind (wpAny_pure ?_)
 refine wpAny_bind (wpAny_pyIter_list hl ?_)
 refine wpAny_bind (wpAny_newList ?_ (Nat.zero_le _))
 rw [hname]
 have hsz : (s.heap.push { cls := .type "list_iterator", data := .fields #[.ref l, .int 0 0] }).objs.size = s.heap.objs.size + 1 := Heap.size_push ..
 have hSI : (s.heap.push { cls := .type "list_iterator", data := .fields #[.ref l, .int 0 0] }).objs.size ≠ s.heap.objs.size := by rw [hsz]; exact Nat.ne_of_gt (Nat.lt_succ_self _)
 have hlI : l ≠ s.heap.objs.size:=Nat.ne_of_lt hll
 have hlS : l ≠ (s.heap.push { cls := .type "list_iterator", data := .fields #[.ref l, .int 0 0] }).objs.size := by rw [hsz]; exact Nat.ne_of_lt (Nat.lt_succ_of_lt hll)
 refine wpAny_pure ⟨plainId_quiet PySem.F.plain_min_loop _, ?_⟩
 have hk0 : ∀ b o, s.heap.get? b = some o → ((s.heap.push { cls := .type "list_iterator", data := .fields #[.ref l, .int 0 0] }).push (seqObj "list" #[] 0)).get? b = some o := fun b o e => Heap.get?_push_of_some _ (Heap.get?_push_of_some _ e)
 have gI : ((s.heap.push { cls := .type "list_iterator", data := .fields #[.ref l, .int 0 0] }).push (seqObj "list" #[] 0)).get? s.heap.objs.size = some { cls := .type "list_iterator", data := .fields #[.ref l, .int 0 0] } :=
  Heap.get?_push_of_some _ (Heap.get?_push_size _ rfl)
 have gS : ((s.heap.push { cls := .type "list_iterator", data := .fields #[.ref l, .int 0 0] }).push (seqObj "list" #[] 0)).get? (s.heap.push { cls := .type "list_iterator", data := .fields #[.ref l, .int 0 0] }).objs.size = some (seqObj "list" #[] 0) := Heap.get?_push_size _ rfl
 have hI : s.heap.objs.size ≤ s.heap.objs.size:=Nat.le_refl _
 have hS : s.heap.objs.size ≤ (s.heap.push { cls := .type "list_iterator", data := .fields #[.ref l, .int 0 0] }).objs.size := by rw [hsz]; exact Nat.le_succ _
 have hl' : ((s.heap.push { cls := .type "list_iterator", data := .fields #[.ref l, .int 0 0] }).push (seqObj "list" #[] 0)).IsList l items.toArray := hl.at fun o e => hk0 l o e
 refine codeAny_builtin PySem.F.entry_min_loop ?_
 rw [Around.under_plainId PySem.F.plain_min_loop _]
 show wpAny _ A.in1 (seqItems? (.ref _) >>= _) _ _ _
 refine wpAny_bind (wpAny_seqItems gS rfl ?_)
 show wpAny _ A.in1 (tryCatch (pyNext (.ref s.heap.objs.size)) _ >>= _) _ _ _
 cases ns with
 | nil =>
  refine wpAny_bind (wpAny_tryCatch (wpAny_pyNext_list_end (A:=A.in1) hh ⟨_, gI, rfl, rfl⟩ hl' (by simp at hlen ⊢; simp [hlen]) fun h' hk' => ?_))
  refine wpAny_bind (wpAny_rule (wpAny_pure ?_))
  exact hN rfl h' _ fun b o e => hk' b o (ne_hi (Heap.lt_size e) hI) (hk0 b o e)
 | cons n ns =>
  obtain ⟨t, ht⟩:=hget 0 n rfl
  refine wpAny_bind (wpAny_tryCatch (wpAny_pyNext_list_item (A:=A.in1) (x:=.int n t) ⟨_, gI, rfl, rfl⟩ hl' (by simpa using ht) fun h' hit' sb => ?_))
  replace sb : Heap.SameBut s.heap.objs.size _ h':=sb
  have hk1 : ∀ b o, s.heap.get? b = some o → h'.get? b = some o:=fun b o e => sb.extBut b o (ne_hi (Heap.lt_size e) hI) (hk0 b o e)
  have gS1:=sb.extBut _ _ hSI gS
  show wpAny _ A.in1 (tryCatch (holding [.int n t] (call (.builtin "abs") [.int n t])) _ >>= _) _ _ _
  refine wpAny_bind (wpAny_tryCatch (wpAny_holding (call_abs_int fun u tk1 => ?_)))
  have s1 := Heap.SameBut.update h' (s.heap.push { cls := .type "list_iterator", data := .fields #[.ref l, .int 0 0] }).objs.size (Obj.mapSeq fun _ => #[.int n t, .int (absI n) u])
  obtain ⟨c2, hc2⟩ : ∃ c2, (h'.update (s.heap.push { cls := .type "list_iterator", data := .fields #[.ref l, .int 0 0] }).objs.size (Obj.mapSeq fun _ => #[.int n t, .int (absI n) u])).get? (s.heap.push { cls := .type "list_iterator", data := .fields #[.ref l, .int 0 0] }).objs.size = some (seqObj "list" #[.int n t, .int (absI n) u] c2) := ⟨_, get?_update_seq gS1 fun _ => #[.int n t, .int (absI n) u]⟩
  show wpAny _ A.in1 (updateSeq _ (fun _ => #[.int n t, .int (absI n) u]) >>= _) _ _ _
  refine wpAny_bind ?_
  refine wpAny_updateSeq gS1 rfl ?_
  rw [hname]
  refine wpAny_pure ⟨plainId_quiet PySem.F.plain_min_loop _, min_loop (s:=s) hh hl hI hS hSI hlI hlS ns 1 n t u _ _ c2 (fun b o e => s1.extBut b o (ne_hi (Heap.lt_size e) hS) (hk1 b o e)) hc2 (hit'.extBut s1.extBut (Ne.symm hSI)) (by simp at hlen; omega) (fun i k e => ?_) fun h2 tk2 t2 hk2 => ?_⟩
  ·obtain ⟨t', e'⟩:=hget (i + 1) k (by simpa using e)
   exact ⟨t', by rw [Nat.add_comm]; exact e'⟩
  ·exact hQ _ rfl h2 tk2 t2 hk2
end
end HT
namespace DL
open PySem PySem.Spec PyProof.Rows L2
section
variable {X : Cx} {EX : EXT} {a : Expr} {ta : TE} {fa : DE} {p p1 p2 kp1 kp2 pos : Pos} {j : Nat}
noncomputable def minV : Option Int → V
 | none => .non
 | some m => .int m
noncomputable def tMin (K : PySem.W.Frag) (ta : TE) : TE:=fun σ H Q => ta σ H fun v H1 => ∃ q ns, v = .ref q ∧ SqL K H1 q (ns.map V.int) ∧ Q (minV (HT.minAbs ns)) H1
theorem pe_minAbs (hc : X.calm = true) (hg : Gl X "min") (hm : X.mg "min" = none) (hg2 : Gl X "abs") (hm2 : X.mg "abs" = none) (ha : PE X a ta) (hs : starEach [a] X.env = [(false, eval a X.env)] := by rfl) :
  PE X (.Call (.Name "min" p) [a] [⟨some "key", .Name "abs" p1, kp1⟩, ⟨some "default", .Constant .none j p2, kp2⟩] pos) (tMin X.K ta) := by
 intro pins s σ H Q I h
 refine wpAny_Call_Name_kw (ld_blt I hg hm PyProof.Rows.boot_min ?_)
 refine callWith_builtin_kwB (by rw [hs]; rfl) rfl (evalArgs_kw2 rfl ?_ hs)
 rw [hs]
 refine Calls.spliced_cons (thn (ha pins s σ H _ I h) fun u s1 ⟨x, H1, I1, r1, q1⟩ => Calls.spliced_nil ?_)
 obtain ⟨q, ns, rfl, hq, hQ⟩:=q1
 cases r1
 show wpAny _ _ (evalAll [(do let v ← eval (.Name "abs" p1) X.env; standAt pos; pure v), (do let v ← eval (.Constant .none j p2) X.env; standAt pos; pure v)]) _ _ s1
 refine wpAny_evalAll_cons (wpAny_bind (ld_blt I1 hg2 hm2 PyProof.Rows.boot_abs (wpAny_bind (wpAny_standAt (wpAny_pure ?_)))))
 refine wpAny_evalAll_cons (wpAny_bind (Constant_none (wpAny_bind (wpAny_standAt (wpAny_pure (wpAny_evalAll_nil ?_))))))
 obtain ⟨its, rv, pl, hz⟩:=I1.list hq
 have hlen:=rv.length
 rw [List.length_map] at hlen
 show wpAny _ _ (call (.builtin "min") [.ref q] [(Str.ofString "key", .builtin "abs"), (Str.ofString "default", .none)]) _ _ _
 refine HT.call_min_abs (I.ok.hd hc) pl.isList hlen.symm (fun i n e => ?_) (fun e h' tk kp => ?_) fun m e h' tk t kp => ?_
 ·obtain ⟨u, h1, t, h2⟩:=rv.get (i:=i) (x:=V.int n) (by rw [List.getElem?_map, e]; rfl)
  exact ⟨t, by rw [h1, h2]⟩
 ·rw [e] at hQ
  exact ⟨.non, H1, I1.kept (t':=tk) kp, rfl, hQ⟩
 ·rw [e] at hQ
  exact ⟨.int m, H1, I1.kept (t':=tk) kp, ⟨t, rfl⟩, hQ⟩
noncomputable def intsOf : List D → Option (List Int)
 | [] => some []
 | .int n :: ds => (intsOf ds).map (n :: ·)
 | _ :: _ => none
theorem ints_rd {K : PySem.W.Frag} {O : List Addr} {H : Hp} : ∀ {ds : List D} {vs : List V} {ns : List Int}, Reps K O H ds vs → intsOf ds = some ns → vs = ns.map V.int
 | [], vs, ns, r, e => by
  rw [Reps.nil_i] at r
  cases e
  exact r
 | d :: ds, vs, ns, r, e => by
  obtain ⟨v, r', rfl, q, t⟩:=Reps.cons_i.mp r
  cases d with
  | int n =>
   obtain ⟨ms, h1, rfl⟩:=Option.map_eq_some_iff.mp e
   rw [Rep.int_i] at q
   rw [q, ints_rd t h1]
   rfl
  | _ => cases e
noncomputable def minD : Option Int → D
 | none => .non
 | some m => .int m
noncomputable def dMinAbs (f : DE) : DE:=fun ρ st => (f ρ st).bind fun d st1 => match seqL st1 d with
 | some xs => match intsOf xs with
  | some ns => .ok (minD (HT.minAbs ns)) st1
  | none => .bad
 | none => .bad
theorem pd_minAbs (hc : X.calm = true) (hg : Gl X "min") (hm : X.mg "min" = none) (hg2 : Gl X "abs") (hm2 : X.mg "abs" = none) (ha : PD X EX a fa) (hs : starEach [a] X.env = [(false, eval a X.env)] := by rfl) :
  PD X EX (.Call (.Name "min" p) [a] [⟨some "key", .Name "abs" p1, kp1⟩, ⟨some "default", .Constant .none j p2, kp2⟩] pos) (dMinAbs fa) := by
 refine PE.mono (pe_minAbs hc hg hm hg2 hm2 ha hs) ?_
 rintro σ H Q ⟨O, ρ, st, W, E, R⟩
 refine ⟨O, ρ, st, W, E, R.bind.mono fun d st1 O1 H1 k1 W1 R1 v r => ?_⟩
 cases e : seqL st1 d with
 | none => rw [e] at R1; exact R1.elim
 | some xs =>
  rw [e] at R1
  dsimp only at R1
  cases e2 : intsOf xs with
  | none => rw [e2] at R1; exact R1.elim
  | some ns =>
   rw [e2] at R1
   obtain ⟨q, vs, rfl, hq, rs⟩:=rdL W1 r e
   rw [ints_rd rs e2] at hq
   refine ⟨q, ns, rfl, hq, Run.now (k:=Val X.K Q) R1 W1 _ ?_⟩
   cases HT.minAbs ns with
   | none => exact Rep.non_i.mpr rfl
   | some m => exact Rep.int_i.mpr rfl
end
end DL
end
section
namespace DL
open PySem PySem.Spec PyProof.Rows L2
section
variable {P : Program} {w : World} {K : PySem.W.Frag} {mg : Str → Option Value} {base : Heap} {N : List Str} {qual : Str} {scope : Scope} {f : Addr} {cd : Value} {A : Around} {outer : List Env} {s : Shared} {H : Hp} {E : XK}
end
section
variable {X : Cx} {EX : EXT} {e : Expr} {es : List Expr} {pos cpos p : Pos} {x : Str} {C : Addr} {g : DA} {B newId initId : String} {bmB : List Value}
end
section
variable {X : Cx} {EX : EXT} {e o : Expr} {es : List Expr} {pos p apos : Pos} {x m : Str} {k j : Nat} {F : FD} {g : DA} {C : Addr} {fo : DE}
end
section
variable {P : Program} {w : World} {K : PySem.W.Frag} {mg : Str → Option Value} {base : Heap}
end
end DL
end
section
namespace DL
open PySem PySem.Spec PyProof.Rows L2
noncomputable abbrev Cx.at (X : Cx) (A : Around) (pn : List (Addr × Obj)) (E : Value → Shared → Prop) : Cx:={ X with A:=A, calm:=false, pn:=pn, xe:=E }
noncomputable abbrev Cx.pinned (X : Cx) (pn : List (Addr × Obj)) (E : Value → Shared → Prop) : Cx:={ X with pn:=pn, xe:=E }
structure RoomH (k : Nat) (A : Around) : Prop where
 dp : A.depth + 3 * k + 5 < recursionLimit
 un : A.units + 16 * k + 200 < cLine
theorem RoomH.mono {j k : Nat} {A : Around} (r : RoomH k A) (h : j ≤ k) : RoomH j A:=⟨by have:=r.dp; omega, by have:=r.un; omega⟩
theorem RoomH.deeper {k : Nat} {A : Around} (r : RoomH (k + 1) A) (env : Env) : RoomH k (A.deeper env):=⟨by have:=r.dp; show A.depth + 1 + 3 * k + 5 < _; omega, by have:=r.un; show A.units + 3 + 16 * k + 200 < _; omega⟩
theorem RoomH.of {k : Nat} {A : Around} (r : Room k A) (e : Option Value) : RoomH k (A.mark e):=⟨r.dp, r.un⟩
theorem RoomH.units {k : Nat} {A : Around} (r : RoomH k A) : A.units + 64 < cLine:=by have:=r.un; omega
section
variable {P : Program} {w : World} {K : PySem.W.Frag} {mg : Str → Option Value} {base : Heap}
end
section
variable {X : Cx} {EX : EXT} {e : Expr} {es : List Expr} {pos p : Pos} {x : Str} {k j : Nat} {F : FD} {g : DA}
end
end DL
end
section
namespace DL
open PySem PySem.Spec PyProof.Rows L2
section
variable {X : Cx} {EX : EXT} {body suite : List Stmt} {b₀ : Stmt} {pos hpos np : Pos} {x n : Str} {Cb : Addr} {cs : List Addr} {g gh : DS} {i : Nat}
end
end DL
end
section
namespace DL
open PySem PySem.Spec PyProof.Rows L2
section
variable {prog : Program} {w : World} {A : Around} {E : Value → Shared → Prop} {s : Shared} {K : PySem.W.Frag} {a C : Addr}
end
section
variable {X : Cx} {EX : EXT} {e : Expr} {fa : DE} {pos p pT : Pos}
end
end DL
end
section
namespace DL
open PySem PySem.Spec PyProof.Rows L2
noncomputable def eqsOf (st : Sto) (x : D) : List D → Option (List Bool)
 | [] => some []
 | y :: ys => match eqN st depth y x, eqsOf st x ys with
  | some a, some b => some (a :: b)
  | _, _ => none
section
variable {X : Cx} {EX : EXT} {a b c e o : Expr} {fa fb fc fo : DE} {pos p apos cpos : Pos} {es : List Expr} {g : DA}
open Classical in
theorem eq_items {pins : List (Addr × Obj)} {σ : L2.St} {s : Shared} {O : List Addr} {H : Hp} {st : Sto} (I : Inv X pins σ H s) (W : WR X.K O H st) {x : D} {vx : V} {ux : Value} (rx : Rep X.K O H x vx) (qx : L2.RelV vx ux) {A : Around} (hA : A.units + depth < cLine) :
  ∀ {ys : List D} {vs : List V} {its : List Value} {bs : List Bool}, eqsOf st x ys = some bs → Reps X.K O H ys vs → Vals vs its →
   ∃ e : Value → Bool, (∀ z, e z = decide (∃ d v, Rep X.K O H d v ∧ L2.RelV v z ∧ eqN st depth d x = some true)) ∧ (∀ z ∈ its, SeqAt.EqAt A s z ux (e z)) ∧ its.map e = bs
 | [], vs, its, k, h, r, q => by
  rw [Reps.nil_i] at r
  subst r
  cases q
  simp only [eqsOf, Option.some.injEq] at h
  subst h
  exact ⟨fun z => decide (∃ d v, Rep X.K O H d v ∧ L2.RelV v z ∧ eqN st depth d x = some true), fun _ => rfl, (fun z hz => (by cases hz)), rfl⟩
 | y :: ys, vs, its, k, h, r, q => by
  obtain ⟨v, vs', rfl, ry, rs⟩:=Reps.cons_i.mp r
  cases q with
  | cons q1 q2 =>
   rename_i u us
   unfold eqsOf at h
   cases e1 : eqN st depth y x with
   | none => rw [e1] at h; cases h
   | some a =>
    cases e2 : eqsOf st x ys with
    | none => rw [e1, e2] at h; cases h
    | some b =>
     rw [e1, e2] at h
     simp only [Option.some.injEq] at h
     obtain ⟨e, he, h1, h2⟩:=eq_items I W rx qx hA e2 rs q2
     have hu : e u = a:=by
      rw [he u]
      cases a with
      | true => exact decide_eq_true ⟨y, v, ry, q1, e1⟩
      | false =>
       refine decide_eq_false ?_
       rintro ⟨d, v', r', q', e'⟩
       have ev : v' = v:=q'.inj q1
       subst ev
       have ed:=Rep.inj I W d y v' r' ry
       subst ed
       rw [e1] at e'
       cases e'
     refine ⟨e, he, fun z hz => ?_, ?_⟩
     ·rcases List.mem_cons.mp hz with rfl | hz
      ·rw [hu]
       exact (eq_sound I W depth y x a e1 A v vx z ux ry rx q1 qx hA).1
      ·exact h1 z hz
     ·rw [List.map_cons, hu, h2]
      exact h
noncomputable def indexD (d : D) : List D → Sto → Out D
 | [x], st => match seqL st d with
  | some ys => match eqsOf st x ys with
   | some bs => if bs.idxOf true < bs.length then .ok (.int (bs.idxOf true : Nat)) st else .bad
   | none => .bad
  | none => .bad
 | _, _ => .bad
noncomputable abbrev rLM (X : Cx) (EX : EXT) (γ : D → List D → Sto → Out D) : V → List V → Hp → VK → Prop:=fun x xs H Q => ∃ O d ds st, WR X.K O H st ∧ Rep X.K O H d x ∧ Reps X.K O H ds xs ∧ Run X.K EX O H (γ d ds st) (Val X.K Q)
theorem mt_indexD (hu : X.A.units + 64 < cLine) : MtR X "list.index" (rLM X EX indexD) := by
 intro pins s σ H x xs v us Q I rx rxs h
 obtain ⟨O, d, ds, st, W, r, rs, R⟩:=h
 match ds, rs, R with
 | [], _, R => exact R.elim
 | _ :: _ :: _, _, R => exact R.elim
 | [y], rs, R =>
  dsimp only [indexD] at R
  cases e1 : seqL st d with
  | none => rw [e1] at R; exact R.elim
  | some ys =>
   rw [e1] at R
   dsimp only at R
   cases e2 : eqsOf st y ys with
   | none => rw [e2] at R; exact R.elim
   | some bs =>
    rw [e2] at R
    dsimp only at R
    by_cases hj : bs.idxOf true < bs.length
    ·rw [if_pos hj] at R
     obtain ⟨p, vs, rfl, q, rz⟩:=rdL W r e1
     obtain ⟨v', rfl, rv⟩:=rs.one_of
     obtain ⟨u, rfl, ru⟩:=vals1 rxs
     cases rx
     obtain ⟨its, hv, ⟨⟨cls, dd, data, sl⟩, n, ho, hc, hd, hdd⟩, hz⟩:=I.list q
     simp only at hc hd hdd
     subst hc hd hdd
     obtain ⟨e, _, h1, h2⟩:=eq_items I W rv ru (in_units hu) e2 rz hv
     have hl : its.length = bs.length:=by rw [← h2, List.length_map]
     have at_ : ∀ m (hm : m < its.toArray.size), e its.toArray[m] = bs[m]'(by simpa [← hl] using hm):=by
      intro m hm
      have : bs[m]? = some (e its.toArray[m]):=by
       rw [← h2, List.getElem?_map, List.getElem?_eq_getElem (by simpa using hm)]
       simp
      rw [List.getElem?_eq_getElem (by simpa [← hl] using hm)] at this
      exact (Option.some.inj this).symm
     have hlt : bs.idxOf true < its.toArray.size:=by simpa [hl] using hj
     have hb63 : ((bs.idxOf true : Nat) : Int) < 2 ^ 63 - 1:=by
      have h3 : its.length ≤ sizeLine:=by rw [← hv.length]; exact hz
      have h4:=line63
      have h5 : bs.idxOf true < its.length:=by simpa using hlt
      omega
     refine call_meets PySem.F.slot_list_index ⟨_, ho, rfl⟩ PySem.F.entry_list_index (PySem.F.args_list_index_2 _ _) (SeqAt.list_indexAt p its.toArray n _ sl u e (bs.idxOf true) hlt hb63 ?_ fun m hm hlt' => ?_) ⟨ho, fun z hz => h1 z (by simpa using hz), ?_⟩
     ·rw [at_ _ hlt]
      exact List.getElem_idxOf hj
     ·rw [at_ m hm]
      have:=List.not_of_lt_findIdx (p:=(· == true)) (xs:=bs) (i:=m) hlt'
      simpa using this
     ·exact ⟨.int _, H, I.tok _, ⟨_, rfl⟩, Run.now (k:=Val X.K Q) R W _ (Rep.int_i.mpr rfl)⟩
    ·rw [if_neg hj] at R; exact R.elim
noncomputable def dLM (γ : D → List D → Sto → Out D) (fo : DE) (f : DA) : DE:=fun ρ st => (fo ρ st).bind fun d st1 => match seqL st1 d with
 | some _ => (f ρ st1).bind fun ds st2 => γ d ds st2
 | none => .bad
theorem pd_lm {name : Str} {id : String} {γ : D → List D → Sto → Out D} (slot : Slot "list" name id) (hty : typeOf (.builtin id) = pure (.type "method_descriptor")) (hm : MtR X id (rLM X EX γ)) (ho : PD X EX o fo) (ha : PDA X EX (e :: es) g)
  (hbase : attributeBase o name X.env (eval o X.env) = eval o X.env:=by rfl)
  (hfew : ((backTo cpos (starEach (e :: es) X.env)).all (fun x => !x.1) && (backToKw cpos (keywordEach [] X.env)).all (fun x => x.1.isSome)
   && decide ((e :: es).length + ([] : List Keyword).length + (if ([] : List Keyword).isEmpty then 0 else 1) < 30)) = true:=by rfl)
  (hline : (apos.endLine == cpos.line) = true:=by rfl) (hs : starEach (e :: es) X.env = (false, eval e X.env) :: starEach es X.env:=by rfl) (hplain : (backTo cpos (starEach es X.env)).any (·.1) = false:=by rfl) :
  PD X EX (.Call (.Attribute o name apos) (e :: es) [] cpos) (dLM γ fo g):=by
 refine PE.mono (pe_bm PySem.F.plainAttrs_list slot hty hm ho ha hbase hfew hline hs hplain) ?_
 rintro σ H Q ⟨O, ρ, st, W, E, R⟩
 refine ⟨O, ρ, st, W, E, R.bind.mono fun d st1 O1 H1 k1 W1 R1 v r => ?_⟩
 cases e1 : seqL st1 d with
 | none => rw [e1] at R1; exact R1.elim
 | some ys =>
  rw [e1] at R1
  obtain ⟨pp, vs, rfl, q, rz⟩:=rdL W1 r e1
  exact ⟨.inl ⟨rfl, _, q⟩, O1, ρ, st1, W1, E.mono k1, R1.bind.mono fun ds st2 O2 H2 k2 W2 R2 vs rs => ⟨O2, d, ds, st2, W2, Rep.mono k2 _ _ r, rs, R2⟩⟩
end
section
variable {ρ : Ev} {st : Sto} {f fo : DE} {da : DA} {g : DS} {C : Addr}
@[simp] theorem z_bind_exc {α β : Type} (c : Addr) (st : Sto) (k : α → Sto → Out β) : (Out.exc c st : Out α).bind k = .exc c st:=rfl
@[simp] theorem z_to_exc {α : Type} (c : Addr) (st : Sto) (k : α → Sto → OutS) : (Out.exc c st : Out α).to k = .exc c st:=rfl
@[simp] theorem z_LM {γ : D → List D → Sto → Out D} : dLM γ fo da ρ st = (fo ρ st).bind fun d st1 => match seqL st1 d with
 | some _ => (da ρ st1).bind fun ds st2 => γ d ds st2
 | none => .bad:=rfl
end
end DL
end
section
namespace DL
open PySem PySem.Spec PyProof.Rows L2
section
variable {X : Cx} {EX : EXT} {pos p : Pos} {x : Str} {k j : Nat} {F : FD}
end
theorem us1 {P : List Value → Prop} (h : ∀ a, P [a]) : ∀ us : List Value, us.length = 1 → P us
 | [a], _ => h a
theorem us2 {P : List Value → Prop} (h : ∀ a b, P [a, b]) : ∀ us : List Value, us.length = 2 → P us
 | [a, b], _ => h a b
theorem us3 {P : List Value → Prop} (h : ∀ a b c, P [a, b, c]) : ∀ us : List Value, us.length = 3 → P us
 | [a, b, c], _ => h a b c
end DL
end
section
namespace SO
open PySem PySem.W PyProof.Rows
noncomputable def ok {α : Type} (n : Nat) (lt : Nat → Nat → Bool) : KasT α → (α → Prop) → Prop
 | .ret a, Q => Q a
 | .ask i j k, Q => i < n ∧ j < n ∧ ok n lt (k (lt i j)) Q
section
variable {α β : Type} {n : Nat} {lt : Nat → Nat → Bool}
theorem ok_bind {f : α → KasT β} {Q : β → Prop} : ∀ {t : KasT α}, ok n lt t (fun a => ok n lt (f a) Q) → ok n lt (t.bind f) Q
 | .ret _, h => h
 | .ask _ _ k, ⟨h1, h2, h3⟩ => ⟨h1, h2, ok_bind (t:=k _) h3⟩
theorem ok_mono {Q Q' : α → Prop} (f : ∀ a, Q a → Q' a) : ∀ {t : KasT α}, ok n lt t Q → ok n lt t Q'
 | .ret _, h => f _ h
 | .ask _ _ k, ⟨h1, h2, h3⟩ => ⟨h1, h2, ok_mono f (t:=k _) h3⟩
theorem ok_wp {cmp : Nat → Nat → (Bool → Shared → Prop) → Shared → Prop} {s : Shared} {G : α → Shared → Prop} {Q : α → Prop} (hc : ∀ i j C, i < n → j < n → C (lt i j) s → cmp i j C s) (hG : ∀ a, Q a → G a s) : ∀ {t : KasT α}, ok n lt t Q → t.kasWp cmp G s
 | .ret _, h => hG _ h
 | .ask i j k, ⟨h1, h2, h3⟩ => hc i j _ h1 h2 (ok_wp hc hG (t:=k _) h3)
end
structure Ord (n : Nat) (lt : Nat → Nat → Bool) : Prop where
 tot : ∀ i j, i < n → j < n → i ≠ j → lt i j = false → lt j i = true
 asy : ∀ i j, i < n → j < n → lt i j = true → lt j i = false
 trn : ∀ i j k, i < n → j < n → k < n → lt i j = true → lt j k = true → lt i k = true
noncomputable def Al (n : Nat) (p : Array Nat) : Prop:=p.toList.Perm (List.range n)
noncomputable abbrev G (p : Array Nat) (i : Nat) : Nat:=p.getD i 0
section
variable {n : Nat} {lt : Nat → Nat → Bool} {p : Array Nat}
theorem Al.size (h : Al n p) : p.size = n:=by have:=h.length_eq; simpa using this
theorem G_eq (i : Nat) (h : i < p.size) : G p i = p[i]:=by simp [G, Array.getD, h]
theorem Al.bel (h : Al n p) (i : Nat) (hn : 0 < n) : G p i < n:=by
 by_cases hi : i < p.size
 ·rw [G_eq i hi]
  have : p[i] ∈ p.toList:=by simp
  have:=h.mem_iff.mp this
  simpa using this
 ·simp [G, Array.getD, hi, hn]
theorem Al.inj (h : Al n p) {i j : Nat} (hi : i < n) (hj : j < n) (ne : i ≠ j) : G p i ≠ G p j:=by
 have nd : p.toList.Nodup:=h.nodup_iff.mpr List.nodup_range
 have hs:=h.size
 rw [G_eq i (by omega), G_eq j (by omega)]
 intro e
 have:=(List.getElem_inj (i:=i) (j:=j) (h₀:=by simpa using (by omega : i < p.size)) (h₁:=by simpa using (by omega : j < p.size)) nd).mp (by simpa using e)
 exact ne this
theorem G_cong {q : Array Nat} {i j : Nat} (h : p[i]? = q[j]?) : G p i = G q j:=by
 simp only [G, Array.getD_eq_getD_getElem?, h]
noncomputable def SP (lt : Nat → Nat → Bool) (p : Array Nat) (k : Nat) : Prop:=∀ i j, i < j → j < k → lt (G p i) (G p j) = true
noncomputable def DP (lt : Nat → Nat → Bool) (p : Array Nat) (k : Nat) : Prop:=∀ i j, i < j → j < k → lt (G p j) (G p i) = true
theorem SP.one : SP lt p 1:=fun i j h1 h2 => by omega
theorem SP.next (O : Ord n lt) (h : Al n p) {m : Nat} (h1 : 1 ≤ m) (hm : m < n) (s : SP lt p m) (e : lt (G p (m - 1)) (G p m) = true) : SP lt p (m + 1):=by
 intro i j hij hj
 by_cases hjm : j < m
 ·exact s i j hij hjm
 ·have : j = m:=by omega
  subst this
  by_cases hi : i = j - 1
  ·subst hi; exact e
  ·exact O.trn _ _ _ (h.bel _ (by omega)) (h.bel _ (by omega)) (h.bel _ (by omega)) (s i (j - 1) (by omega) (by omega)) e
theorem DP.next (O : Ord n lt) (h : Al n p) {m : Nat} (h1 : 1 ≤ m) (hm : m < n) (s : DP lt p m) (e : lt (G p m) (G p (m - 1)) = true) : DP lt p (m + 1):=by
 intro i j hij hj
 by_cases hjm : j < m
 ·exact s i j hij hjm
 ·have : j = m:=by omega
  subst this
  by_cases hi : i = j - 1
  ·subst hi; exact e
  ·exact O.trn _ _ _ (h.bel _ (by omega)) (h.bel _ (by omega)) (h.bel _ (by omega)) e (s i (j - 1) (by omega) (by omega))
theorem asc_ok (O : Ord n lt) (h : Al n p) : ∀ (f m : Nat), 1 ≤ m → m + f = n → SP lt p m → ok n lt (kas_asc p f m) (fun r => m ≤ r ∧ r ≤ n ∧ SP lt p r ∧ (r < n → lt (G p r) (G p (r - 1)) = true))
 | 0, m, h1, hf, s => ⟨Nat.le_refl _, by omega, s, fun z => by omega⟩
 | f + 1, m, h1, hf, s => by
  unfold kas_asc
  refine ⟨h.bel _ (by omega), h.bel _ (by omega), ?_⟩
  cases e : lt (p.getD m 0) (p.getD (m - 1) 0) with
  | true =>
   dsimp only
   rw [if_pos rfl]
   exact ⟨Nat.le_refl _, by omega, s, fun _ => e⟩
  | false =>
   dsimp only
   rw [if_neg (by simp)]
   have e':=O.tot _ _ (h.bel _ (by omega)) (h.bel _ (by omega)) (h.inj (i:=m) (j:=m - 1) (by omega) (by omega) (by omega)) e
   exact ok_mono (fun r z => ⟨Nat.le_of_succ_le z.1, z.2⟩) (asc_ok O h f (m + 1) (by omega) (by omega) (s.next O h h1 (by omega) e'))
theorem desc_ok (O : Ord n lt) (h : Al n p) : ∀ (f m : Nat), 1 ≤ m → m + f = n → DP lt p m → ok n lt (kas_desc f p m 0) (fun r => r.1 = p ∧ r.2.2 = 0 ∧ m ≤ r.2.1 ∧ r.2.1 ≤ n ∧ DP lt p r.2.1)
 | 0, m, h1, hf, s => ⟨rfl, rfl, Nat.le_refl _, (by omega : m ≤ n), s⟩
 | f + 1, m, h1, hf, s => by
  unfold kas_desc
  refine ⟨h.bel _ (by omega), h.bel _ (by omega), ?_⟩
  cases e : lt (p.getD m 0) (p.getD (m - 1) 0) with
  | true =>
   dsimp only
   rw [if_pos rfl, if_neg (Nat.lt_irrefl 0)]
   exact ok_mono (fun r z => ⟨z.1, z.2.1, Nat.le_of_succ_le z.2.2.1, z.2.2.2⟩) (desc_ok O h f (m + 1) (by omega) (by omega) (s.next O h h1 (by omega) e))
  | false =>
   dsimp only
   rw [if_neg (by simp)]
   have e':=O.tot _ _ (h.bel _ (by omega)) (h.bel _ (by omega)) (h.inj (i:=m) (j:=m - 1) (by omega) (by omega) (by omega)) e
   refine ⟨h.bel _ (by omega), h.bel _ (by omega), ?_⟩
   rw [e']
   dsimp only
   rw [if_pos rfl]
   exact ⟨rfl, rfl, Nat.le_refl _, (by omega : m ≤ n), s⟩
theorem Al.rev (h : Al n p) (m : Nat) : Al n (kas_rev p 0 m):=((mirror_perm p 0 m _).toList).trans h
theorem G_rev {m : Nat} (hm : m ≤ p.size) (k : Nat) : G (kas_rev p 0 m) k = if k < m then G p (m - 1 - k) else G p k:=by
 have e:=getElem?_mirror_all (xs:=p) (i:=0) hm k
 by_cases hk : k < m
 ·rw [if_pos hk]
  rw [if_pos ⟨Nat.zero_le _, hk⟩] at e
  rw [show 0 + m - 1 - k = m - 1 - k by omega] at e
  exact G_cong e
 ·rw [if_neg hk]
  rw [if_neg (fun z => hk z.2)] at e
  exact G_cong e
theorem rev_SP (h : Al n p) {m : Nat} (hm : m ≤ n) (d : DP lt p m) : SP lt (kas_rev p 0 m) m:=by
 intro i j hij hj
 have hs:=h.size
 rw [G_rev (by omega), G_rev (by omega), if_pos (by omega), if_pos hj]
 exact d _ _ (by omega) (by omega)
theorem tail3_ok (O : Ord n lt) (h : Al n p) {m : Nat} (h1 : 1 ≤ m) (hm : m ≤ n) (d : DP lt p m) : ok n lt (kas_tail3 m n p) (fun r => Al n r.2 ∧ 1 ≤ r.1 ∧ r.1 ≤ n ∧ SP lt r.2 r.1):=by
 unfold kas_tail3
 refine ok_bind (ok_mono (fun r z => ?_) (asc_ok O (h.rev m) (n - m) m h1 (by omega) (rev_SP h hm d)))
 exact ⟨h.rev m, by omega, z.2.1, z.2.2.1⟩
theorem count_ok (O : Ord n lt) (h : Al n p) (hn : 1 ≤ n) : ok n lt (kas_count n p) (fun r => Al n r.2 ∧ 1 ≤ r.1 ∧ r.1 ≤ n ∧ SP lt r.2 r.1):=by
 unfold kas_count
 refine ok_bind (ok_mono (fun r z => ?_) (asc_ok O h (n - 1) 1 (Nat.le_refl _) (by omega) SP.one))
 obtain ⟨z1, z2, z3, z4⟩:=z
 by_cases hr : r = n
 ·subst hr
  simp only [beq_self_eq_true, if_true]
  exact ⟨h, z1, z2, z3⟩
 ·have hb : (r == n) = false:=by simp [hr]
  rw [hb, if_neg (by simp)]
  by_cases h1 : r > 1
  ·rw [if_pos h1]
   refine ⟨h.bel _ (by omega), h.bel _ (by omega), ?_⟩
   have e : lt (p.getD 0 0) (p.getD (r - 1) 0) = true:=z3 0 (r - 1) (by omega) (by omega)
   rw [e]
   dsimp only
   rw [if_pos rfl]
   exact ⟨h, z1, z2, z3⟩
  ·rw [if_neg h1]
   have : r = 1:=by omega
   subst this
   unfold kas_descPart
   have d2 : DP lt p 2:=by
    intro i j hij hj
    have hi : i = 0:=by omega
    have hj' : j = 1:=by omega
    subst hi hj'
    exact z4 (by omega)
   refine ok_bind (ok_mono (fun r w => ?_) (desc_ok O h (n - (1 + 1)) (1 + 1) (by omega) (by omega) d2))
   obtain ⟨w1, w2, w3, w4, w5⟩:=w
   obtain ⟨r1, r2, r3⟩:=r
   dsimp only at w1 w2 w3 w4 w5 ⊢
   subst w1 w2
   rw [if_neg (Nat.lt_irrefl 0)]
   exact tail3_ok O h (by omega) w4 w5
theorem place_ok (O : Ord n lt) (h : Al n p) {k : Nat} (hk : k < n) : ∀ (f l r : Nat), r - l ≤ f → l ≤ r → r ≤ k → (∀ i, i < l → lt (G p i) (G p k) = true) → (∀ i, r ≤ i → i < k → lt (G p k) (G p i) = true) → SP lt p k →
  ok n lt (kas_place p k f l r) (fun m => m ≤ k ∧ (∀ i, i < m → lt (G p i) (G p k) = true) ∧ ∀ i, m ≤ i → i < k → lt (G p k) (G p i) = true)
 | 0, l, r, hf, hl, hr, a, b, s => by
  have : l = r:=by omega
  subst this
  exact ⟨hr, a, b⟩
 | f + 1, l, r, hf, hl, hr, a, b, s => by
  unfold kas_place
  by_cases hlr : l ≥ r
  ·rw [if_pos hlr]
   have : l = r:=by omega
   subst this
   exact ⟨hr, a, b⟩
  ·rw [if_neg hlr]
   refine ⟨h.bel _ (by omega), h.bel _ (by omega), ?_⟩
   have hm1 : l ≤ (l + r) / 2:=by omega
   have hm2 : (l + r) / 2 < r:=by omega
   cases e : lt (p.getD k 0) (p.getD ((l + r) / 2) 0) with
   | true =>
    dsimp only
    rw [if_pos rfl]
    refine place_ok O h hk f l ((l + r) / 2) (by omega) hm1 (by omega) a (fun i hi1 hi2 => ?_) s
    by_cases hi : i = (l + r) / 2
    ·subst hi; exact e
    ·exact O.trn _ _ _ (h.bel _ (by omega)) (h.bel _ (by omega)) (h.bel _ (by omega)) e (s _ _ (by omega) hi2)
   | false =>
    dsimp only
    rw [if_neg (by simp)]
    have e':=O.tot _ _ (h.bel _ (by omega)) (h.bel _ (by omega)) (h.inj (i:=k) (j:=(l + r) / 2) hk (by omega) (by omega)) e
    refine place_ok O h hk f ((l + r) / 2 + 1) r (by omega) (by omega) hr (fun i hi => ?_) b s
    by_cases hi2 : i = (l + r) / 2
    ·subst hi2; exact e'
    ·exact O.trn _ _ _ (h.bel _ (by omega)) (h.bel _ (by omega)) (h.bel _ (by omega)) (s i ((l + r) / 2) (by omega) (by omega)) e'
theorem Al.bub (h : Al n p) (k d : Nat) : Al n (bubble p k d):=((bubble_perm p k d).toList).trans h
theorem G_bub {k d : Nat} (hk : k < p.size) (hd : d ≤ k) (i : Nat) : G (bubble p k d) i = if i = k - d then G p k else if k - d < i ∧ i ≤ k then G p (i - 1) else G p i:=by
 have e:=getElem?_bubble hk d hd i
 by_cases h1 : i = k - d
 ·rw [if_pos h1] at e ⊢; exact G_cong e
 ·rw [if_neg h1] at e ⊢
  by_cases h2 : k - d < i ∧ i ≤ k
  ·rw [if_pos h2] at e ⊢; exact G_cong e
  ·rw [if_neg h2] at e ⊢; exact G_cong e
theorem bin_ok (O : Ord n lt) : ∀ (f k : Nat) (p : Array Nat), Al n p → k + f = n → SP lt p k → ok n lt (kas_bin f p k) (fun q => Al n q ∧ SP lt q n)
 | 0, k, p, h, hf, s => by
  have : k = n:=by omega
  subst this
  exact ⟨h, s⟩
 | f + 1, k, p, h, hf, s => by
  unfold kas_bin
  refine ok_bind (ok_mono (fun m z => ?_) (place_ok O h (by omega) k 0 k (by omega) (Nat.zero_le _) (Nat.le_refl _) (fun i hi => by omega) (fun i h1 h2 => by omega) s))
  obtain ⟨z1, z2, z3⟩:=z
  refine bin_ok O f (k + 1) _ (h.bub k (k - m)) (by omega) ?_
  have hs:=h.size
  intro i j hij hj
  rw [G_bub (by omega) (by omega), G_bub (by omega) (by omega)]
  have hkm : k - (k - m) = m:=by omega
  rw [hkm]
  by_cases hi : i = m
  ·rw [if_pos hi, if_neg (by omega), if_pos (by omega)]
   exact z3 _ (by omega) (by omega)
  ·rw [if_neg hi]
   by_cases hj' : j = m
   ·rw [if_pos hj', if_neg (by omega)]
    exact z2 _ (by omega)
   ·rw [if_neg hj']
    by_cases hi3 : m < i ∧ i ≤ k
    ·rw [if_pos hi3, if_pos (by omega)]
     exact s _ _ (by omega) (by omega)
    ·rw [if_neg hi3]
     by_cases hj3 : m < j ∧ j ≤ k
     ·rw [if_pos hj3]
      by_cases hij2 : i = j - 1
      ·omega
      ·exact s _ _ (by omega) (by omega)
     ·rw [if_neg hj3]
      exact s _ _ hij (by omega)
theorem sort_ok (O : Ord n lt) (hn : 1 ≤ n) : ok n lt (kas_sort n) (fun q => Al n q ∧ SP lt q n):=by
 unfold kas_sort
 refine ok_bind (ok_mono (fun r z => ?_) (count_ok O (show Al n (List.toArray (List.range n)) from List.Perm.refl _) hn))
 obtain ⟨z1, z2, z3, z4⟩:=z
 by_cases hr : r.1 < n
 ·rw [if_pos hr, show max r.1 1 = r.1 by omega]
  exact bin_ok O _ _ _ z1 (by omega) z4
 ·rw [if_neg hr]
  have : r.1 = n:=by omega
  rw [this] at z4
  exact ⟨z1, z4⟩
end
end SO
end
section
set_option maxHeartbeats 2000000
namespace SO
open PySem PySem.W PyProof.Rows
theorem SP.pw {n : Nat} {lt : Nat → Nat → Bool} {p : Array Nat} (h : Al n p) (s : SP lt p n) : p.toList.Pairwise (fun i j => lt i j = true):=by
 rw [List.pairwise_iff_getElem]
 intro i j hi hj hij
 have hs:=h.size
 simp only [Array.length_toList] at hi hj
 have:=s i j hij (by omega)
 rw [G_eq i hi, G_eq j hj] at this
 simpa using this
section
variable {prog : Program} {w : World} {A : Around} {E : Value → Shared → Prop} {s : Shared}
noncomputable abbrev KB (s : Shared) (a : Addr) (h' : Heap) : Prop:=∀ b o, b ≠ a → s.heap.get? b = some o → h'.get? b = some o
structure Cmp (prog : Program) (w : World) (s : Shared) (a : Addr) (vs : List Value) (κ : SortKind) (lt : Nat → Nat → Bool) : Prop where
 kind : 2 ≤ vs.length → ∀ (h' : Heap) (A : Around) (E : Value → Shared → Prop) (Q : SortKind → Shared → Prop), KB s a h' → Q κ { s with heap:=h' } → wpAny (model prog w) A (keyKind' vs.toArray) Q E { s with heap:=h' }
 less : 2 ≤ vs.length → ∀ (h' : Heap) (A : Around) (E : Value → Shared → Prop) (Q : Bool → Shared → Prop) (i j : Nat), KB s a h' → i < vs.length → j < vs.length → Q (lt i j) { s with heap:=h' } → wpAny (model prog w) A (keyLt' κ (vs.getD i .none) (vs.getD j .none)) Q E { s with heap:=h' }
theorem fin_keep {g : Heap} {a : Addr} {e1 : Nat} {vs : List Value} {p : List Nat} {f : Bool → Sem PySem.Fin} {P : PySem.Fin → Shared → Prop} (hoa : g.get? a = some (seqObj "list" #[] e1)) (h64 : vs.length < 64) (hp : p.Perm (List.range vs.length))
  (k : ∀ h' c, (∀ b o, b ≠ a → g.get? b = some o → h'.get? b = some o) → h'.get? a = some (seqObj "list" (p.map fun i => vs.getD i .none).toArray c) → wpAny (model prog w) A (f false) P E { s with heap := h' }) :
  wpAny (model prog w) A (seqEpoch a >>= fun e => Builtin.List.listUpdate (.ref a) (fun _ => (p.map fun i => vs.getD i Value.none).toArray) >>= fun _ => f (e != e1)) P E { s with heap:=g }:=by
 have z : ((p.map fun i => vs.getD i Value.none).toArray).size ≤ sizeLine + 1:=by
  rw [List.size_toArray, List.length_map, hp.length_eq, List.length_range, sizeLine_eq]
  omega
 have s2:=Heap.SameBut.update g a (Obj.mapSeq fun _ => (p.map fun i => vs.getD i Value.none).toArray)
 refine wpAny_bind (seqEpoch_at hoa rfl (wpAny_bind (listUpdate_at hoa rfl ?_ (Nat.zero_le _) z)))
 rw [bne_self_eq_false]
 exact k _ _ (fun b o ne e => s2.extBut b o ne e) (get?_update_seq hoa fun _ => (p.map fun i => vs.getD i Value.none).toArray)
theorem list_sort_keep {a : Addr} {vs : List Value} {n0 : Nat} {κ : SortKind} {lt : Nat → Nat → Bool} {P : PySem.Fin → Shared → Prop} (ho : s.heap.get? a = some (seqObj "list" vs.toArray n0)) (h64 : vs.length < 64)
  (C : Cmp prog w s a vs κ lt) (O : Ord vs.length lt)
  (k : ∀ p : List Nat, p.Perm (List.range vs.length) → p.Pairwise (fun i j => lt i j = true) → ∀ h' c, KB s a h' → h'.get? a = some (seqObj "list" (p.map fun i => vs.getD i .none).toArray c) → P (.done (.ret .none)) { s with heap := h' }) :
  wpAny (model prog w) A (Builtin.«list.sort» ⟨[.ref a], []⟩) P E s:=by
 have ha : a < s.heap.objs.size:=Heap.lt_size ho
 have s1:=Heap.SameBut.update s.heap a (Obj.mapSeq fun _ => (#[] : Array Value))
 obtain ⟨e1, ho1⟩ : ∃ e1, (s.heap.update a (Obj.mapSeq fun _ => (#[] : Array Value))).get? a = some (seqObj "list" #[] e1) := ⟨_, get?_update_seq ho fun _ => #[]⟩
 have hk : KB s a (((s.heap.update a (Obj.mapSeq fun _ => (#[] : Array Value))).push (seqObj "tuple" vs.toArray 0)).push (seqObj "list" #[] 0)) := fun b o hb e =>
  Heap.get?_push_of_some _ (Heap.get?_push_of_some _ (s1.extBut b o hb e))
 have hoa : (((s.heap.update a (Obj.mapSeq fun _ => (#[] : Array Value))).push (seqObj "tuple" vs.toArray 0)).push (seqObj "list" #[] 0)).get? a = some (seqObj "list" #[] e1) := Heap.get?_push_of_some _ (Heap.get?_push_of_some _ ho1)
 rw [list_sort_plain]
 refine wpAny_bind (listItems_at ho rfl ?_)
 refine wpAny_bind (listUpdate_at ho rfl ?_ (by rw [List.size_toArray, sizeLine_eq]; omega) (Nat.zero_le _))
 refine wpAny_bind (seqEpoch_at ho1 rfl ?_)
 refine wpAny_bind (wpAny_newTuple ?_ (by show vs.length ≤ _; rw [sizeLine_eq]; omega))
 refine wpAny_bind (wpAny_newList ?_ (Nat.zero_le _))
 refine wpAny_holding ?_
 show wpAny (model prog w) A _ P E { s with heap := ((s.heap.update a (Obj.mapSeq fun _ => (#[] : Array Value))).push (seqObj "tuple" vs.toArray 0)).push (seqObj "list" #[] 0) }
 generalize hg : ((s.heap.update a (Obj.mapSeq fun _ => (#[] : Array Value))).push (seqObj "tuple" vs.toArray 0)).push (seqObj "list" #[] 0) = g at hk hoa
 dsimp only
 by_cases h2 : vs.length < 2
 ·have hn2 : vs.toArray.size < 2:=by rw [List.size_toArray]; omega
  rw [if_pos hn2, if_pos hn2]
  refine wpAny_bind (wpAny_pure (wpAny_bind (wpAny_pure ?_)))
  have hm : (arrOf (SortSt.mk' general' (vs.toArray.zip vs.toArray) #[] 7 none)).map (·.2) = ((List.range vs.length).map fun i => vs.getD i Value.none).toArray:=by
   show (vs.toArray.zip vs.toArray).map (·.2) = _
   match vs, h2 with
   | [], _ => simp
   | [v], _ => simp [List.range_succ]
  have hpw : (List.range vs.length).Pairwise (fun i j => lt i j = true):=by
   match vs, h2 with
   | [], _ => exact .nil
   | [v], _ => exact List.pairwise_singleton _ _
  have hf : failedOf (SortSt.mk' general' (vs.toArray.zip vs.toArray) #[] 7 none) = none:=rfl
  dsimp only
  rw [hm]
  refine fin_keep (f:=fun b => if b = true then _ else _) hoa h64 (List.Perm.refl _) fun h' c hb hc => ?_
  simp only [Bool.false_eq_true, if_false]
  exact wpAny_pure (k _ (List.Perm.refl _) hpw h' c (fun b o ne e => hb b o ne (hk b o ne e)) hc)
 ·have hn2 : ¬ vs.toArray.size < 2:=by rw [List.size_toArray]; omega
  rw [if_neg hn2, if_neg hn2]
  refine wpAny_bind (C.kind (by omega) g A E _ hk ?_)
  refine wpAny_bind (wpAny_mono (kat_run (κ:=κ) (ks:=vs) (vs:=vs) (G:=fun p s' => Al vs.length p ∧ SP lt p vs.length ∧ s' = { s with heap:=g }) (Q:=fun st' s' => ∃ p : Array Nat, arrOf st' = p.map (kas_item (vs.toArray.zip vs.toArray)) ∧ failedOf st' = none ∧ Al vs.length p ∧ SP lt p vs.length ∧ s' = { s with heap:=g })
   rfl (by omega) h64 (fun p st' s' _ h1 h2 h3 => ⟨p, h1, h2, h3⟩) ?_) ?_ fun _ _ e => e)
  ·refine ok_wp (Q:=fun p => Al vs.length p ∧ SP lt p vs.length) (fun i j D hi hj hD => ?_) (fun p z => ⟨z.1, z.2, rfl⟩) (sort_ok O (by omega))
   exact C.less (by omega) g A _ _ i j hk hi hj hD
  ·rintro ⟨⟨⟩, st'⟩ s' ⟨p, har, hf, hA, hS, rfl⟩
   dsimp only
   rw [kat_snds rfl har, hf]
   refine fin_keep (f:=fun b => if b = true then _ else _) hoa h64 hA fun h' c hb hc => ?_
   simp only [Bool.false_eq_true, if_false]
   exact wpAny_pure (k _ hA (hS.pw hA) h' c (fun b o ne e => hb b o ne (hk b o ne e)) hc)
end
end SO
end
section
set_option maxHeartbeats 2000000
namespace DL
open PySem PySem.Spec PyProof.Rows L2 PySem.W
section
variable {X : Cx} {EX : EXT}
theorem vals_map {α : Type} {f : α → V} {g : α → Value} : ∀ (l : List α), (∀ i ∈ l, RelV (f i) (g i)) → Vals (l.map f) (l.map g)
 | [], _ => .nil
 | i :: l, h => .cons (h i (.head _)) (vals_map l fun j hj => h j (.tail _ hj))
theorem reps_map {α : Type} {K : PySem.W.Frag} {O : List Addr} {H : Hp} {f : α → D} {g : α → V} : ∀ (l : List α), (∀ i ∈ l, Rep K O H (f i) (g i)) → Reps K O H (l.map f) (l.map g)
 | [], _ => Reps.nil_i.mpr rfl
 | i :: l, h => Reps.cons_i.mpr ⟨_, _, rfl, h i (.head _), reps_map l fun j hj => h j (.tail _ hj)⟩
end
end DL
namespace DL
open PySem PySem.Spec PyProof.Rows L2
section
variable {X : Cx} {EX : EXT} {e : Expr} {pos : Pos}
end
end DL
end
section
set_option maxHeartbeats 2000000
namespace HT
open PySem PySem.Builtin PySem.Builtin.Str
section
variable {prog : Program} {w : World} {A : Around} {E : Value → Shared → Prop} {s : Shared} {x y : Str} {t u : Tok} {Q : Value → Shared → Prop}
end
end HT
namespace DL
open PySem PySem.Spec PyProof.Rows L2
section
variable {X : Cx} {EX : EXT} {o a e : Expr} {es : List Expr} {fo fa : DE} {g : DA} {cpos apos : Pos}
end
end DL
namespace DL
open PySem PySem.Spec PyProof.Rows L2
end DL
end
section
namespace L2
open PySem PySem.Spec PyProof.Rows
end L2
namespace L2
open PySem PySem.Spec PyProof.Rows
section
variable (P : Program) (w : World)
end
section
variable {P : Program} {w : World} {H H' : Hp} {h h' : Heap} {a : Addr} {o : HO}
end
section
variable {P : Program} {w : World} {H : Hp} {h h' : Heap} {x e : Addr} {o' : HO}
end
section
variable {fs fs' ex ex' : List Addr} {H H1 H2 : Hp} {h h1 h2 h' : Heap} {a x e : Addr} {o : HO}
end
end L2
namespace L2
open PySem PySem.Spec PyProof.Rows
section
variable {X : Cx} {pins : List (Addr × Obj)} {σ : List (Option V)} {H H' : Hp} {s : Shared} {h' : Heap}
end
end L2
namespace L2
open PySem PySem.Spec PyProof.Rows
section
variable {X : Cx}
variable {a b : Expr} {ta tb : TE} {pos : Pos}
variable {tA tB' : TT} {rest : List Expr}
end
end L2
namespace L2
open PySem PySem.Spec PyProof.Rows
section
variable {X : Cx} {pins : List (Addr × Obj)} {σ : St} {H : Hp} {s : Shared} {a : Addr} {xs ys : List V}
end
section
variable {X : Cx} {pins : List (Addr × Obj)} {σ : St} {H : Hp} {s : Shared} {E : Value → Shared → Prop}
end
section
variable {X : Cx} {st : Stmt} {rest : List Stmt} {t u : TS} {e : Expr} {te : TE} {pos : Pos}
end
section
variable {X : Cx} {pos : Pos}
end
section
variable {X : Cx} {pos : Pos}
end
end L2
namespace L2
open PySem PySem.Spec PyProof.Rows
section
variable {X : Cx} {tg : Expr}
end
end L2
namespace L2
open PySem PySem.Spec PyProof.Rows
section
variable {X : Cx} {a b c : Expr} {ta tb tc : TE} {pos : Pos}
end
section
variable {X : Cx} {a b c : Expr} {ta tb tc : TE} {pos : Pos}
end
end L2
namespace L2
open PySem PySem.Spec PyProof.Rows
section
variable {prog : Program} {w : World} {A : Around} {E : Value → Shared → Prop} {s : Shared} {K : PySem.W.Frag} {x dx C f : Addr} {mA : Str → Option Value} {name : Str} {v : Value}
end
section
variable {P : Program} {w : World} {H H' : Hp} {h h' : Heap} {a C dx : Addr} {fs fs' : List (Str × V)}
end
section
variable {X : Cx} {pins : List (Addr × Obj)} {σ : St} {H : Hp} {s : Shared} {a C dx : Addr} {fs : List (Str × V)} {f : Str} {v : V} {A : Around} {E : Value → Shared → Prop}
end
section
variable {X : Cx} {o e value : Expr} {f : Str} {pos pos' tpos : Pos} {ta tv : TE}
end
section
variable {X : Cx} {pins : List (Addr × Obj)} {σ : St} {H : Hp} {s : Shared} {A : Around} {E : Value → Shared → Prop} {Q : Value → Shared → Prop} {c : Value} {b : Bool}
end
end L2
namespace L2
open PySem PySem.Spec PyProof.Rows
section
variable {X : Cx} {e : Expr} {es : List Expr} {te : TE} {t : TA} {pos : Pos}
end
section
variable {X : Cx} {pins : List (Addr × Obj)} {σ : St} {H : Hp} {s s' : Shared}
end
section
variable {X : Cx} {CX : CXT} {k : Nat} {f C : Addr} {fd : FuncData} {ps : List Str} {sp : Sp} {dvs : List V} {ds : List Value} {E : XK} {x m : Str} {p pos apos : Pos} {e o : Expr} {es : List Expr} {ta : TE} {t : TA}
end
section
variable {X : Cx} {CX : CXT} {k : Nat} {f C : Addr} {fd : FuncData} {ps ks : List Str} {sp : Sp} {E : XK} {x m : Str} {p pos apos kpos : Pos} {e o : Expr} {es : List Expr} {kws : List Keyword} {te ta : TE} {t tk : TA} {nm : Option Str}
variable {g : List Value → List Value → List Value} {gV : List V → List V → List V}
end
end L2
namespace L2
open PySem PySem.Spec PyProof.Rows
section
variable {X : Cx} {x : Str} {p pos : Pos} {e : Expr} {es : List Expr} {t : TA} {id T : String} {r : List V → Hp → VK → Prop}
end
end L2
namespace L2
open PySem PySem.Spec PyProof.Rows
section
variable {κ : Type} [DecidableEq κ]
noncomputable def valV (kvs : List (κ × V)) (k : κ) : Option V:=(kvs.find? fun kv => decide (kv.1 = k)).map (·.2)
noncomputable def putK (kvs : List (κ × V)) (k : κ) (v : V) : List (κ × V) :=
 if (kvs.any fun kv => decide (kv.1 = k)) = true then kvs.map (fun kv => if kv.1 = k then (kv.1, v) else kv) else kvs ++ [(k, v)]
noncomputable def dropK (kvs : List (κ × V)) (k : κ) : List (κ × V):=kvs.filter fun kv => decide (kv.1 ≠ k)
theorem valV_pos {p : κ × V} {r : List (κ × V)} {k : κ} (e : p.1 = k) : valV (p :: r) k = some p.2:=by simp [valV, List.find?_cons, e]
theorem valV_neg {p : κ × V} {r : List (κ × V)} {k : κ} (e : ¬ p.1 = k) : valV (p :: r) k = valV r k:=by simp [valV, List.find?_cons, e]
theorem valV_any (k : κ) : ∀ kvs : List (κ × V), (kvs.any fun kv => decide (kv.1 = k)) = (valV kvs k).isSome
 | [] => rfl
 | p :: r => by
  rw [List.any_cons]
  by_cases e : p.1 = k
  ·simp only [valV_pos e, decide_eq_true e, Bool.true_or, Option.isSome_some]
  ·rw [valV_neg e, decide_eq_false e, Bool.false_or]; exact valV_any k r
theorem length_putK (kvs : List (κ × V)) (k : κ) (v : V) : (putK kvs k v).length ≤ kvs.length + 1:=by
 unfold putK
 split
 ·rw [List.length_map]; omega
 ·rw [List.length_append, List.length_cons, List.length_nil]; omega
theorem RelO.isSome_eq {o : Option V} {u : Option Value} (r : RelO o u) : o.isSome = u.isSome:=by
 cases o with
 | none => cases u with
  | none => rfl
  | some _ => exact (show False from r).elim
 | some _ => cases u with
  | none => exact (show False from r).elim
  | some _ => rfl
theorem RelO.getD {o : Option V} {u : Option Value} {d : V} {d' : Value} (r : RelO o u) (rd : RelV d d') : RelV (o.getD d) (u.getD d'):=by
 cases o with
 | none => cases u with
  | none => exact rd
  | some _ => exact (show False from r).elim
 | some _ => cases u with
  | none => exact (show False from r).elim
  | some _ => exact r
theorem KV.val {kvs : List (κ × V)} {vs : List (κ × Value)} (r : KV kvs vs) (k : κ) : RelO (valV kvs k) (valueAt vs k):=by
 unfold KV at r
 induction r with
 | nil => exact True.intro
 | @cons p q ps qs h t ih =>
  obtain ⟨h1, h2⟩:=h
  by_cases e : p.1 = k
  ·have e' : q.1 = k:=h1.symm.trans e
   have b : valueAt (q :: qs) k = some q.2:=by simp [valueAt, List.find?_cons, e']
   rw [valV_pos e, b]; exact h2
  ·have e' : ¬ q.1 = k:=fun z => e (h1.trans z)
   have b : valueAt (q :: qs) k = valueAt qs k:=by simp [valueAt, List.find?_cons, e']
   rw [valV_neg e, b]; exact ih
theorem KV.any {kvs : List (κ × V)} {vs : List (κ × Value)} (r : KV kvs vs) (k : κ) : (kvs.any fun kv => decide (kv.1 = k)) = vs.any fun kv => decide (kv.1 = k):=by
 unfold KV at r
 induction r with
 | nil => rfl
 | cons h t ih => rw [List.any_cons, List.any_cons, ih, h.1]
theorem KV.repl {kvs : List (κ × V)} {vs : List (κ × Value)} (r : KV kvs vs) (k : κ) {y : V} {u : Value} (ry : RelV y u) :
  KV (kvs.map fun kv => if kv.1 = k then (kv.1, y) else kv) (vs.map fun kv => if kv.1 = k then (kv.1, u) else kv):=by
 unfold KV at r ⊢
 induction r with
 | nil => exact .nil
 | @cons p q ps qs h t ih =>
  rw [List.map_cons, List.map_cons]
  refine .cons ?_ ih
  obtain ⟨h1, h2⟩:=h
  by_cases e : p.1 = k
  ·rw [if_pos e, if_pos (h1.symm.trans e)]; exact ⟨h1, ry⟩
  ·rw [if_neg e, if_neg (fun z => e (h1.trans z))]; exact ⟨h1, h2⟩
theorem KV.put {kvs : List (κ × V)} {vs : List (κ × Value)} (r : KV kvs vs) (k : κ) {y : V} {u : Value} (ry : RelV y u) : KV (putK kvs k y) (stored vs k u):=by
 unfold putK stored
 rw [r.any k]
 by_cases e : (vs.any fun kv => decide (kv.1 = k)) = true
 ·rw [if_pos e, if_pos e]; exact r.repl k ry
 ·rw [if_neg e, if_neg e]; exact Paired.snoc r ⟨rfl, ry⟩
theorem KV.drop {kvs : List (κ × V)} {vs : List (κ × Value)} (r : KV kvs vs) (k : κ) : KV (dropK kvs k) (without vs k):=by
 unfold KV at r ⊢
 unfold dropK without
 induction r with
 | nil => exact .nil
 | @cons p q ps qs h t ih =>
  obtain ⟨h1, h2⟩:=h
  rw [List.filter_cons, List.filter_cons]
  by_cases e : p.1 = k
  ·have a : ¬ decide (p.1 ≠ k) = true:=by simp [e]
   have b : ¬ decide (q.1 ≠ k) = true:=by simp [h1.symm.trans e]
   rw [if_neg a, if_neg b]; exact ih
  ·have e' : ¬ q.1 = k:=fun z => e (h1.trans z)
   have a : decide (p.1 ≠ k) = true:=by simp [e]
   have b : decide (q.1 ≠ k) = true:=by simp [e']
   rw [if_pos a, if_pos b]; exact .cons ⟨h1, h2⟩ ih
theorem KV.length {kvs : List (κ × V)} {vs : List (κ × Value)} (r : KV kvs vs) : kvs.length = vs.length:=Paired.length r
end
theorem kV_is {P : Program} {w : World} {k : Key} {u : Value} (r : RelV (kV k) u) : (mixKind P w).is k u = true:=by
 cases k with
 | inl i => obtain ⟨t, e⟩:=(show ∃ t, u = Value.int i t from r); subst e; exact mixKind_int P w i t
 | inr x => obtain ⟨t, e⟩:=(show ∃ t, u = Value.str x t from r); subst e; exact mixKind_str P w x t
theorem items_are {P : Program} {w : World} : ∀ {ks : List Key} {us : List Value}, Vals (ks.map kV) us → ItemsAre (mixKind P w) ks us
 | [], _, r => by rw [List.map_nil] at r; cases r; exact .nil
 | k :: ks, _, r => by
  rw [List.map_cons] at r
  cases r with
  | cons h t => exact .cons (kV_is h) (items_are t)
noncomputable abbrev KT (H : Hp) : List (List Key × V) → List (List Key × Addr × Value) → Prop:=Paired fun p q => p.1 = q.1 ∧ H q.2.1 = some (.tup (p.1.map kV)) ∧ RelV p.2 q.2.2
theorem KT.val {H : Hp} {kvs : List (List Key × V)} {xs : List (List Key × Addr × Value)} (r : KT H kvs xs) (k : List Key) : RelO (valV kvs k) ((atKey xs k).map (·.2)):=by
 induction r with
 | nil => exact True.intro
 | @cons p q ps qs h t ih =>
  obtain ⟨h1, _, h2⟩:=h
  by_cases e : p.1 = k
  ·have e' : q.1 = k:=h1.symm.trans e
   have b : atKey (q :: qs) k = some q.2:=by simp [atKey, List.find?_cons, e']
   rw [valV_pos e, b]; exact h2
  ·have e' : ¬ q.1 = k:=fun z => e (h1.trans z)
   have b : atKey (q :: qs) k = atKey qs k:=by simp [atKey, List.find?_cons, e']
   rw [valV_neg e, b]; exact ih
theorem KT.repl {H : Hp} {kvs : List (List Key × V)} {xs : List (List Key × Addr × Value)} (r : KT H kvs xs) (k : List Key) {y : V} {u : Value} (ry : RelV y u) :
  KT H (kvs.map fun kv => if kv.1 = k then (kv.1, y) else kv) (xs.map (putAt k u)):=by
 induction r with
 | nil => exact .nil
 | @cons p q ps qs h t ih =>
  rw [List.map_cons, List.map_cons]
  refine .cons ?_ ih
  obtain ⟨h1, h2, h3⟩:=h
  unfold putAt
  by_cases e : p.1 = k
  ·rw [if_pos e, if_pos (h1.symm.trans e)]; exact ⟨h1, h2, ry⟩
  ·rw [if_neg e, if_neg (fun z => e (h1.trans z))]; exact ⟨h1, h2, h3⟩
theorem KT.put {H : Hp} {kvs : List (List Key × V)} {xs : List (List Key × Addr × Value)} (r : KT H kvs xs) (k : List Key) {b : Addr} {y : V} {u : Value} (hb : H b = some (.tup (k.map kV))) (ry : RelV y u) :
  KT H (putK kvs k y) (storedH xs k b u):=by
 have e : (kvs.any fun kv => decide (kv.1 = k)) = (atKey xs k).isSome:=by
  rw [valV_any, (r.val k).isSome_eq, Option.isSome_map]
 unfold putK storedH
 rw [e]
 by_cases q : (atKey xs k).isSome = true
 ·rw [if_pos q, if_pos q]; exact r.repl k ry
 ·rw [if_neg q, if_neg q]; exact Paired.snoc r ⟨rfl, hb, ry⟩
theorem KT.keeps {H H' : Hp} {kvs : List (List Key × V)} {xs : List (List Key × Addr × Value)} (r : KT H kvs xs) (ht : ∀ b ys, H b = some (.tup ys) → H' b = some (.tup ys)) : KT H' kvs xs :=
 Paired.mapP r fun _ _ z => ⟨z.1, ht _ _ z.2.1, z.2.2⟩
section
variable {P : Program} {w : World} {H : Hp} {h : Heap} {a : Addr}
theorem rd_of {u : HO} (ok : HOk P w H h) (e : Rd H a u) : ObjOk P w H h a u:=e.ok ok
theorem dk_rd {kvs : List (Key × V)} (ok : HOk P w H h) (e : Rd H a (.dK kvs)) : kvs.length ≤ sizeLine ∧ (a == sysModules) = false ∧ ∃ vs, KV kvs vs ∧ h.DictOf (mixKind P w) a vs :=
 show ObjOk P w H h a (.dK kvs) from rd_of ok e
theorem dk_of {kvs : List (Key × V)} (ok : HOk P w H h) (e : H a = some (.dK kvs)) : kvs.length ≤ sizeLine ∧ (a == sysModules) = false ∧ ∃ vs, KV kvs vs ∧ h.DictOf (mixKind P w) a vs:=dk_rd ok (.inl e)
theorem key_of {ks : List Key} (ok : HOk P w H h) (e : H a = some (.tup (ks.map kV))) : (tupleKind (mixKind P w)).is h ks a:=by
 obtain ⟨_, its, r, o, h1, h2, n, h3⟩:=(show ObjOk P w H h a (.tup (ks.map kV)) from ok a _ e)
 exact ⟨o, its.toArray, n, h1, h2, h3, by simpa using items_are r⟩
theorem dt_rd {kvs : List (List Key × V)} (ok : HOk P w H h) (e : Rd H a (.dT kvs)) : kvs.length ≤ sizeLine ∧ (a == sysModules) = false ∧
  ∃ xs, KT H kvs xs ∧ h.DictOfH (tupleKind (mixKind P w)) a xs:=by
 obtain ⟨z, y, xs, r, o, es, ep, h1, h2, h3, h4, h5⟩:=(show ObjOk P w H h a (.dT kvs) from rd_of ok e)
 refine ⟨z, y, xs, r, o, es, ep, h1, h2, h3, h4, fun x hx => ?_, h5⟩
 have all : ∀ {l : List (List Key × V)} {m : List (List Key × Addr × Value)}, KT H l m → ∀ x ∈ m, (tupleKind (mixKind P w)).is h x.1 x.2.1:=by
  intro l m q
  induction q with
  | nil => intro x hx; exact nomatch hx
  | @cons p q ps qs hq t ih =>
   intro x hx
   rcases List.mem_cons.mp hx with e | hx
   ·subst e
    exact key_of ok (by rw [← hq.1]; exact hq.2.1)
   ·exact ih x hx
 exact all r x hx
theorem dt_of {kvs : List (List Key × V)} (ok : HOk P w H h) (e : H a = some (.dT kvs)) : kvs.length ≤ sizeLine ∧ (a == sysModules) = false ∧
  ∃ xs, KT H kvs xs ∧ h.DictOfH (tupleKind (mixKind P w)) a xs:=dt_rd ok (.inl e)
end
noncomputable def DGet (H : Hp) (a : Addr) (y : V) (r : Option V) : Prop :=
 (∃ kvs k, Rd H a (.dK kvs) ∧ y = kV k ∧ r = valV kvs k) ∨ ∃ kvs k b, Rd H a (.dT kvs) ∧ y = .ref b ∧ H b = some (.tup (k.map kV)) ∧ r = valV kvs k
noncomputable def DPut (H : Hp) (a : Addr) (y v : V) (H' : Hp) : Prop :=
 (∃ kvs k, H a = some (.dK kvs) ∧ y = kV k ∧ kvs.length < sizeLine ∧ H' = upd H a (.dK (putK kvs k v))) ∨
 ∃ kvs k b, H a = some (.dT kvs) ∧ y = .ref b ∧ H b = some (.tup (k.map kV)) ∧ kvs.length < sizeLine ∧ H' = upd H a (.dT (putK kvs k v))
theorem DGet.k {H : Hp} {a : Addr} {kvs : List (Key × V)} {k : Key} (e : H a = some (.dK kvs)) : DGet H a (kV k) (valV kvs k):=.inl ⟨kvs, k, .inl e, rfl, rfl⟩
theorem DGet.t {H : Hp} {a b : Addr} {kvs : List (List Key × V)} {k : List Key} (e : H a = some (.dT kvs)) (eb : H b = some (.tup (k.map kV))) : DGet H a (.ref b) (valV kvs k):=.inr ⟨kvs, k, b, .inl e, rfl, eb, rfl⟩
theorem DPut.k {H : Hp} {a : Addr} {kvs : List (Key × V)} {k : Key} {v : V} (e : H a = some (.dK kvs)) (hl : kvs.length < sizeLine) : DPut H a (kV k) v (upd H a (.dK (putK kvs k v))):=.inl ⟨kvs, k, e, rfl, hl, rfl⟩
theorem DPut.t {H : Hp} {a b : Addr} {kvs : List (List Key × V)} {k : List Key} {v : V} (e : H a = some (.dT kvs)) (eb : H b = some (.tup (k.map kV))) (hl : kvs.length < sizeLine) :
  DPut H a (.ref b) v (upd H a (.dT (putK kvs k v))):=.inr ⟨kvs, k, b, e, rfl, eb, hl, rfl⟩
section
variable {X : Cx} {pins : List (Addr × Obj)} {σ : St} {H : Hp} {s : Shared} {a : Addr} {y v : V} {u r : Value} {o : Option V} {A : Around} {E : Value → Shared → Prop}
theorem Inv.big (I : Inv X pins σ H s) : sysModules < s.heap.objs.size:=by
 have h : mainGlobals < s.heap.objs.size:=(I.mod.glob.keeps I.bk).lt
 exact Nat.lt_trans (by decide) h
theorem d_getItem {Q : Value → Shared → Prop} (hu : A.units + 1 < cLine) (I : Inv X pins σ H s) (g : DGet H a y (some v)) (ry : RelV y u) (h : ∀ w' s', Inv X pins σ H s' → RelV v w' → Q w' s') :
  wpAny (model X.prog X.w) A (getItem (.ref a) u) Q E s:=by
 rcases g with ⟨kvs, k, e, ey, l⟩ | ⟨kvs, k, b, e, ey, eb, l⟩
 ·subst ey
  obtain ⟨z, hd, vs, rel, dd⟩:=dk_rd I.hok e
  obtain ⟨w', hw, rw'⟩:=RelO.some_of (v:=v) (o:=valueAt vs k) (by rw [l]; exact rel.val k)
  exact wpAny_getItem_of (kV_is ry) dd.mapOf hw (h w' _ (I.tok _) rw')
 ·subst ey
  cases (show u = Value.ref b from ry)
  obtain ⟨z, hd, xs, rel, dd⟩:=dt_rd I.hok e
  obtain ⟨w', hw, rw'⟩:=RelO.some_of (v:=v) (o:=(atKey xs k).map (·.2)) (by rw [l]; exact rel.val k)
  obtain ⟨p, hp, hp2⟩:=Option.map_eq_some_iff.mp hw
  refine wpAny_getItem_heap (tupleKind_room_in1 hu) (key_of I.hok eb) dd hp ?_
  rw [hp2]
  exact h w' _ (I.tok _) rw'
theorem d_write {h' : Heap} {t' : Nat} {ob : HO} (I : Inv X pins σ H s) (mu : Mut (H a)) (hs : Heap.SameBut a s.heap h') (he : ∃ q, h'.get? a = some q) (new : ObjOk X.prog X.w (upd H a ob) h' a ob) :
  Inv X pins σ (upd H a ob) { s with heap:=h', toks:=t' } :=
 I.write (x:=a) (e:=a) mu (.inl rfl) (fun b q hb z => (hs.2 b hb).trans z) he new
theorem dk_new {P : Program} {w : World} {H' : Hp} {h' : Heap} {kvs : List (Key × V)} {vs : List (Key × Value)} (z : kvs.length ≤ sizeLine) (hd : (a == sysModules) = false) (rel : KV kvs vs) (dd : h'.DictOf (mixKind P w) a vs) :
  ObjOk P w H' h' a (.dK kvs):=⟨z, hd, vs, rel, dd⟩
theorem d_setItem {H' : Hp} {Q : Unit → Shared → Prop} (hu : A.units + 1 < cLine) (I : Inv X pins σ H s) (g : DPut H a y v H') (ry : RelV y u) (rv : RelV v r) (h : ∀ s', Inv X pins σ H' s' → Q () s') :
  wpAny (model X.prog X.w) A (setItem (.ref a) u r) Q E s:=by
 rcases g with ⟨kvs, k, e, ey, l, eH⟩ | ⟨kvs, k, b, e, ey, eb, l, eH⟩
 ·subst ey eH
  obtain ⟨z, hd, vs, rel, dd⟩:=dk_of I.hok e
  have hz : vs.length ≤ sizeLine:=by rw [← rel.length]; exact z
  have hl : (putK kvs k v).length ≤ sizeLine:=by have:=length_putK kvs k v; omega
  refine wpAny_setItem_pairs (hsz:=hz) (kV_is ry) dd fun h' dd' hs => h _ ?_
  have he : ∃ q, h'.get? a = some q:=let ⟨q, _, _, hq, _⟩:=dd'; ⟨q, hq⟩
  exact d_write I (by rw [e]; exact True.intro) hs he (dk_new hl hd (rel.put k rv) dd')
 ·subst ey eH
  cases (show u = Value.ref b from ry)
  obtain ⟨z, hd, xs, rel, dd⟩:=dt_of I.hok e
  have hz : xs.length ≤ sizeLine:=by rw [← Paired.length rel]; exact z
  have hl : (putK kvs k v).length ≤ sizeLine:=by have:=length_putK kvs k v; omega
  refine wpAny_setItem_heap (hsz:=hz) (tupleKind_room_in1 hu) (key_of I.hok eb) dd fun h' dd' hs => h _ ?_
  obtain ⟨q, es, ep, hq, h2, h3, h4, _, h5⟩:=dd'
  refine d_write I (by rw [e]; exact True.intro) hs ⟨q, hq⟩ ⟨hl, hd, _, (rel.put k eb rv).keeps fun c ys ec => ?_, q, es, ep, hq, h2, h3, h4, h5⟩
  rw [upd_ne (ne_of ec e (fun z => nomatch z))]
  exact ec
end
section
variable {X : Cx} {pins : List (Addr × Obj)} {σ : St} {H : Hp} {s : Shared} {a : Addr} {kvs : List (Key × V)} {k : Key} {u : Value} {A : Around} {E : Value → Shared → Prop}
theorem d_len {Q : Value → Shared → Prop} (I : Inv X pins σ H s) (e : Rd H a (.dK kvs)) (h : ∀ t s', Inv X pins σ H s' → Q (.int kvs.length t) s') : wpAny (model X.prog X.w) A (call (.builtin "len") [.ref a]) Q E s := by
 obtain ⟨z, hd, vs, rel, dd⟩:=dk_rd I.hok e
 refine call_len_dict hd dd (by rw [← rel.length]; rw [sizeLine_eq] at z; omega) ?_
 rw [← rel.length]
 exact h _ _ (I.tok _)
end
noncomputable def NoSl (i : Expr) : Prop:=∀ ov iv, subscripted i false ov iv = operate [ov, iv] (getItem ov iv)
theorem subD_of {prog : Program} {w : World} {A : Around} {E : Value → Shared → Prop} {s : Shared} {env : Env} {value slice : Expr} {pos : Pos} {T id : String} {Q : Value → Shared → Prop}
  (hl : typeLookup (.type T) "__getitem__" = pure (some (.builtin id))) (hs : NoSl slice)
  (h : wpAny (model prog w) A (eval value env) (fun o s₁ => wpAny (model prog w) A (eval slice env) (fun i s₂ => s₂.TypeIs o T ∧ wpAny (model prog w) A (getItem o i) Q E s₂) E s₁) E s) :
  wpAny (model prog w) A (eval (.Subscript value slice pos) env) Q E s:=by
 refine Subscript_ (wpAny_mono h (fun o s₁ h₁ => wpAny_mono h₁ (fun i s₂ h₂ => ?_) fun _ _ x => x) fun _ _ x => x)
 obtain ⟨hT, h₂⟩:=h₂
 unfold subscriptTail
 refine wpAny_bind ?_
 rw [getitemInPython_of_ne hT.not_modules]
 refine wpAny_bind (wpAny_specialOf hT hl ?_)
 have fin : wpAny (model prog w) A (subscripted slice false o i) (fun r s₃ => wpAny (model prog w) A (letTemporaryGo value o r >>= fun _ => pure r) Q E s₃) E s₂:=by
  rw [hs o i]
  exact wpAny_operating (wpAny_mono h₂ (fun r s₃ h₃ => wpAny_bind (wpAny_letTemporaryGo (wpAny_pure h₃))) fun _ _ x => x)
 first
  | exact wpAny_pure (wpAny_bind fin)
  | exact wpAny_bind (wpAny_pure (wpAny_bind fin))
  | exact wpAny_bind fin
theorem dict_typeIs {X : Cx} {pins : List (Addr × Obj)} {σ : St} {H : Hp} {s : Shared} {a : Addr} {y : V} {o : Option V} (I : Inv X pins σ H s) (g : DGet H a y o) : s.TypeIs (.ref a) "dict" := by
 rcases g with ⟨kvs, k, e, _, _⟩ | ⟨kvs, k, b, e, _, _, _⟩
 ·obtain ⟨_, _, vs, _, dd⟩:=dk_rd I.hok e
  exact dd.typeIs
 ·obtain ⟨_, _, xs, _, dd⟩:=dt_rd I.hok e
  exact dd.typeIs
noncomputable def tDGet (td ty : TE) : TE:=fun σ H Q => td σ H fun x H1 => ty σ H1 fun y H2 => ∃ a v, x = .ref a ∧ DGet H2 a y (some v) ∧ Q v H2
noncomputable def sDPut (td ty tv : TE) : TS:=fun D σ H => tv σ H fun v H1 => td σ H1 fun x H2 => ty σ H2 fun y H3 => ∃ a H4, x = .ref a ∧ DPut H3 a y v H4 ∧ D.nx σ H4
section
variable {X : Cx} {o i e value : Expr} {pos pos' tpos : Pos} {td ty tv : TE}
theorem pe_dget (hu : X.A.units + 1 < cLine) (ho : PE X o td) (hi : PE X i ty) (hs : NoSl i) : PE X (.Subscript o i pos) (tDGet td ty):=by
 intro pins s σ H Q I h
 refine subD_of PySem.F.slot_dict_getitem.lookup hs (thn (ho pins s σ H _ I h) fun u s1 ⟨x, H1, I1, rx, q1⟩ => thn (hi pins s1 σ H1 _ I1 q1) fun iv s2 ⟨y, H2, I2, ry, a, v, ex, g, q2⟩ => ?_)
 subst ex
 obtain rfl : u = Value.ref a:=rx
 exact ⟨dict_typeIs I2 g, d_getItem hu I2 g ry fun w' s3 I3 rw' => ⟨v, H2, I3, rw', q2⟩⟩
theorem ps_dput (hu : X.A.units + 1 < cLine) (ho : PE X o td) (hi : PE X i ty) (hv : PE X value tv) (hs : swapsWith value (some (.Subscript o i pos')) pos.line X.env = pure false) :
  PS X (.Assign [.Subscript o i pos'] value pos) (sDPut td ty tv):=by
 intro pins s σ H D I h
 refine wpAny_Assign_Subscript (thn (hv pins s σ H _ I h) fun r s1 ⟨v, H1, I1, rv, q1⟩ => thn (ho pins s1 σ H1 _ I1 q1) fun u s2 ⟨x, H2, I2, rx, q2⟩ => thn (hi pins s2 σ H2 _ I2 q2) fun iv s3 ⟨y, H3, I3, ry, a, H4, ex, g, q3⟩ => ?_) hs
 subst ex
 obtain rfl : u = Value.ref a:=rx
 exact d_setItem hu I3 g ry rv fun s4 I4 => ⟨σ, H4, I4, q3⟩
end
theorem dt_empty {P : Program} {w : World} {H : Hp} (h : Heap) (hb : sysModules < h.objs.size) : ObjOk P w H (h.push { cls := .type "dict", data := .dict #[] }) h.objs.size (.dT []) :=
 ⟨Nat.zero_le _, beq_eq_false_iff_ne.mpr (Ne.symm (Nat.ne_of_lt hb)), [], .nil, _, #[], 0, Heap.get?_push_size _ rfl, ⟨rfl, rfl, rfl⟩, rfl, rfl, List.nodup_nil⟩
noncomputable def tDNewT : TE:=fun _ H Q => ∀ p, H p = none → Q (.ref p) (upd H p (.dT []))
section
variable {X : Cx} {pos : Pos}
theorem pe_dnewT : PE X (.Dict [] [] pos) tDNewT:=fun pins s σ H Q I h =>
 wpAny_Dict_empty ⟨.ref s.heap.objs.size, _, I.laid (a:=s.heap.objs.size) (o:=.dT []) (t':=s.toks) (fun _ _ q => Heap.get?_push_of_some _ q) (Nat.le_refl _) (dt_empty s.heap I.big), rfl, h _ (I.hok.fresh (Nat.le_refl _))⟩
end
structure M2 (X : Cx) (o : Expr) (m : Str) (apos : Pos) (e f : Expr) (cpos : Pos) : Prop where
 base : attributeBase o m X.env (eval o X.env) = eval o X.env
 few : ((backTo cpos (starEach [e, f] X.env)).all (fun x => !x.1) && (backToKw cpos (keywordEach [] X.env)).all (fun x => x.1.isSome)
  && decide (([e, f] : List Expr).length + ([] : List Keyword).length + (if ([] : List Keyword).isEmpty then 0 else 1) < 30)) = true
 line : (apos.endLine == cpos.line) = true
 trees : backTo cpos (starEach [e, f] X.env) = [(false, eval e X.env), (false, eval f X.env)]
noncomputable def IsD (H : Hp) (a : Addr) : Prop:=(∃ kvs, Rd H a (.dK kvs)) ∨ ∃ kvs, Rd H a (.dT kvs)
theorem isD_at {X : Cx} {pins : List (Addr × Obj)} {σ : St} {H : Hp} {s : Shared} {a : Addr} (I : Inv X pins σ H s) (d : IsD H a) :
  s.TypeIs (.ref a) "dict" ∧ (∀ b, Value.ref a = .ref b → ∃ ob, s.heap.get? b = some ob ∧ ob.dict = none) ∧ (a == sysModules) = false := by
 rcases d with ⟨kvs, e⟩ | ⟨kvs, e⟩
 ·obtain ⟨_, hd, vs, _, dd⟩:=dk_rd I.hok e
  refine ⟨dd.typeIs, fun b q => ?_, hd⟩
  cases q
  obtain ⟨ob, _, _, h1, h2, _⟩:=dd
  exact ⟨ob, h1, h2.2.1⟩
 ·obtain ⟨_, hd, xs, _, dd⟩:=dt_rd I.hok e
  refine ⟨dd.typeIs, fun b q => ?_, hd⟩
  cases q
  obtain ⟨ob, _, _, h1, h2, _⟩:=dd
  exact ⟨ob, h1, h2.2.1⟩
section
variable {X : Cx} {pins : List (Addr × Obj)} {σ : St} {H : Hp} {s : Shared} {a : Addr} {y d : V} {u r : Value} {o : Option V} {A : Around} {E : Value → Shared → Prop}
theorem d_get2 {Q : Value → Shared → Prop} (hu : A.units + 1 < cLine) (I : Inv X pins σ H s) (g : DGet H a y o) (ry : RelV y u) (rd : RelV d r) (h : ∀ w' s', Inv X pins σ H s' → RelV (o.getD d) w' → Q w' s') :
  wpAny (model X.prog X.w) A (call (.builtin "dict.get") [.ref a, u, r]) Q E s := by
 rcases g with ⟨kvs, k, e, ey, l⟩ | ⟨kvs, k, b, e, ey, eb, l⟩
 ·subst ey
  obtain ⟨z, hd, vs, rel, dd⟩:=dk_rd I.hok e
  refine call_meetsIn PySem.F.slot_dict_get dd.typeIs PySem.F.entry_dict_get (PySem.F.args_dict_get_3 _ _ _) (meets_dict_get_default (mixKind X.prog X.w) a (kV_is ry) hd r) ⟨_, dd.mapOf, h _ _ (I.tok _) ?_⟩
  rw [l]
  exact (rel.val k).getD rd
 ·subst ey
  cases (show u = Value.ref b from ry)
  obtain ⟨z, hd, xs, rel, dd⟩:=dt_rd I.hok e
  refine call_meetsIn PySem.F.slot_dict_get dd.typeIs PySem.F.entry_dict_get (PySem.F.args_dict_get_3 _ _ _) (meetsH_dict_get_default (tupleKind (mixKind X.prog X.w)) a b hd r) ⟨tupleKind_room_in1 hu, k, xs, key_of I.hok eb, dd, h _ _ (I.tok _) ?_⟩
  rw [l]
  exact (rel.val k).getD rd
end
noncomputable def tDGet2 (td ty tx : TE) : TE:=fun σ H Q => td σ H fun x H1 => ∃ a, x = .ref a ∧ IsD H1 a ∧ ty σ H1 fun y H2 => tx σ H2 fun z H3 => ∃ o, DGet H3 a y o ∧ Q (o.getD z) H3
section
variable {X : Cx} {o e f : Expr} {apos cpos : Pos} {td ty tx : TE}
theorem pe_dget2 (hu : X.A.units + 1 < cLine) (ho : PE X o td) (he : PE X e ty) (hf : PE X f tx) (m : M2 X o "get" apos e f cpos) : PE X (.Call (.Attribute o "get" apos) [e, f] [] cpos) (tDGet2 td ty tx) := by
 intro pins s σ H Q I h
 refine wpAny_Call_method m.base m.few m.line PySem.F.plainAttrs_dict PySem.F.slot_dict_get PySem.F.type_dict_get (thn (ho pins s σ H _ I h) fun u s1 ⟨x, H1, I1, rx, a, ex, d, q1⟩ => ?_)
 subst ex
 obtain rfl : u = Value.ref a:=rx
 obtain ⟨t1, t2, _⟩:=isD_at I1 d
 refine ⟨t1, t2, ?_⟩
 rw [m.trees]
 refine Calls.callWith_builtin rfl (Calls.evalArgs_plain (Calls.spliced_cons (thn (he pins s1 σ H1 _ I1 q1) fun iv s2 ⟨y, H2, I2, ry, q2⟩ =>
  Calls.spliced_cons (thn (hf pins s2 σ H2 _ I2 q2) fun fv s3 ⟨z, H3, I3, rz, ov, g, q3⟩ => Calls.spliced_nil ?_))))
 exact d_get2 hu I3 g ry rz fun w' s4 I4 rw' => ⟨_, H3, I4, rw', q3⟩
end
section
variable {X : Cx} {pins : List (Addr × Obj)} {σ : St} {H : Hp} {s : Shared} {a : Addr} {kvs : List (Key × V)} {A : Around} {E : Value → Shared → Prop}
end
section
variable {X : Cx} {pins : List (Addr × Obj)} {σ : St} {H : Hp} {s : Shared} {a : Addr} {y : V} {u : Value} {A : Around} {E : Value → Shared → Prop}
end
end L2
namespace Att
open PySem PySem.W PySem.Calls PyProof.Rows
section
variable {prog : Program} {w : World} {A : Around} {E : Value → Shared → Prop} {s : Shared} {K : Frag}
end
end Att
namespace L2
open PySem PySem.Spec PyProof.Rows
end L2
namespace L2
open PySem PySem.Spec PyProof.Rows
end L2
namespace L2
open PySem PySem.Spec PyProof.Rows
section
variable {P : Program} {w : World} {K : PySem.W.Frag} {mg : Str → Option Value} {base : Heap}
end
section
variable {X : Cx}
theorem call_lenD : CallR X (.builtin "len") (fun xs H Q => ∃ a kvs, xs = [V.ref a] ∧ H a = some (.dK kvs) ∧ Q (.int kvs.length) H) := by
 intro pins s σ H xs us Q I r h
 obtain ⟨a, kvs, rfl, ha, q⟩:=h
 obtain ⟨u, rfl, ru⟩:=vals1 r
 cases ru
 exact d_len I (.inl ha) fun t s' I' => ⟨.int kvs.length, H, I', ⟨t, rfl⟩, q⟩
end
section
variable {κ : Type} [DecidableEq κ]
end
end L2
end
section
namespace DL
open PySem PySem.Spec PyProof.Rows L2
section
variable {κ : Type} [DecidableEq κ] (f : D → Option κ)
noncomputable def valD : List (D × D) → D → Option D
 | [], _ => none
 | p :: r, k => if f p.1 = f k then some p.2 else valD r k
noncomputable def hasD (ds : List (D × D)) (k : D) : Bool:=ds.any fun p => decide (f p.1 = f k)
noncomputable def putD (ds : List (D × D)) (k v : D) : List (D × D) :=
 if hasD f ds k = true then ds.map (fun p => if f p.1 = f k then (p.1, v) else p) else ds ++ [(k, v)]
end
noncomputable def RelO' (K : PySem.W.Frag) (O : List Addr) (H : Hp) : Option D → Option V → Prop
 | none, none => True
 | some d, some v => Rep K O H d v
 | _, _ => False
section
variable {κ : Type} [DecidableEq κ] {f : D → Option κ} {K : PySem.W.Frag} {O : List Addr} {H : Hp}
theorem valD_has (k : D) : ∀ ds : List (D × D), hasD f ds k = (valD f ds k).isSome
 | [] => rfl
 | p :: r => by
  unfold hasD
  rw [List.any_cons]
  by_cases e : f p.1 = f k
  ·simp [valD, e]
  ·rw [decide_eq_false e, Bool.false_or]
   have:=valD_has k r
   unfold hasD at this
   rw [this, valD, if_neg e]
theorem kvs_val {k : D} {q : κ} (hk : f k = some q) : ∀ {ds : List (D × D)} {vs : List (κ × V)}, Kvs K f O H ds vs → RelO' K O H (valD f ds k) (valV vs q)
 | [], vs, h => by
  cases (show vs = [] from h)
  exact trivial
 | (a, d) :: ds, vs, h => by
  obtain ⟨qa, v, r, rfl, ha, hr, ht⟩:=(show ∃ q v r, vs = (q, v) :: r ∧ f a = some q ∧ Rep K O H d v ∧ Kvs K f O H ds r from h)
  by_cases e : qa = q
  ·have e' : f (a, d).1 = f k:=by rw [hk]; show f a = _; rw [ha, e]
   rw [valD, if_pos e', valV_pos (p:=(qa, v)) e]
   exact hr
  ·have e' : ¬ f (a, d).1 = f k:=by
    rw [hk]; show ¬ f a = _; rw [ha]; intro z; exact e (Option.some.inj z)
   rw [valD, if_neg e', valV_neg (p:=(qa, v)) e]
   exact kvs_val hk ht
theorem RelO'.isSome {a : Option D} {b : Option V} (h : RelO' K O H a b) : b.isSome = a.isSome:=by
 cases a <;> cases b <;> first | rfl | exact h.elim
theorem kvs_len : ∀ {ds : List (D × D)} {vs : List (κ × V)}, Kvs K f O H ds vs → vs.length = ds.length
 | [], vs, h => by
  cases (show vs = [] from h)
  rfl
 | (a, d) :: ds, vs, h => by
  obtain ⟨qa, v, r, rfl, ha, hr, ht⟩:=(show ∃ q v r, vs = (q, v) :: r ∧ f a = some q ∧ Rep K O H d v ∧ Kvs K f O H ds r from h)
  simp [kvs_len ht]
theorem kvs_snoc {k d : D} {q : κ} {v : V} (hk : f k = some q) (hr : Rep K O H d v) : ∀ {ds : List (D × D)} {vs : List (κ × V)}, Kvs K f O H ds vs → Kvs K f O H (ds ++ [(k, d)]) (vs ++ [(q, v)])
 | [], vs, h => by
  cases (show vs = [] from h)
  exact ⟨q, v, [], rfl, hk, hr, rfl⟩
 | (a, d) :: ds, vs, h => by
  obtain ⟨qa, w, r, rfl, ha, hw, ht⟩:=(show ∃ q v r, vs = (q, v) :: r ∧ f a = some q ∧ Rep K O H d v ∧ Kvs K f O H ds r from h)
  exact ⟨qa, w, r ++ [(q, v)], rfl, ha, hw, kvs_snoc hk hr ht⟩
theorem kvs_map {k d : D} {q : κ} {v : V} (hk : f k = some q) (hr : Rep K O H d v) : ∀ {ds : List (D × D)} {vs : List (κ × V)}, Kvs K f O H ds vs →
  Kvs K f O H (ds.map fun p => if f p.1 = f k then (p.1, d) else p) (vs.map fun kv => if kv.1 = q then (kv.1, v) else kv)
 | [], vs, h => by
  cases (show vs = [] from h)
  exact rfl
 | (a, e) :: ds, vs, h => by
  obtain ⟨qa, w, r, rfl, ha, hw, ht⟩:=(show ∃ q v r, vs = (q, v) :: r ∧ f a = some q ∧ Rep K O H e v ∧ Kvs K f O H ds r from h)
  have ih:=kvs_map hk hr ht
  rw [List.map_cons, List.map_cons]
  by_cases z : qa = q
  ·have z' : f (a, e).1 = f k:=by rw [hk]; show f a = _; rw [ha, z]
   rw [if_pos z', if_pos (show (qa, w).1 = q from z)]
   exact ⟨qa, v, _, rfl, ha, hr, ih⟩
  ·have z' : ¬ f (a, e).1 = f k:=by
    rw [hk]; show ¬ f a = _; rw [ha]; intro y; exact z (Option.some.inj y)
   rw [if_neg z', if_neg (show ¬ (qa, w).1 = q from z)]
   exact ⟨qa, w, _, rfl, ha, hw, ih⟩
theorem kvs_put {k d : D} {q : κ} {v : V} (hk : f k = some q) (hr : Rep K O H d v) {ds : List (D × D)} {vs : List (κ × V)} (h : Kvs K f O H ds vs) : Kvs K f O H (putD f ds k d) (putK vs q v):=by
 unfold putD putK
 rw [valD_has, valV_any, (kvs_val hk h).isSome]
 split
 ·exact kvs_map hk hr h
 ·exact kvs_snoc hk hr h
end
theorem key_rep {K : PySem.W.Frag} {O : List Addr} {H : Hp} {d : D} {q : Key} {v : V} (h : keyD d = some q) (r : Rep K O H d v) : v = kV q:=by
 cases d with
 | int i =>
  cases (show some (Sum.inl i) = some q from h)
  exact Rep.int_i.mp r
 | str x =>
  cases (show some (Sum.inr x) = some q from h)
  exact Rep.str_i.mp r
 | _ => cases h
theorem keys_rep {K : PySem.W.Frag} {O : List Addr} {H : Hp} : ∀ {ds : List D} {qs : List Key} {vs : List V}, keyDs ds = some qs → Reps K O H ds vs → vs = qs.map kV
 | [], qs, vs, h, r => by
  cases (show some [] = some qs from h)
  exact (by unfold Reps at r; exact r)
 | d :: ds, qs, vs, h, r => by
  unfold keyDs at h
  unfold Reps at r
  obtain ⟨v, w, rfl, hv, hw⟩:=r
  split at h
  ·rename_i k ks h1 h2
   cases h
   rw [key_rep h1 hv, keys_rep h2 hw]
   rfl
  ·cases h
theorem keyT_rep {K : PySem.W.Frag} {O : List Addr} {H : Hp} {d : D} {q : List Key} {v : V} (h : keyT d = some q) (r : Rep K O H d v) : ∃ b, v = .ref b ∧ H b = some (.tup (q.map kV)):=by
 cases d with
 | tup ds =>
  rw [Rep.tup_i] at r
  obtain ⟨a, vs, rfl, e, rs⟩:=r
  have h' : keyDs ds = some q:=h
  rw [keys_rep h' rs] at e
  exact ⟨a, rfl, e⟩
 | _ => cases h
noncomputable def dAt (st : Sto) (d k : D) : Option (Option D):=match d with
 | .res i => match st[i]? with
  | some (.dct ds) => if (keyD k).isSome = true then some (valD keyD ds k) else none
  | some (.fdc ds) => if (keyD k).isSome = true then some (valD keyD ds k) else none
  | some (.dtt ds) => if (keyT k).isSome = true then some (valD keyT ds k) else none
  | _ => none
 | _ => none
theorem dAt_ok {K : PySem.W.Frag} {O : List Addr} {H : Hp} {st : Sto} {d k : D} {o : Option D} {x y : V} (W : WR K O H st) (h : dAt st d k = some o) (rx : Rep K O H d x) (ry : Rep K O H k y) :
  ∃ a ov, x = .ref a ∧ DGet H a y ov ∧ RelO' K O H o ov:=by
 cases d with
 | res i =>
  rw [Rep.res_i] at rx
  obtain ⟨a, rfl, q⟩:=rx
  unfold dAt at h
  dsimp only at h
  cases e : st[i]? with
  | none => rw [e] at h; cases h
  | some s =>
   rw [e] at h
   cases s with
   | lst xs => cases h
   | ins C fs => cases h
   | dct ds =>
    obtain ⟨vs, e2, kv⟩:=W.at_ _ _ _ q e
    dsimp only at h
    cases hk : keyD k with
    | none => rw [hk] at h; cases h
    | some c =>
     rw [hk] at h
     cases h
     cases key_rep hk ry
     exact ⟨a, _, rfl, DGet.k e2, kvs_val hk kv⟩
   | fdc ds =>
    obtain ⟨ob, vs, e2, kv⟩:=W.at_ _ _ _ q e
    dsimp only at h
    cases hk : keyD k with
    | none => rw [hk] at h; cases h
    | some c =>
     rw [hk] at h
     cases h
     cases key_rep hk ry
     exact ⟨a, _, rfl, (.inl ⟨_, _, .inr ⟨_, e2⟩, rfl, rfl⟩), kvs_val hk kv⟩
   | dtt ds =>
    obtain ⟨vs, e2, kv⟩:=W.at_ _ _ _ q e
    dsimp only at h
    cases hk : keyT k with
    | none => rw [hk] at h; cases h
    | some c =>
     rw [hk] at h
     cases h
     obtain ⟨b, rfl, hb⟩:=keyT_rep hk ry
     exact ⟨a, _, rfl, DGet.t e2 hb, kvs_val hk kv⟩
 | _ => cases h
noncomputable def dPutAt (st : Sto) (d k v : D) : Option Sto:=match d with
 | .res i => match st[i]? with
  | some (.dct ds) => if (keyD k).isSome = true ∧ ds.length < small then some (st.set i (.dct (putD keyD ds k v))) else none
  | some (.dtt ds) => if (keyT k).isSome = true ∧ ds.length < small then some (st.set i (.dtt (putD keyT ds k v))) else none
  | _ => none
 | _ => none
theorem dPut_ok {K : PySem.W.Frag} {O : List Addr} {H : Hp} {st st' : Sto} {d k z : D} {x y w : V} (W : WR K O H st) (h : dPutAt st d k z = some st') (rx : Rep K O H d x) (ry : Rep K O H k y) (rw' : Rep K O H z w) :
  ∃ a H', x = .ref a ∧ DPut H a y w H' ∧ Keep K O H O H' ∧ WR K O H' st':=by
 cases d with
 | res i =>
  rw [Rep.res_i] at rx
  obtain ⟨a, rfl, q⟩:=rx
  unfold dPutAt at h
  dsimp only at h
  cases e : st[i]? with
  | none => rw [e] at h; cases h
  | some s =>
   rw [e] at h
   cases s with
   | lst xs => cases h
   | ins C fs => cases h
   | fdc ds => cases h
   | dct ds =>
    obtain ⟨vs, e2, kv⟩:=W.at_ _ _ _ q e
    dsimp only at h
    split at h
    ·rename_i hc
     cases hk : keyD k with
     | none => rw [hk] at hc; cases hc.1
     | some c =>
      cases h
      cases key_rep hk ry
      refine ⟨a, _, rfl, DPut.k e2 (by rw [kvs_len kv]; exact Nat.lt_of_lt_of_le hc.2 small_le), Keep.write W q, W.write q ?_⟩
      exact ⟨_, upd_same, Kvs.mono (Keep.write W q) _ _ (kvs_put hk rw' kv)⟩
    ·cases h
   | dtt ds =>
    obtain ⟨vs, e2, kv⟩:=W.at_ _ _ _ q e
    dsimp only at h
    split at h
    ·rename_i hc
     cases hk : keyT k with
     | none => rw [hk] at hc; cases hc.1
     | some c =>
      cases h
      obtain ⟨b, rfl, hb⟩:=keyT_rep hk ry
      refine ⟨a, _, rfl, DPut.t e2 hb (by rw [kvs_len kv]; exact Nat.lt_of_lt_of_le hc.2 small_le), Keep.write W q, W.write q ?_⟩
      exact ⟨_, upd_same, Kvs.mono (Keep.write W q) _ _ (kvs_put hk rw' kv)⟩
    ·cases h
 | _ => cases h
noncomputable def getDd (fo fi : DE) : DE:=fun ρ st => (fo ρ st).bind fun d st1 => (fi ρ st1).bind fun k st2 => match dAt st2 d k with
 | some (some v) => .ok v st2
 | _ => .bad
noncomputable def dNewT : DE:=fun _ st => .ok (.res st.length) (st ++ [.dtt []])
noncomputable def sPutD (fo fi fv : DE) : DS:=fun ρ st => (fv ρ st).to fun v st1 => (fo ρ st1).to fun d st2 => (fi ρ st2).to fun k st3 => match dPutAt st3 d k v with
 | some st4 => .nx ρ st4
 | _ => .bad
section
variable {X : Cx} {EX : EXT} {a b c e o i : Expr} {fa fb fc fo fi fv : DE} {pos p p2 apos cpos : Pos}
theorem pd_dget (hu : X.A.units + 64 < cLine) (ho : PD X EX o fo) (hi : PD X EX i fi) (hs : NoSl i:=by intro _ _; rfl) : PD X EX (.Subscript o i pos) (getDd fo fi):=by
 refine PE.mono (pe_dget (by omega) ho hi hs) ?_
 rintro σ H Q ⟨O, ρ, st, W, E, R⟩
 refine ⟨O, ρ, st, W, E, R.bind.mono fun d st1 O1 H1 k1 W1 R1 x rx => ?_⟩
 refine ⟨O1, ρ, st1, W1, E.mono k1, R1.bind.mono fun k st2 O2 H2 k2 W2 R2 y ry => ?_⟩
 split at R2
 ·rename_i v hv
  obtain ⟨a, ov, rfl, g, rel⟩:=dAt_ok W2 hv (Rep.mono k2 _ _ rx) ry
  cases ov with
  | none => exact rel.elim
  | some w => exact ⟨a, w, rfl, g, Run.now (k:=Val X.K Q) R2 W2 _ rel⟩
 ·exact R2.elim
theorem pd_dnewT : PD X EX (.Dict [] [] pos) dNewT:=by
 refine PE.mono pe_dnewT ?_
 rintro σ H Q ⟨O, ρ, st, W, E, R⟩ p hp
 exact R (O ++ [p]) _ (Keep.push hp) (W.push' hp ⟨[], upd_same, rfl⟩) _ (Rep.res_i.mpr ⟨p, rfl, by rw [← W.len]; simp⟩)
theorem pd_dput (hu : X.A.units + 64 < cLine) (ho : PD X EX o fo) (hi : PD X EX i fi) (hv : PD X EX e fv) (hs : swapsWith e (some (.Subscript o i p)) pos.line X.env = pure false:=by rfl) :
  PDs X EX (.Assign [.Subscript o i p] e pos) (sPutD fo fi fv):=by
 refine PS.mono (ps_dput (by omega) ho hi hv hs) ?_
 rintro Dn σ H ⟨O, ρ, st, W, E, R⟩
 refine ⟨O, ρ, st, W, E, R.to.mono fun w st1 O1 H1 k1 W1 R1 v r => ?_⟩
 refine ⟨O1, ρ, st1, W1, E.mono k1, R1.to.mono fun d st2 O2 H2 k2 W2 R2 u r2 => ?_⟩
 refine ⟨O2, ρ, st2, W2, E.mono (k1.trans k2), R2.to.mono fun j st3 O3 H3 k3 W3 R3 z r3 => ?_⟩
 split at R3
 ·rename_i st4 h4
  obtain ⟨a, H4, rfl, g, kp, W4⟩:=dPut_ok W3 h4 (Rep.mono k3 _ _ r2) r3 (Rep.mono (k2.trans k3) _ _ r)
  exact ⟨a, H4, rfl, g, R3 O3 H4 σ kp W4 (E.mono (k1.trans (k2.trans (k3.trans kp))))⟩
 ·exact R3.elim
end
section
variable {X : Cx} {EX : EXT} {e o : Expr} {fa fo : DE} {pos : Pos} {C : Addr} {x : Str}
end
section
variable {fo fi fv : DE} {ρ : Ev} {st : Sto} {C : Addr} {x : Str}
theorem z_getDd : getDd fo fi ρ st = (fo ρ st).bind fun d st1 => (fi ρ st1).bind fun k st2 => match dAt st2 d k with
 | some (some v) => .ok v st2
 | _ => .bad:=rfl
theorem z_sPutD : sPutD fo fi fv ρ st = (fv ρ st).to fun v st1 => (fo ρ st1).to fun d st2 => (fi ρ st2).to fun k st3 => match dPutAt st3 d k v with
 | some st4 => .nx ρ st4
 | _ => .bad:=rfl
@[simp] theorem z_dNewT : dNewT ρ st = .ok (.res st.length) (st ++ [.dtt []]):=rfl
end
end DL
end
section
set_option maxHeartbeats 2000000
namespace SO
open PySem PySem.W PyProof.Rows
section
variable {prog : Program} {w : World} {A : Around} {E : Value → Shared → Prop} {s : Shared}
end
end SO
namespace DL
open PySem PySem.Spec PyProof.Rows L2 PySem.W SO
section
variable {X : Cx} {EX : EXT}
end
end DL
end
section
set_option maxHeartbeats 2000000
namespace DL
open PySem PySem.Spec PyProof.Rows L2
section
variable {K : PySem.W.Frag} {O : List Addr} {H : Hp}
noncomputable def RPs (K : PySem.W.Frag) (O : List Addr) (H : Hp) : List (D × D) → List (V × V) → Prop
 | [], vs => vs = []
 | p :: ps, vs => ∃ x y r, vs = (x, y) :: r ∧ Rep K O H p.1 x ∧ Rep K O H p.2 y ∧ RPs K O H ps r
theorem RPs.mono {O' : List Addr} {H' : Hp} (k : Keep K O H O' H') : ∀ {ps : List (D × D)} {vs : List (V × V)}, RPs K O H ps vs → RPs K O' H' ps vs
 | [], vs, h => h
 | p :: ps, vs, h => by
  obtain ⟨x, y, r, e, hx, hy, ht⟩:=(show ∃ x y r, vs = (x, y) :: r ∧ Rep K O H p.1 x ∧ Rep K O H p.2 y ∧ RPs K O H ps r from h)
  exact ⟨x, y, r, e, Rep.mono k _ _ hx, Rep.mono k _ _ hy, RPs.mono k ht⟩
end
section
variable {X : Cx} {EX : EXT} {e o i : Expr} {fo fi fe : DE} {pos apos cpos : Pos}
noncomputable def isDct (st : Sto) (d : D) : Bool:=match d with
 | .res i => match st[i]? with
  | some (.dct _) => true
  | some (.dtt _) => true
  | _ => false
 | _ => false
theorem isDct_ok {K : PySem.W.Frag} {O : List Addr} {H : Hp} {st : Sto} {d : D} {x : V} (W : WR K O H st) (h : isDct st d = true) (r : Rep K O H d x) : ∃ a, x = .ref a ∧ IsD H a:=by
 unfold isDct at h
 split at h
 ·rename_i j
  rw [Rep.res_i] at r
  obtain ⟨a, rfl, q⟩:=r
  split at h
  ·rename_i ds e
   obtain ⟨vs, e2, _⟩:=W.at_ _ _ _ q e
   exact ⟨a, rfl, .inl ⟨vs, .inl e2⟩⟩
  ·rename_i ds e
   obtain ⟨vs, e2, _⟩:=W.at_ _ _ _ q e
   exact ⟨a, rfl, .inr ⟨vs, .inl e2⟩⟩
  ·cases h
 ·cases h
noncomputable def dGet2 (fo fi fe : DE) : DE:=fun ρ st => (fo ρ st).bind fun d st1 => if isDct st1 d = true then (fi ρ st1).bind fun k st2 => (fe ρ st2).bind fun z st3 => (match dAt st3 d k with
 | some o => .ok (o.getD z) st3
 | none => .bad) else .bad
theorem pd_dget2 (hu : X.A.units + 64 < cLine) (ho : PD X EX o fo) (hi : PD X EX i fi) (he : PD X EX e fe) (m : M2 X o "get" apos i e cpos := by exact ⟨rfl, rfl, rfl, rfl⟩) : PD X EX (.Call (.Attribute o "get" apos) [i, e] [] cpos) (dGet2 fo fi fe) := by
 refine PE.mono (pe_dget2 (by omega) ho hi he m) ?_
 rintro σ H Q ⟨O, ρ, st, W, E, R⟩
 refine ⟨O, ρ, st, W, E, R.bind.mono fun d st1 O1 H1 k1 W1 R1 x rx => ?_⟩
 by_cases hd : isDct st1 d = true
 ·rw [if_pos hd] at R1
  obtain ⟨a, rfl, ia⟩:=isDct_ok W1 hd rx
  refine ⟨a, rfl, ia, O1, ρ, st1, W1, E.mono k1, R1.bind.mono fun k st2 O2 H2 k2 W2 R2 y ry => ?_⟩
  refine ⟨O2, ρ, st2, W2, E.mono (k1.trans k2), R2.bind.mono fun z st3 O3 H3 k3 W3 R3 zv rz => ?_⟩
  split at R3
  ·rename_i ov hv
   obtain ⟨a', w, e, g, rel⟩:=dAt_ok W3 hv (Rep.mono (k2.trans k3) _ _ rx) (Rep.mono k3 _ _ ry)
   cases e
   refine ⟨w, g, ?_⟩
   cases ov with
   | none =>
    cases w with
    | none => exact Run.now (k:=Val X.K Q) R3 W3 _ rz
    | some _ => exact rel.elim
   | some z =>
    cases w with
    | none => exact rel.elim
    | some w => exact Run.now (k:=Val X.K Q) R3 W3 _ rel
  ·exact R3.elim
 ·rw [if_neg hd] at R1; exact R1.elim
end
section
variable {fo fi fe : DE} {ρ : Ev} {st : Sto}
theorem z_dGet2 : dGet2 fo fi fe ρ st = (fo ρ st).bind fun d st1 => if isDct st1 d = true then (fi ρ st1).bind fun k st2 => (fe ρ st2).bind fun z st3 => (match dAt st3 d k with
 | some o => .ok (o.getD z) st3
 | none => .bad) else .bad:=rfl
end
end DL
end
section
set_option maxHeartbeats 2000000
namespace HT
open PySem PyProof.Rows
section
variable {prog : Program} {w : World} {A : Around} {E : Value → Shared → Prop} {s : Shared} {l : Addr} {vs : List Value}
end
end HT
namespace DL
open PySem PySem.Spec PyProof.Rows L2
section
variable {X : Cx} {EX : EXT}
end
end DL
namespace DL
open PySem PySem.Spec PyProof.Rows L2
section
variable {X : Cx} {EX : EXT} {pos : Pos}
end
end DL
namespace DL
open PySem PySem.Spec PyProof.Rows L2
end DL
end
section
set_option maxHeartbeats 2000000
namespace L2
open PySem PySem.Spec PyProof.Rows
section
variable {X : Cx} {tg : Expr}
end
end L2
namespace DL
open PySem PySem.Spec PyProof.Rows L2
section
variable {X : Cx} {EX : EXT} {tg a b c : Expr} {g : DA} {pos p : Pos}
end
end DL
end
section
namespace DL
open PySem PySem.Spec PyProof.Rows L2
section
variable {X : Cx} {EX : EXT} {e : Expr} {fa : DE} {pos p pT : Pos} {C : Addr}
end
end DL
end
section
namespace DL
open PySem PySem.Spec PyProof.Rows L2
section
variable {X : Cx} {pins : List (Addr × Obj)} {σ : L2.St} {H : Hp} {s : Shared} {d : Addr} {o : Obj} {vs : List (Key × V)}
theorem Inv.thaw (I : Inv X pins σ H s) (e : H d = some (.frz o (.dK vs))) (hn : ∀ ob u, X.H₀ d ≠ some (.frz ob u)) : Inv X pins σ (upd H d (.dK vs)) s:=by
 have ne : ∀ b, H b = none → b ≠ d:=fun b q z => by subst z; rw [e] at q; cases q
 refine ⟨I.ok, I.os, I.bare, ⟨I.base.keep, I.base.slot, fun b ob q n hx => ?_, I.base.there, fun b xs q => ?_, fun b ob u q => ?_, fun b ps q => ?_⟩, I.loc, I.cell, ?_, fun x c hx => ?_, fun p hp => ?_, fun b u q => ?_, I.len⟩
 ·have:=I.base.free b ob q n hx
  rw [upd_ne (ne b this)]; exact this
 ·have h:=I.base.tups b xs q
  rw [upd_ne]; exact h
  rintro rfl; rw [e] at h; cases h
 ·have h:=I.base.frzs b ob u q
  rw [upd_ne]; exact h
  rintro rfl; exact hn _ _ q
 ·obtain ⟨m, h⟩:=I.base.tbls b ps q
  refine ⟨m, ?_⟩
  rw [upd_ne]; exact h
  rintro rfl; rw [e] at h; cases h
 ·have:=I.free
  rw [upd_ne (ne _ this)]; exact this
 ·have:=I.freeC x c hx
  rw [upd_ne (ne _ this)]; exact this
 ·obtain ⟨p1, p2, p3⟩:=I.pin p hp
  exact ⟨p1, by rw [upd_ne (ne _ p2)]; exact p2, p3⟩
 ·have st : ∀ {b u}, ObjOk X.prog X.w H s.heap b u → ObjOk X.prog X.w (upd H d (.dK vs)) s.heap b u:=fun x => x.stay (fun b u _ q => q) (fun c r => by rw [upd_ne (fun z => by rw [z, e] at r; cases r)]; exact r) fun c xs r => by rw [upd_ne (fun z => by rw [z, e] at r; cases r)]; exact r
  by_cases hb : b = d
  ·subst hb
   rw [upd_same] at q
   cases q
   exact st (I.hok b _ e).2
  ·rw [upd_ne hb] at q
   exact st (I.hok b u q)
end
section
variable {X : Cx} {EX : EXT} {caps : List Nat} {nT : Nat} {tg iter : Expr} {f : DE} {t : TgD} {cond : DT} {fe : DE}
end
end DL
end
section
namespace DL
open PySem PySem.Spec PyProof.Rows L2
section
variable {M : Model} {A : Around} {E : Value → Shared → Prop} {s : Shared} {base : Heap} {env : Env} {outer : List Env} {L e : Addr} {cls a0 fl : Value}
end
section
variable {X : Cx} {EX : EXT} {pins : List (Addr × Obj)} {σ : L2.St} {H : Hp} {s : Shared}
end
section
variable {prog : Program} {w : World} {A : Around} {E : Value → Shared → Prop} {R : Result → Shared → Prop} {s : Shared}
end
section
variable {X : Cx} {pins : List (Addr × Obj)} {σ : L2.St} {H : Hp} {s : Shared} {scope : Scope} {N : List Str} {fp : List Addr}
end
section
variable {X : Cx} {EX : EXT} {scope : Scope} {N : List Str} {caps : List Nat} {nT : Nat} {elt tg iter : Expr} {ifs : List Expr} {pos : Pos} {f : DI} {t : TgD} {cond : DT} {fe : DE}
end
end DL
namespace DL
open PySem PySem.Spec PyProof.Rows L2
section
variable {X : Cx} {EX : EXT} {e o : Expr} {es : List Expr} {pos p apos : Pos} {x m : Str} {k j : Nat} {F : FD} {g : DA} {C : Addr} {fo : DE}
end
end DL
end
section
namespace DL
open PySem PySem.Spec PyProof.Rows L2
theorem reps_rev {K : PySem.W.Frag} {O : List Addr} {H : Hp} : ∀ {ds : List D} {vs : List V}, Reps K O H ds vs → Reps K O H ds.reverse vs.reverse
 | [], vs, h => by
  have e : vs = []:=by unfold Reps at h; exact h
  subst e
  exact h
 | d :: ds, vs, h => by
  unfold Reps at h
  obtain ⟨v, r, rfl, h1, h2⟩:=h
  rw [List.reverse_cons, List.reverse_cons]
  exact (reps_rev h2).append (Reps.one h1)
section
variable {X : Cx} {EX : EXT} {e k : Expr} {pos p2 : Pos} {fa fk : DE}
end
end DL
end
section
namespace DL
open PySem PySem.Spec PyProof.Rows L2
theorem lay_led (t : SetTable) (es : Array (Int × Value)) (h : Int) (x : Value) : (layNew t es h x).2.1.led = t.led ∧ ((layNew t es h x).2.1.plain = true → t.plain = true):=by
 unfold layNew
 cases t.freeSlot h with
 | none => exact ⟨rfl, fun z => by cases z⟩
 | some p =>
  obtain ⟨j, d⟩:=p
  dsimp only
  unfold SetTable.orStandIn
  split
  ·exact ⟨rfl, fun z => z⟩
  ·exact ⟨rfl, fun z => by cases z⟩
theorem laid_led {mask finger moves : Nat} {led plain : Bool} {hs : Array Int} {t : SetTable} {o : Array Nat} (h : SetTable.laid mask finger moves led plain hs = some (t, o)) : t.led = led ∧ t.plain = plain:=by
 unfold SetTable.laid at h
 cases hc : SetTable.layClean mask hs with
 | none => rw [hc] at h; cases h
 | some ow =>
  rw [hc] at h
  have h':=Option.some.inj h
  cases h'
  exact ⟨rfl, rfl⟩
theorem relay_led (t : SetTable) (es : Array (Int × Value)) (k : Nat) : (relayAll t es k).2.1.led = t.led ∧ ((relayAll t es k).2.1.plain = true → t.plain = true):=by
 unfold relayAll
 cases hr : t.relaid (es.map (·.1)) k with
 | none => exact ⟨rfl, fun z => by cases z⟩
 | some p =>
  obtain ⟨t', o⟩:=p
  obtain ⟨h1, h2⟩:=laid_led hr
  dsimp only
  split
  ·exact ⟨h1, fun z => by rw [← h2]; exact z⟩
  ·exact ⟨rfl, fun z => by cases z⟩
noncomputable def byT (w : World) : Bool := w.params.followText "set-order"
structure TabT (w : World) (t : SetTable) (n : Nat) : Prop where
 fits : t.fits n = true
 led : t.led = !byT w
 plain : t.plain = true → n = 0
section
variable (prog : Program) (w : World)
noncomputable def SetT (h : Heap) (a : Addr) (xs : List Str) : Prop :=
 ∃ o es ep t, h.get? a = some o ∧ o.ExactSet ∧ o.data = .set es ep t ∧ TabT w t es.size ∧ ElemsOf (strKind prog w) es.toList ∧ StrsAre (es.toList.map (·.2)) xs ∧ xs.Nodup ∧ es.size < scanBound
end
section
variable {prog : Program} {w : World} {A : Around} {E : Value → Shared → Prop} {s : Shared} {a : Addr}
theorem new_set (v : Value) {Q₁ : Value → Shared → Prop} (h : Q₁ (.ref s.heap.objs.size) { s with heap := s.heap.push { cls := .type "set", dict := none, data := .set #[] 0 (.fresh 0 0 (!byT w)) } }) :
  codeAny (model prog w) A (.call (.builtin "set.__new__") ⟨[.type "set", v], []⟩) (wants Q₁ E) s := by
 refine codeAny_of_tree ?_
 show wpAny _ A.in1 (do checkBuiltinCall "set.__new__" ⟨[.type "set", v], []⟩; again (.builtin "set.__new__" ⟨[.type "set", v], []⟩)) _ _ s
 refine wpAny_bind (wpAny_of_eq (PySem.F.newCall_set_1 v) (wpAny_pure ⟨plainId_quiet PySem.F.plain_set_new _, ?_⟩))
 refine codeAny_builtin PySem.F.entry_set_new ?_
 rw [Around.under_plainId PySem.F.plain_set_new _]
 unfold Builtin.«set.__new__» Builtin.Frozenset.newClass
 have hsub:=sub_set_self
 obtain ⟨hp, g, d, tk, os⟩:=s
 dsimp only
 wp_walk
 refine wpAny_askSetting (wpAny_pure ?_)
 dsimp only
 simp only [newObj]
 exact wpAny_bind (wpAny_alloc (wpAny_pure (wpAny_pure h)))
end
end DL
end
section
namespace DL
open PySem PySem.Spec PyProof.Rows L2
section
variable {prog : Program} {w : World} {A : Around} {E : Value → Shared → Prop} {s : Shared} {a : Addr}
end
end DL
end
section
namespace DL
open PySem PySem.Spec PyProof.Rows L2
namespace SF
theorem slotN : Slot "set_iterator" "__next__" "set_iterator.__next__" :=
 .of (owner := "set_iterator") (n := "__next__") (by rw [typeLookup_type, builtinLookup_eq_fast]; kernel_rfl) (by decide +kernel) (by decide +kernel)
  (by decide +kernel) (by first | exact .inl (by decide +kernel) | exact .inr (by decide +kernel)) (by rw [isSubtype_type]; kernel_rfl)
theorem entryN : entryFor table "set_iterator.__next__" = some Builtin.«set_iterator.__next__» := entryFor_of_tree (by kernel_rfl)
theorem ownN : Manifest.owners.lookup (String.ofList ['r', 'o', 't', 'a', 'r', 'e', 't', 'i', '_', 't', 'e', 's'].reverse) = some Manifest.sig_set_iterator:=by kernel_rfl
theorem argsN (v : Value) : argsOk "set_iterator.__next__" ⟨[v], []⟩ := by
 unfold argsOk
 rw [signature?_of (id := "set_iterator.__next__") (n := ['_', '_', 't', 'x', 'e', 'n', '_', '_']) (o := ['r', 'o', 't', 'a', 'r', 'e', 't', 'i', '_', 't', 'e', 's']) (by kernel_rfl) ownN]
 kernel_rfl
theorem entryI : entryFor table "set.__iter__" = some Builtin.«frozenset.__iter__» := entryFor_alias (id' := "frozenset.__iter__") (by kernel_rfl) rfl (by decide +kernel) (by kernel_rfl)
end SF
theorem choose_any {M : Model} {A : Around} {E : Value → Shared → Prop} {s : Shared} {src : Source} {n : Nat} {Q : Nat → Shared → Prop} (hn : n ≠ 0) (h : ∀ i d, i < n → Q i { s with drawn:=d }) : wpAny M A (choose src n) Q E s :=
 fun _ _ _ => ⟨hn, h _ _ (Nat.mod_lt _ (Nat.pos_of_ne_zero hn))⟩
theorem erase_perm {α : Type} : ∀ (xs : List α) (i : Nat) (h : i < xs.length), (xs[i] :: xs.eraseIdx i).Perm xs
 | x :: xs, 0, _ => .refl _
 | x :: xs, i + 1, h => by
  have hi : i < xs.length:=by simpa using h
  have ih:=erase_perm xs i hi
  show (xs[i]'hi :: x :: xs.eraseIdx i).Perm (x :: xs)
  exact (List.Perm.swap _ _ _).trans (ih.cons x)
theorem draw_any {α : Type} {M : Model} {A : Around} {E : Value → Shared → Prop} : ∀ (n : Nat) (xs : List α) (s : Shared) {Q : List α → Shared → Prop}, xs.length = n → (∀ ys d, ys.Perm xs → Q ys { s with drawn:=d }) → wpAny M A (drawOrder n xs) Q E s
 | 0, xs, s, Q, hl, h => by
  have e : xs = []:=List.length_eq_zero_iff.mp hl
  subst e
  have e2 : s = { s with drawn:=s.drawn }:=by cases s; rfl
  unfold drawOrder
  refine wpAny_pure ?_
  rw [e2]
  exact h [] _ (.refl _)
 | n + 1, [], s, Q, hl, h => by cases hl
 | n + 1, x :: xs, s, Q, hl, h => by
  unfold drawOrder
  refine wpAny_bind (choose_any (by simp) fun i d hi => ?_)
  rw [List.getElem?_eq_getElem hi]
  dsimp only
  refine wpAny_bind (draw_any n ((x :: xs).eraseIdx i) _ (by rw [List.length_eraseIdx_of_lt hi, hl]; rfl) fun ys d' p => wpAny_pure ?_)
  refine h _ d' ((p.cons _).trans ?_)
  exact erase_perm _ i hi
theorem pick_perm {α : Type} (next : Nat → Nat) : ∀ (f k : Nat) (left : List α) (out : Array α), left.length = f → (pickOrder.go next f k left out).toList.Perm (out.toList ++ left)
 | 0, k, left, out, hl => by
  have e : left = []:=List.length_eq_zero_iff.mp hl
  subst e
  unfold pickOrder.go
  rw [List.append_nil]
 | f + 1, k, left, out, hl => by
  have hi : next k % left.length < left.length:=Nat.mod_lt _ (by omega)
  unfold pickOrder.go
  rw [List.getElem?_eq_getElem hi]
  dsimp only
  refine (pick_perm next f (k + 1) _ _ (by rw [List.length_eraseIdx_of_lt hi, hl]; rfl)).trans ?_
  rw [Array.toList_push, List.append_assoc]
  exact (erase_perm left _ hi).append_left _
theorem pick_all {α : Type} (next : Nat → Nat) (xs : Array α) : (pickOrder next xs).toList.Perm xs.toList:=by
 unfold pickOrder
 have:=pick_perm next xs.size 0 xs.toList #[] (by simp)
 simpa using this
section
variable {prog : Program} {w : World} {A : Around} {E : Value → Shared → Prop} {s : Shared} {a : Addr}
theorem byText_ok {Q : Bool → Shared → Prop} (h : Q (byT w) s) : wpAny (model prog w) A setsByText Q E s:=by
 unfold setsByText
 exact wpAny_bind (wpAny_askSetting (wpAny_pure h))
structure ItS (h : Heap) (I a : Addr) (o : Obj) (n ep : Nat) (first : Value) (i : Nat) : Prop where
 it : ∃ oI, h.get? I = some oI ∧ oI.cls = .type "set_iterator" ∧ oI.data = .fields #[first, .int i 0, .ref a, .int n 0, .int ep 0]
 st : h.get? a = some o
theorem ItS.typeIs {o : Obj} {n ep i : Nat} {first : Value} {I : Addr} (x : ItS s.heap I a o n ep first i) : s.TypeIs (.ref I) "set_iterator" := by
 obtain ⟨⟨oI, h1, h2, _⟩, _⟩:=x
 exact ⟨oI, h1, h2⟩
theorem stop_tail {α : Type} {Q' : α → Shared → Prop} {E' : Value → Shared → Prop} (hh : A.handled = none) (h : ∀ o1 o2 : Obj, o2.cls = .type "StopIteration" → ((s.heap.push o1).push o2).get? (s.heap.push o1).objs.size = some o2 → E' (.ref (s.heap.push o1).objs.size) { s with heap := (s.heap.push o1).push o2 }) :
  wpAny (model prog w) A.in1 (newExc (.type "StopIteration") [] >>= fun e => (raiseNew e : Sem α)) Q' E' s := by
 refine wpAny_bind ?_
 simp only [newExc, newTuple]
 refine wpAny_bind (wpAny_newObj_type ?_ (by size_fits))
 refine wpAny_bind (m:=firstArgMember _ _) (wpAny_of_eq (a:=Value.none) (by first | rfl | (simp only [firstArgMember]; rfl)) ?_)
 refine wpAny_newObj_type ?_ (by size_fits)
 simp only [raiseNew]
 refine wpAny_bind (wpAny_handled ?_)
 rw [show A.in1.handled = none from hh]
 refine wpAny_bind (wpAny_pure (wpAny_throw ?_))
 exact h _ _ rfl (Heap.get?_push_size _ rfl)
theorem next_item {I : Addr} {o : Obj} {es : Array (Int × Value)} {ep i : Nat} {t : SetTable} {first first' x : Value} {Q : Option Value → Shared → Prop} (X : ItS s.heap I a o es.size ep first i) (hd : o.data = .set es ep t) (hf : t.fits es.size = true) (hIa : I ≠ a)
  (hstep : (∃ (slot j : Nat), first = .int slot 0 ∧ first' = .int j 0 ∧ ∀ (A : Around) (E : Value → Shared → Prop) (Q : Option (Value × Nat) → Shared → Prop), Q (some (x, j)) s → wpAny (model prog w) A (setNext a slot i ep) Q E s) ∨
   (∃ (T : Addr) (oT : Obj) (ps : Array Value) (m place : Nat) (hx : Int), first = .ref T ∧ first' = .ref T ∧ s.heap.get? T = some oT ∧ oT.data = .seq ps m ∧ ps[i]? = some (.int place 0) ∧ es[place]? = some (hx, x)))
  (h : ∀ h', Heap.SameBut I s.heap h' → ItS h' I a o es.size ep first' (i + 1) → Q (some x) { s with heap:=h' }) :
  wpAny (model prog w) A (pyNext (.ref I)) Q E s:=by
 obtain ⟨⟨oI, hI, hc, hdI⟩, ha⟩:=id X
 have fin : ∀ {h' : Heap}, Heap.SameBut I s.heap h' → h'.get? I = some { oI with data:=.fields #[first', .int ((i : Int) + 1) 0, .ref a, .int es.size 0, .int ep 0] } → ItS h' I a o es.size ep first' (i + 1):=by
  intro h' sb e
  exact ⟨⟨_, e, hc, rfl⟩, (sb.2 a (Ne.symm hIa)).trans ha⟩
 unfold pyNext
 refine wpAny_bind (wpAny_attempt (wpAny_callSpecial?_slot (name := Str.ofString "__next__") X.typeIs SF.slotN (wpAny_call_entry SF.slotN X.typeIs SF.entryN ?_ (SF.argsN _))))
 unfold Builtin.«set_iterator.__next__»
 refine wpAny_bind (wpAny_pure (wpAny_bind (wpAny_fieldsOf hI hdI ?_)))
 dsimp only
 refine wpAny_bind (wpAny_setEntries_of ha hd hf ?_)
 rw [if_neg (by simp)]
 rcases hstep with ⟨slot, j, rfl, rfl, hn⟩ | ⟨T, oT, ps, m, place, hx, rfl, rfl, hT, hdT, hp, he⟩
 ·dsimp only
  simp only [Int.toNat_natCast]
  refine wpAny_bind (hn _ _ _ ?_)
  dsimp only
  refine wpAny_bind (wpAny_setField hI hdI (by simp) ?_)
  have h1:=Heap.get?_update_self (Obj.mapFields (·.setIfInBounds 0 (rawInt (j : Int)))) hI (Obj.isFreed_of_fields (Obj.data_mapFields hdI _))
  have d1:=Obj.data_mapFields hdI (·.setIfInBounds 0 (rawInt (j : Int)))
  refine wpAny_bind (wpAny_setField (s:={ s with heap:=s.heap.update I (Obj.mapFields (·.setIfInBounds 0 (rawInt (j : Int)))) }) h1 d1 (by simp) ?_)
  have h2:=Heap.get?_update_self (Obj.mapFields (·.setIfInBounds 1 (rawInt ((i : Int) + 1)))) h1 (Obj.isFreed_of_fields (Obj.data_mapFields d1 _))
  have d2:=Obj.data_mapFields d1 (·.setIfInBounds 1 (rawInt ((i : Int) + 1)))
  have sb:=(Heap.SameBut.update s.heap I (Obj.mapFields (·.setIfInBounds 0 (rawInt (j : Int))))).trans (Heap.SameBut.update _ I (Obj.mapFields (·.setIfInBounds 1 (rawInt ((i : Int) + 1)))))
  refine wpAny_pure ⟨_, rfl, wpAny_pure (h _ sb ⟨⟨_, h2, ?_, ?_⟩, (sb.2 a (Ne.symm hIa)).trans ha⟩)⟩
  ·rw [Obj.cls_mapFields, Obj.cls_mapFields]; exact hc
  ·rw [d2]; simp [rawInt]
 ·dsimp only
  simp only [Int.toNat_natCast]
  unfold seqItems?
  dsimp only
  refine wpAny_bind (wpAny_bind (wpAny_load hT ?_))
  rw [hdT]
  refine wpAny_pure ?_
  dsimp only
  rw [hp]
  dsimp only
  simp only [Int.toNat_natCast]
  unfold setNextDrawn
  refine wpAny_bind (wpAny_bind (wpAny_setState_of ha hd hf ?_))
  dsimp only
  rw [if_neg (by simp)]
  rw [he]
  refine wpAny_pure ?_
  refine wpAny_bind (wpAny_setField hI hdI (by simp) ?_)
  have h2:=Heap.get?_update_self (Obj.mapFields (·.setIfInBounds 1 (rawInt ((i : Int) + 1)))) hI (Obj.isFreed_of_fields (Obj.data_mapFields hdI _))
  have d2:=Obj.data_mapFields hdI (·.setIfInBounds 1 (rawInt ((i : Int) + 1)))
  have sb:=Heap.SameBut.update s.heap I (Obj.mapFields (·.setIfInBounds 1 (rawInt ((i : Int) + 1))))
  refine wpAny_pure ⟨_, rfl, wpAny_pure (h _ sb ⟨⟨_, h2, ?_, ?_⟩, (sb.2 a (Ne.symm hIa)).trans ha⟩)⟩
  ·rw [Obj.cls_mapFields]; exact hc
  ·rw [d2]; simp [rawInt]
theorem next_end {I : Addr} {o : Obj} {es : Array (Int × Value)} {ep i : Nat} {t : SetTable} {first : Value} {Q : Option Value → Shared → Prop} (hh : A.handled = none) (X : ItS s.heap I a o es.size ep first i) (hd : o.data = .set es ep t) (hf : t.fits es.size = true)
  (hstep : (∃ (slot : Nat), first = .int slot 0 ∧ ∀ (A : Around) (E : Value → Shared → Prop) (Q : Option (Value × Nat) → Shared → Prop), Q none s → wpAny (model prog w) A (setNext a slot i ep) Q E s) ∨
   (∃ (T : Addr) (oT : Obj) (ps : Array Value) (m : Nat), first = .ref T ∧ s.heap.get? T = some oT ∧ oT.data = .seq ps m ∧ ps[i]? = none))
  (h : ∀ h', Heap.ExtBut I s.heap h' → Q none { s with heap:=h' }) :
  wpAny (model prog w) A (pyNext (.ref I)) Q E s:=by
 obtain ⟨⟨oI, hI, hc, hdI⟩, ha⟩:=id X
 unfold pyNext
 refine wpAny_bind (wpAny_attempt (wpAny_callSpecial?_slot (name := Str.ofString "__next__") X.typeIs SF.slotN (wpAny_call_entry SF.slotN X.typeIs SF.entryN ?_ (SF.argsN _))))
 unfold Builtin.«set_iterator.__next__»
 refine wpAny_bind (wpAny_pure (wpAny_bind (wpAny_fieldsOf hI hdI ?_)))
 dsimp only
 refine wpAny_bind (wpAny_setEntries_of ha hd hf ?_)
 rw [if_neg (by simp)]
 rcases hstep with ⟨slot, rfl, hn⟩ | ⟨T, oT, ps, m, rfl, hT, hdT, hp⟩
 ·dsimp only
  simp only [Int.toNat_natCast]
  refine wpAny_bind (hn _ _ _ ?_)
  dsimp only
  refine wpAny_bind (wpAny_setField hI hdI (by simp) ?_)
  refine stop_tail (s:={ s with heap:=s.heap.update I (Obj.mapFields (·.setIfInBounds 2 Value.none)) }) hh fun o1 o2 c2 g2 => ?_
  refine wpAny_bind (wpAny_isInstance (T := "StopIteration") (b := true) ⟨_, g2, c2⟩ isSubtype_stop ?_)
  exact wpAny_pure (h _ (((Heap.SameBut.update ..).extBut.push _).push _))
 ·dsimp only
  simp only [Int.toNat_natCast]
  unfold seqItems?
  dsimp only
  refine wpAny_bind (wpAny_bind (wpAny_load hT ?_))
  rw [hdT]
  refine wpAny_pure ?_
  dsimp only
  rw [hp]
  dsimp only
  refine wpAny_bind (wpAny_setField hI hdI (by simp) ?_)
  have h1:=Heap.get?_update_self (Obj.mapFields (·.setIfInBounds 0 (rawInt 0))) hI (Obj.isFreed_of_fields (Obj.data_mapFields hdI _))
  have d1:=Obj.data_mapFields hdI (·.setIfInBounds 0 (rawInt 0))
  refine wpAny_bind (wpAny_setField (s:={ s with heap:=s.heap.update I (Obj.mapFields (·.setIfInBounds 0 (rawInt 0))) }) h1 d1 (by simp) ?_)
  refine stop_tail (s:={ s with heap:=(s.heap.update I (Obj.mapFields (·.setIfInBounds 0 (rawInt 0)))).update I (Obj.mapFields (·.setIfInBounds 2 Value.none)) }) hh fun o1 o2 c2 g2 => ?_
  refine wpAny_bind (wpAny_isInstance (T := "StopIteration") (b := true) ⟨_, g2, c2⟩ isSubtype_stop ?_)
  exact wpAny_pure (h _ ((((Heap.SameBut.update ..).trans (Heap.SameBut.update ..)).extBut.push _).push _))
end
end DL
end
section
namespace DL
open PySem PySem.Spec PyProof.Rows L2
namespace SF
theorem slotJ : Slot "set_iterator" "__iter__" "set_iterator.__iter__" :=
 .of (owner := "set_iterator") (n := "__iter__") (by rw [typeLookup_type, builtinLookup_eq_fast]; kernel_rfl) (by decide +kernel) (by decide +kernel)
  (by decide +kernel) (by first | exact .inl (by decide +kernel) | exact .inr (by decide +kernel)) (by rw [isSubtype_type]; kernel_rfl)
theorem entryJ : entryFor table "set_iterator.__iter__" = some Builtin.«dict_keyiterator.__iter__» := entryFor_alias (id' := "dict_keyiterator.__iter__") (by kernel_rfl) rfl (by decide +kernel) (by kernel_rfl)
theorem argsJ (v : Value) : argsOk "set_iterator.__iter__" ⟨[v], []⟩ := by
 unfold argsOk
 rw [signature?_of (id := "set_iterator.__iter__") (n := ['_', '_', 'r', 'e', 't', 'i', '_', '_']) (o := ['r', 'o', 't', 'a', 'r', 'e', 't', 'i', '_', 't', 'e', 's']) (by kernel_rfl) ownN]
 kernel_rfl
end SF
section
variable {prog : Program} {w : World} {A : Around} {E : Value → Shared → Prop} {s : Shared} {a : Addr}
noncomputable def StepOk (prog : Program) (w : World) (s : Shared) (a : Addr) (es : Array (Int × Value)) (ep i : Nat) (first first' x : Value) : Prop :=
 (∃ (slot j : Nat), first = .int slot 0 ∧ first' = .int j 0 ∧ ∀ (A : Around) (E : Value → Shared → Prop) (Q : Option (Value × Nat) → Shared → Prop), Q (some (x, j)) s → wpAny (model prog w) A (setNext a slot i ep) Q E s) ∨
   (∃ (T : Addr) (oT : Obj) (ps : Array Value) (m place : Nat) (hx : Int), first = .ref T ∧ first' = .ref T ∧ s.heap.get? T = some oT ∧ oT.data = .seq ps m ∧ ps[i]? = some (.int place 0) ∧ es[place]? = some (hx, x))
noncomputable def EndOk (prog : Program) (w : World) (s : Shared) (a : Addr) (ep i : Nat) (first : Value) : Prop :=
 (∃ (slot : Nat), first = .int slot 0 ∧ ∀ (A : Around) (E : Value → Shared → Prop) (Q : Option (Value × Nat) → Shared → Prop), Q none s → wpAny (model prog w) A (setNext a slot i ep) Q E s) ∨
   (∃ (T : Addr) (oT : Obj) (ps : Array Value) (m : Nat), first = .ref T ∧ s.heap.get? T = some oT ∧ oT.data = .seq ps m ∧ ps[i]? = none)
theorem walks_of {I : Addr} {o : Obj} {es : Array (Int × Value)} {ep : Nat} {t : SetTable} {fp : List Addr} {P : Nat → Value → Prop} {F : Nat → Value → Heap → Prop} (hh : A.handled = none) (hd : o.data = .set es ep t) (hf : t.fits es.size = true) (hIa : I ≠ a) (hI : I ∈ fp) (ha : a ∈ fp)
  (hF : ∀ i f h h', F i f h → (∀ b ∈ fp, b ≠ I → ∀ o, h.get? b = some o → h'.get? b = some o) → F i f h')
  (hs : ∀ i (s : Shared) f, i < es.size → s.heap.get? a = some o → F i f s.heap → ∃ x f', P i x ∧ StepOk prog w s a es ep i f f' x ∧ F (i + 1) f' s.heap)
  (he : ∀ (s : Shared) f, s.heap.get? a = some o → F es.size f s.heap → EndOk prog w s a ep es.size f) :
  WalksS prog w A I fp [I] (fun x y => y = x) es.size P (fun i s => ∃ f, ItS s.heap I a o es.size ep f i ∧ F i f s.heap) where
 sub:=fun b hb => by rw [List.mem_singleton.mp hb]; exact hI
 grefl:=fun _ => rfl
 gtrans:=fun _ _ _ h1 h2 => h2.trans h1
 frame:=fun i s h' tk st _ hk => by
  obtain ⟨f, X, hf'⟩:=st
  obtain ⟨⟨oI, h1, h2, h3⟩, h4⟩:=X
  exact ⟨f, ⟨⟨oI, hk I hI _ h1, h2, h3⟩, hk a ha _ h4⟩, hF _ _ _ _ hf' fun b hb _ o e => hk b hb o e⟩
 item:=fun i s Q E hi st hQ => by
  obtain ⟨f, X, hf'⟩:=st
  obtain ⟨x, f', hP, hst, hn⟩:=hs i s f hi X.st hf'
  refine next_item X hd hf hIa hst fun h' sb X' => hQ x _ hP ⟨f', X', hF _ _ _ _ hn fun b _ hb o e => (sb.2 b hb).trans e⟩ ⟨fun b o hb e => ?_, rfl, rfl, rfl, Nat.le_refl _⟩
  exact (sb.2 b fun z => hb (List.mem_singleton.mpr z)).trans e
 done:=fun s Q E st hQ => by
  obtain ⟨f, X, hf'⟩:=st
  refine next_end hh X hd hf (he s f X.st hf') fun h' xb => hQ _ ⟨fun b o hb e => xb b o (fun z => hb (List.mem_singleton.mpr z)) e, rfl, rfl, rfl, Nat.le_refl _⟩
 self:=fun i s Q E st hQ => by
  obtain ⟨f, X, _⟩:=st
  refine wpAny_pyIter_slot X.typeIs SF.slotJ (wpAny_call_entry SF.slotJ X.typeIs SF.entryJ ?_ (SF.argsJ _))
  show wpAny _ _ (ret (.ref I)) _ _ s
  exact wpAny_pure ⟨_, rfl, "set_iterator", _, X.typeIs, SF.slotN.lookup, hQ⟩
theorem next_byT {o : Obj} {es : Array (Int × Value)} {ep : Nat} {t : SetTable} {slot i : Nat} {Q : Option (Value × Nat) → Shared → Prop} (hb : byT w = true) (ho : s.heap.get? a = some o) (hd : o.data = .set es ep t) (hf : t.fits es.size = true)
  (h : Q (((pickOrder (w.params.setOrder a ep) es)[i]?).map fun e => (e.2, slot)) s) : wpAny (model prog w) A (setNext a slot i ep) Q E s:=by
 unfold setNext
 refine wpAny_bind (wpAny_setState_of ho hd hf ?_)
 dsimp only
 refine wpAny_bind (byText_ok ?_)
 rw [hb]
 rw [if_pos rfl, if_neg (by simp)]
 refine wpAny_bind ?_
 unfold setWalk
 refine wpAny_bind (wpAny_setState_of ho hd hf ?_)
 dsimp only
 refine wpAny_bind (byText_ok ?_)
 rw [hb, if_pos rfl]
 exact wpAny_bind (wpAny_askSetting (wpAny_pure (wpAny_pure h)))
end
end DL
end
section
set_option maxHeartbeats 1000000
namespace DL
open PySem PySem.Spec PyProof.Rows L2
theorem map_getD {α β : Type} (f : α → β) (b : β) (es : List α) : (List.range es.length).map (fun i => ((es[i]?).map f).getD b) = es.map f:=by
 refine List.ext_getElem (by simp) fun i h1 h2 => ?_
 have : i < es.length:=by simpa using h1
 simp [List.getElem?_eq_getElem this]
theorem items_list {L : List Value} {acc : Array Value} (h : ItemsOf (fun i v => L[i]? = some v) acc L.length) : acc.toList = L:=by
 obtain ⟨h1, h2⟩:=h
 refine List.ext_getElem? fun i => ?_
 rw [Array.getElem?_toList]
 by_cases hi : i < acc.size
 ·rw [Array.getElem?_eq_getElem hi]
  exact (h2 i _ (Array.getElem?_eq_getElem hi)).symm
 ·rw [Array.getElem?_eq_none (by omega), List.getElem?_eq_none (by omega)]
section
variable {prog : Program} {w : World} {A : Around} {E : Value → Shared → Prop} {s : Shared} {a : Addr}
end
end DL
end
section
set_option maxHeartbeats 1000000
namespace DL
open PySem PySem.Spec PyProof.Rows L2 PySem.W SO
section
variable {prog : Program} {w : World} {A : Around} {E : Value → Shared → Prop} {s : Shared} {a : Addr}
theorem SetT.kept {h h' : Heap} {xs : List Str} (x : SetT prog w h a xs) (hk : ∀ b o, h.get? b = some o → h'.get? b = some o) : SetT prog w h' a xs:=by
 obtain ⟨o, es, ep, t, ho, r⟩:=x
 exact ⟨o, es, ep, t, hk _ _ ho, r⟩
theorem SetT.typeIs {xs : List Str} (x : SetT prog w s.heap a xs) : s.TypeIs (.ref a) "set" := by
 obtain ⟨o, es, ep, t, ho, hx, _⟩:=x
 exact ⟨o, ho, hx.1⟩
theorem SetT.len {h : Heap} {xs : List Str} (x : SetT prog w h a xs) : xs.length < scanBound ∧ xs.Nodup ∧ a < h.objs.size:=by
 obtain ⟨o, es, ep, t, ho, hx, hd, hT, hel, hs, hn, hb⟩:=x
 have:=hs.length
 rw [List.length_map, Array.length_toList] at this
 exact ⟨by omega, hn, Heap.lt_size ho⟩
theorem set_hint {Q : Bool → Shared → Prop} (hT : s.TypeIs (.ref a) "set") (h : Q false s) : wpAny (model prog w) A (Builtin.List.listLengthHint (.ref a)) Q E s := by
 unfold Builtin.List.listLengthHint
 refine wpAny_bind (wpAny_specialOf hT PySem.F.slot_set_len.lookup ?_)
 generalize hid : ("set.__len__" : String) = id0
 wp_delta
 rw [show splitId id0 = some ("set", "__len__") from by subst hid; decide +kernel]
 subst hid
 refine wpAny_bind (wpAny_isInstance (T := "set") (b := true) hT (by rw [isSubtype_type]; kernel_rfl) ?_)
 refine wpAny_ite_split (fun z => absurd z (by decide)) (fun _ => ?_)
 exact wpAny_ite_split (fun _ => wpAny_bind (wpAny_typeOf hT (wpAny_pure h))) (fun z => absurd (by decide +kernel) z)
end
end DL
end
section
set_option maxHeartbeats 1000000
namespace DL
open PySem PySem.Spec PyProof.Rows L2 PySem.W SO
section
variable {prog : Program} {w : World} {A : Around} {E : Value → Shared → Prop} {s : Shared} {a : Addr}
end
section
variable {X : Cx} {EX : EXT} {pins : List (Addr × Obj)} {σ : L2.St} {H : Hp} {s : Shared}
theorem Inv.drew {d : Drawn} (I : Inv X pins σ H s) : Inv X pins σ H { s with drawn:=d }:=⟨I.ok, I.os, I.bare, I.base, I.loc, I.cell, I.free, I.freeC, I.pin, I.hok, I.len⟩
end
end DL
end
section
set_option maxHeartbeats 1000000
namespace DL
open PySem PySem.Spec PyProof.Rows L2
namespace SF
end SF
section
variable {prog : Program} {w : World} {A : Around} {E : Value → Shared → Prop} {s : Shared}
end
section
variable {X : Cx} {EX : EXT} {pins : List (Addr × Obj)} {σ : L2.St} {H : Hp} {s : Shared} {O : List Addr}
end
end DL
end
section
set_option maxHeartbeats 1000000
namespace DL
open PySem PySem.Spec PyProof.Rows L2
section
variable {prog : Program} {w : World} {A : Around} {E : Value → Shared → Prop} {s : Shared}
end
section
variable {X : Cx} {EX : EXT} {e k : Expr} {pos p2 : Pos} {fa fk : DE}
end
end DL
end
section
set_option maxHeartbeats 1000000
namespace DL
open PySem PySem.Spec PyProof.Rows L2
noncomputable def Itl (K : PySem.W.Frag) (a b : Addr) : It :=
  ⟨fun i H => ∃ xs ys x y, SqL K H a xs ∧ SqL K H b ys ∧ xs[i]? = some x ∧ ys[i]? = some y,
   fun i H v H' => ∃ p x y, H p = none ∧ v = .ref p ∧ H' = upd H p (.tup [x, y]) ∧ (∀ xs, SqL K H a xs → xs[i]? = some x) ∧ ∀ ys, SqL K H b ys → ys[i]? = some y,
   fun i H => ∃ xs ys, SqL K H a xs ∧ SqL K H b ys ∧ (xs.length ≤ i ∨ ys.length ≤ i)⟩
section
variable {X : Cx} {EX : EXT} {es : List Expr} {k : Nat} {pt p pos : Pos} {a b : Expr} {g : DA}
end
end DL
end
section
set_option maxHeartbeats 1000000
namespace DL
open PySem PySem.Spec PyProof.Rows L2
noncomputable def Itv (K : PySem.W.Frag) (a : Addr) (n : Nat) : It :=
 ⟨fun i H => ∃ xs x, SqL K H a xs ∧ xs.length = n ∧ xs.reverse[i]? = some x, fun i H x H' => H' = H ∧ ∀ xs, SqL K H a xs → xs.reverse[i]? = some x, fun i H => ∃ xs, SqL K H a xs ∧ xs.length = n ∧ n ≤ i⟩
theorem turn_rev {P : Program} {w : World} {K : PySem.W.Frag} {tg : Expr} (a it : Addr) (n : Nat) : Turn P w K tg (Itv K a n) [it] it (fun i h => i ≤ n ∧ h.IsRevIter it a ((n : Int) - 1 - (i : Nat))) where
 mem:=by simp
 obj:=fun i h st b hb => by
  have e : b = it:=by simpa using hb
  subst e
  obtain ⟨_, o, e, c, d⟩:=st
  exact ⟨o, e, fun v z => by rw [d] at z; cases z⟩
 keep:=fun i h h' st k => ⟨st.1, st.2.at fun o e => k it (by simp) o e⟩
 item:=by
  intro X hP hw hK hc i pins s σ H E I hf st hg
  subst hP hw hK
  obtain ⟨xs, x, hq, hn, hx⟩:=hg
  obtain ⟨its, rv, p, hz⟩:=I.list hq
  have hi : i < n:=by
   have:=(List.getElem?_eq_some_iff.mp hx).1
   rw [List.length_reverse] at this
   omega
  have hx2 : xs[n - 1 - i]? = some x:=by
   rw [List.getElem?_reverse (by omega)] at hx
   rw [← hn]
   exact hx
  obtain ⟨u, hu, ru⟩:=rv.get hx2
  obtain ⟨f0, f1, f2, f3, f4, f5⟩:=hf it (by simp)
  have hidx : ((n : Int) - 1 - (i : Nat)) = ((n - 1 - i : Nat) : Int):=by omega
  refine wpAny_pyNext_rev_item (i:=n - 1 - i) (hidx ▸ st.2) p.isList (x:=u) (by simpa using hu) fun h' st' sb => ?_
  have hnext : ((n - 1 - i : Nat) : Int) - 1 = (n : Int) - 1 - ((i + 1 : Nat) : Int):=by omega
  rw [hnext] at st'
  have I1 : Inv X pins σ H { s with heap:=h' }:=I.turned (t':=s.toks) (fun b o hb e => (sb.2 b hb).trans e) f0 f1 f3 f4 f5
  obtain ⟨o, e, c, d⟩:=id st'
  exact ⟨u, rfl, go_of (s:={ s with heap:=h' }) e c d (by decide) ⟨x, H, I1, ru, ⟨rfl, fun ys hy => by rw [I.list_inj hy hq]; exact hx⟩, ⟨hi, st'⟩, fun b hb => (hf b hb).1⟩⟩
 done:=by
  intro X hP hw hK hc i pins s σ H E I hf st hg
  subst hP hw hK
  obtain ⟨xs, hq, hn, hx⟩:=hg
  obtain ⟨f0, f1, f2, f3, f4, f5⟩:=hf it (by simp)
  have hidx : ((n : Int) - 1 - (i : Nat)) = -1:=by
   have:=st.1
   omega
  exact wpAny_pyNext_rev_end (I.ok.hd hc) (hidx ▸ st.2) fun h' eb => ⟨rfl, I.turned (t':=s.toks) (fun b o hb e => eb b o hb e) f0 f1 f3 f4 f5⟩
 self:=fun _ _ _ _ _ st h => by
  have hT:=st.2.typeIs
  refine wpAny_pyIter_slot hT PySem.F.slot_lri_iter (wpAny_call_entry PySem.F.slot_lri_iter hT PySem.F.entry_lri_iter ?_ (PySem.F.args_lri_iter_1 _))
  show wpAny _ _ (ret (.ref it)) _ _ _
  exact wpAny_pure ⟨_, rfl, "list_reverseiterator", _, hT, PySem.F.slot_lri_next.lookup, h⟩
section
variable {X : Cx} {EX : EXT} {tg a : Expr} {p pos : Pos} {f : DE}
noncomputable def iRev (K : PySem.W.Frag) (tl : TA) : TI:=fun σ H R => tl σ H fun vs H1 => ∃ a xs, vs = [.ref a] ∧ SqL K H1 a xs ∧ R (Itv K a xs.length) H1
theorem pi_rev {ta : TA} (hg : Gl X "reversed") (hm : X.mg "reversed" = none) (ha : PA X [a] ta) (hs : starEach [a] X.env = [(false, eval a X.env)] := by rfl) : PI X tg (.Call (.Name "reversed" p) [a] [] pos) (iRev X.K ta) := by
 intro pins s σ H R I h
 refine Call_ (ld_blt I hg hm PyProof.Rows.boot_reversed (PyProof.Rows.callWith_type1 (thn (ha pos pins s σ H _ I h) fun us s1 ⟨vs, H1, I1, r1, q1⟩ => ?_) (by rw [hs]; rfl) rfl))
 obtain ⟨pa, xs, e, h1, q⟩:=q1
 subst e
 cases r1 with
 | cons r rr =>
  cases rr
  cases r
  obtain ⟨its1, v1, p1, _⟩:=I1.list h1
  have hl:=v1.length
  refine call_reversed_list p1.isList ?_
  have I2 : Inv X pins σ H1 { s1 with heap:=s1.heap.push (revObj pa ((its1.toArray.size : Int) - 1)) }:=I1.kept (t':=s1.toks) fun b o e => Heap.get?_push_of_some _ e
  have T:=turn_rev (P:=X.prog) (w:=X.w) (K:=X.K) (tg:=tg) pa s1.heap.objs.size xs.length
  have st : (0 : Nat) ≤ xs.length ∧ (s1.heap.push (revObj pa ((its1.toArray.size : Int) - 1))).IsRevIter s1.heap.objs.size pa ((xs.length : Int) - 1 - ((0 : Nat) : Int)):=by
   refine ⟨Nat.zero_le _, _, Heap.get?_push_size _ rfl, rfl, ?_⟩
   show Data.fields #[.ref pa, rawInt ((its1.toArray.size : Int) - 1)] = _
   rw [List.size_toArray, ← hl]
   simp
  refine T.self _ 0 _ _ _ st ?_
  refine ⟨_, _, _, _, H1, rfl, I2, T, st, fun c hc => ?_, q⟩
  have hle : s1.heap.objs.size ≤ c:=by
   simp only [List.mem_cons, List.not_mem_nil, or_false] at hc
   rw [hc]
   exact Nat.le_refl _
  exact I1.fpOk hle (I1.hok.fresh hle)
noncomputable def dRevd (f : DE) : DI:=fun ρ st => (f ρ st).bind fun d st1 => match seqL st1 d with
 | some xs => .ok (xs.reverse, fun st => seqL st d = some xs) st1
 | none => .bad
theorem pid_rev (hg : Gl X "reversed") (hm : X.mg "reversed" = none) (ha : PD X EX a f) (hs : starEach [a] X.env = [(false, eval a X.env)] := by rfl) : PID X EX tg (.Call (.Name "reversed" p) [a] [] pos) (dRevd f) := by
 refine PI.mono (pi_rev hg hm (pda_cons ha pda_nil (by rw [hs]; rfl)) hs) ?_
 rintro σ H R ⟨O, ρ, st, W, E, R0⟩
 have R1:=R0.bind
 refine ⟨O, ρ, st, W, E, ?_⟩
 unfold dCons dNil
 cases hf : f ρ st with
 | bad => rw [hf] at R1; exact R1.elim
 | exc c st' => rw [hf] at R1; exact R1
 | ok d st' =>
  rw [hf] at R1
  refine fun O1 H1 k1 W1 vs r => ?_
  have R2:=R1 O1 H1 k1 W1
  dsimp only at R2
  obtain ⟨v, rfl, rv⟩:=r.one_of
  cases e : seqL st' d with
  | none => rw [e] at R2; exact R2.elim
  | some xs =>
   rw [e] at R2
   obtain ⟨pa, va, rfl, q, rs⟩:=rdL W1 rv e
   refine ⟨pa, va, rfl, q, Run.now (k:=fun q _ O' H' => ∀ J, ItD X.K J O' H' q → R J H') R2 W1 _ ?_⟩
   intro i O' H' st2 kp W' hp
   obtain ⟨pa', ws, e1, q', r'⟩:=rdL W' (Rep.mono kp _ _ rv) hp
   cases e1
   have hl1:=rs.length
   have hl2:=r'.length
   refine ⟨fun x hx => ?_, fun hl => ⟨ws, q', by omega, by rw [List.length_reverse] at hl; omega⟩⟩
   dsimp only at hx
   obtain ⟨v, h1, h2⟩:=(reps_rev r').get hx
   refine ⟨⟨ws, v, q', by omega, h1⟩, ?_⟩
   rintro y H2 ⟨rfl, h3⟩
   have h4:=h3 ws q'
   rw [h1] at h4
   cases h4
   exact ⟨Keep.refl, W', h2⟩
end
end DL
end
section
set_option maxHeartbeats 1000000
namespace DL
open PySem PySem.Spec PyProof.Rows L2 PySem.W
noncomputable def RawD (h : Heap) (d : Addr) (es : Array DictEntry) (ep : Nat) : Prop:=∃ o, h.get? d = some o ∧ o.ExactDict ∧ o.data = .dict es ep
section
variable {prog : Program} {w : World} {A : Around} {E : Value → Shared → Prop} {s : Shared}
theorem RawD.typeIs {d : Addr} {es : Array DictEntry} {ep : Nat} (x : RawD s.heap d es ep) : s.TypeIs (.ref d) "dict" := let ⟨o, e, c, _⟩ := x; ⟨o, e, c.1⟩
theorem RawD.kept {h h' : Heap} {d : Addr} {es : Array DictEntry} {ep : Nat} (x : RawD h d es ep) (k : ∀ o, h.get? d = some o → h'.get? d = some o) : RawD h' d es ep:=let ⟨o, e, r⟩:=x; ⟨o, k o e, r⟩
theorem raw_iter {d : Addr} {es : Array DictEntry} {ep : Nat} {Q : Value → Shared → Prop} (hd : (d == sysModules) = false) (hm : RawD s.heap d es ep)
  (hQ : Q (.ref s.heap.objs.size) { s with heap := s.heap.push { cls := .type "dict_keyiterator", data := .fields #[.ref d, .int 0 0, .int es.size 0, .int ep 0] } }) : wpAny (model prog w) A (pyIter (.ref d)) Q E s := by
 obtain ⟨o, ho, hc, hdat⟩:=id hm
 have hT:=hm.typeIs
 refine wpAny_pyIter_slot hT PySem.F.slot_dict_iter (wpAny_call_entry PySem.F.slot_dict_iter hT PySem.F.entry_dict_iter ?_ (PySem.F.args_dict_iter_1 _))
 unfold Builtin.«dict.__iter__» Builtin.Dict.dictSlotNone
 refine wpAny_bind (wpAny_bind (wpAny_notOrdered_dict hT (wpAny_pure ?_)))
 dsimp only
 refine wpAny_bind (m:=Builtin.Dict.showsAll d) ?_
 unfold Builtin.Dict.showsAll
 refine wpAny_ite_split (fun z => by rw [hd] at z; cases z) (fun _ => wpAny_pure ?_)
 refine wpAny_bind (wpAny_dictEntries ho hdat (wpAny_bind (wpAny_dictEpoch ho hdat ?_)))
 refine wpAny_bind (wpAny_newObj_type (wpAny_pure ⟨_, rfl, "dict_keyiterator", _, ⟨_, Heap.get?_push_size _ rfl, rfl⟩, PySem.F.slot_dict_keyiterator_next.lookup, ?_⟩))
 simpa [rawInt] using hQ
theorem raw_item {it d : Addr} {i ep : Nat} {es : Array DictEntry} {e : DictEntry} {Q : Option Value → Shared → Prop} (hit : s.heap.IsKeyIter it d i es.size ep) (hm : RawD s.heap d es ep) (hx : es[i]? = some e)
  (hQ : ∀ h', h'.IsKeyIter it d (i + 1) es.size ep → Heap.SameBut it s.heap h' → Q (some e.key) { s with heap:=h' }) : wpAny (model prog w) A (pyNext (.ref it)) Q E s:=by
 obtain ⟨o, ho, hc, hd⟩:=id hit
 obtain ⟨od, hod, hcd, hdd⟩:=id hm
 unfold pyNext
 refine wpAny_bind (wpAny_attempt (wpAny_callSpecial?_slot (name := Str.ofString "__next__") hit.typeIs PySem.F.slot_dict_keyiterator_next
  (wpAny_call_entry PySem.F.slot_dict_keyiterator_next hit.typeIs PySem.F.entry_dict_keyiterator_next ?_ (PySem.F.args_dict_keyiterator_next_1 _))))
 have hown : Builtin.Dict_items.ownsTuple "dict_keyiterator" = false := by decide
 have hT:=hit.typeIs
 repeat (any_goals (first | assumption | with_reducible refine wpAny_typeNameOfWhole_keyiter hT ?_ | with_reducible refine wpAny_fieldsOf ho hd ?_ | with_reducible refine wpAny_dictEntries hod hdd ?_ | with_reducible refine wpAny_dictEpoch hod hdd ?_ | with_reducible refine wpAny_isOneOf_keyiter hT ?_ | wp_step))
 simp only [show ¬ ((i : Int) < 0) by omega, if_false, Int.toNat_natCast, hx]
 repeat (any_goals (first | assumption | with_reducible refine wpAny_typeNameOfWhole_keyiter hT ?_ | with_reducible refine wpAny_isOneOf_keyiter hT ?_ | ((fail_if_success (with_reducible show wpAny _ _ (setField _ _ _) _ _ _)); wp_step)))
 simp only [hown, Bool.false_eq_true, if_false, Nat.zero_add]
 refine wpAny_setField ho hd (by simp) ?_
 rw [if_neg]
 rotate_left
 ·decide +kernel
 have hit' : (s.heap.update it (Obj.mapFields (·.setIfInBounds 1 (rawInt ((i : Int) + 1))))).IsKeyIter it d (i + 1) es.size ep :=
  ⟨_, Heap.get?_update_self _ ho (Obj.isFreed_of_fields (Obj.data_mapFields hd _)), (Obj.cls_mapFields ..).trans hc, by rw [Obj.data_mapFields hd]; simp [rawInt]⟩
 have sb:=Heap.SameBut.update s.heap it (Obj.mapFields (·.setIfInBounds 1 (rawInt ((i : Int) + 1))))
 generalize s.heap.update it (Obj.mapFields (·.setIfInBounds 1 (rawInt ((i : Int) + 1)))) = h2 at hit' sb
 have hT2 : Shared.TypeIs { s with heap := h2 } (.ref it) "dict_keyiterator" := hit'.typeIs
 refine wpAny_bind (wpAny_holding (wpAny_bind (wpAny_isOneOf_keyiter hT2 ?_)))
 refine wpAny_ite_split (fun _ => ?_) (fun z => absurd (by decide +kernel) z)
 exact wpAny_pure (wpAny_pure ⟨_, rfl, wpAny_pure (hQ _ hit' sb)⟩)
theorem raw_end {it d : Addr} {i ep : Nat} {es : Array DictEntry} {Q : Option Value → Shared → Prop} (hh : A.handled = none) (hit : s.heap.IsKeyIter it d i es.size ep) (hm : RawD s.heap d es ep) (hx : es[i]? = none)
  (hQ : ∀ h', Heap.ExtBut it s.heap h' → Q none { s with heap:=h' }) : wpAny (model prog w) A (pyNext (.ref it)) Q E s:=by
 obtain ⟨o, ho, hc, hd⟩:=id hit
 obtain ⟨od, hod, hcd, hdd⟩:=id hm
 unfold pyNext
 refine wpAny_bind (wpAny_attempt (wpAny_callSpecial?_slot (name := Str.ofString "__next__") hit.typeIs PySem.F.slot_dict_keyiterator_next
  (wpAny_call_entry PySem.F.slot_dict_keyiterator_next hit.typeIs PySem.F.entry_dict_keyiterator_next ?_ (PySem.F.args_dict_keyiterator_next_1 _))))
 have hown : Builtin.Dict_items.ownsTuple "dict_keyiterator" = false := by decide
 have hT:=hit.typeIs
 repeat (any_goals (first | assumption | with_reducible refine wpAny_typeNameOfWhole_keyiter hT ?_ | with_reducible refine wpAny_fieldsOf ho hd ?_ | with_reducible refine wpAny_dictEntries hod hdd ?_ | with_reducible refine wpAny_dictEpoch hod hdd ?_ | with_reducible refine wpAny_isOneOf_keyiter hT ?_ | wp_step))
 simp only [show ¬ ((i : Int) < 0) by omega, if_false, Int.toNat_natCast, hx]
 repeat (any_goals (first | assumption | with_reducible refine wpAny_typeNameOfWhole_keyiter hT ?_ | with_reducible refine wpAny_isOneOf_keyiter hT ?_ | ((fail_if_success (with_reducible show wpAny _ _ (setField _ _ _) _ _ _)); wp_step)))
 simp only [hown, Bool.false_eq_true, if_false]
 refine wpAny_setField ho hd (by simp) ?_
 refine stop_tail (s:={ s with heap:=s.heap.update it (Obj.mapFields (·.setIfInBounds 0 Value.none)) }) hh fun o1 o2 c2 g2 => ?_
 refine wpAny_bind (wpAny_isInstance (T := "StopIteration") (b := true) ⟨_, g2, c2⟩ isSubtype_stop ?_)
 exact wpAny_pure (hQ _ (((Heap.SameBut.update ..).extBut.push _).push _))
theorem raw_walks (hh : A.handled = none) (I d : Addr) (hne : d ≠ I) (es : Array DictEntry) (ep : Nat) :
  Walks prog w A I [I, d] [I] es.size (fun i v => ∃ e, es[i]? = some e ∧ v = e.key) (fun i h => h.IsKeyIter I d i es.size ep ∧ RawD h d es ep) where
 sub:=fun b hb => by simp at hb; simp [hb]
 frame:=fun _ _ _ st hk => ⟨let ⟨o, e, r⟩:=st.1; ⟨o, hk I (by simp) o e, r⟩, st.2.kept fun o e => hk d (by simp) o e⟩
 item:=fun i s Q E hi st hQ => by
  refine raw_item st.1 st.2 (e:=es[i]) (by simp [hi]) fun h' hit' hs' => ?_
  exact hQ _ h' s.toks ⟨es[i], by simp [hi], rfl⟩ ⟨hit', st.2.kept fun o e => hs'.extBut d o hne e⟩ fun b o hb e => hs'.extBut b o (fun h => hb (by simp [h])) e
 done:=fun s Q E st hQ => raw_end hh st.1 st.2 (by simp) fun h' he' => hQ h' s.toks fun b o hb e => he' b o (fun h => hb (by simp [h])) e
 self:=fun _ _ _ _ st hQ => wpAny_pyIter_keyiter st.1 hQ
theorem raw_src {d : Addr} {es : Array DictEntry} {ep : Nat} (lo : (d == sysModules) = false) : KdlSrc prog w "dict" d d es.size (fun i v => ∃ e, es[i]? = some e ∧ v = e.key) (fun h => RawD h d es ep) where
 type:=fun _ hm => hm.typeIs
 there:=fun _ hm => let ⟨_, e, _⟩:=hm; ⟨Heap.lt_size e, Heap.lt_size e⟩
 keep:=fun _ _ hm hk => hm.kept fun o e => hk d (.inl rfl) o e
 notList:=by decide
 notTuple:=by decide
 hint:=fun _ _ _ _ hm hq => kdl_hint_dict hm.typeIs hq
 iter:=fun _ _ hh hm => ⟨_, _, (fun _ _ hq => raw_iter lo hm hq), raw_walks hh _ d (Nat.ne_of_lt (let ⟨_, e, _⟩:=hm; Heap.lt_size e)) es ep, ⟨⟨_, Heap.get?_push_size _ rfl, rfl, rfl⟩, hm.kept fun o e => Heap.get?_push_of_some _ e⟩⟩
end
end DL
end
section
set_option maxHeartbeats 1000000
namespace DL
open PySem PySem.Spec PyProof.Rows L2 PySem.W
theorem rep_key {K : PySem.W.Frag} {O : List Addr} {H : Hp} {d : D} {q : Key} (h : keyD d = some q) : Rep K O H d (kV q):=by
 cases d with
 | int i =>
  cases (show some (Sum.inl i) = some q from h)
  exact Rep.int_i.mpr rfl
 | str x =>
  cases (show some (Sum.inr x) = some q from h)
  exact Rep.str_i.mpr rfl
 | _ => cases h
theorem reps_keys {K : PySem.W.Frag} {O : List Addr} {H : Hp} : ∀ {ds : List D} {qs : List Key}, keyDs ds = some qs → Reps K O H ds (qs.map kV)
 | [], qs, h => by
  cases (show some [] = some qs from h)
  exact Reps.nil_i.mpr rfl
 | d :: ds, qs, h => by
  unfold keyDs at h
  cases h1 : keyD d with
  | none => rw [h1] at h; cases h
  | some k =>
   cases h2 : keyDs ds with
   | none => rw [h1, h2] at h; cases h
   | some ks =>
    rw [h1, h2] at h
    cases h
    exact Reps.cons_i.mpr ⟨_, _, rfl, rep_key h1, reps_keys h2⟩
theorem rep_keyT {K : PySem.W.Frag} {O : List Addr} {H : Hp} {d : D} {q : List Key} {a : Addr} (h : keyT d = some q) (ha : H a = some (.tup (q.map kV))) : Rep K O H d (.ref a):=by
 cases d with
 | tup ds => exact Rep.tup_i.mpr ⟨a, _, rfl, ha, reps_keys h⟩
 | _ => cases h
theorem kt_keys {K : PySem.W.Frag} {O : List Addr} {H : Hp} : ∀ {ds : List (D × D)} {vs : List (List Key × V)} {xs : List (List Key × Addr × Value)}, Kvs K keyT O H ds vs → KT H vs xs → Reps K O H (ds.map (·.1)) (xs.map fun x => V.ref x.2.1)
 | [], vs, xs, h, t => by
  cases (show vs = [] from h)
  cases t
  exact Reps.nil_i.mpr rfl
 | (k, d) :: ds, vs, xs, h, t => by
  obtain ⟨q, v, r, rfl, hk, hr, ht⟩:=(show ∃ q v r, vs = (q, v) :: r ∧ keyT k = some q ∧ Rep K O H d v ∧ Kvs K keyT O H ds r from h)
  cases t with
  | cons hq t =>
   rw [List.map_cons, List.map_cons]
   refine Reps.cons_i.mpr ⟨_, _, rfl, rep_keyT hk ?_, kt_keys ht t⟩
   exact hq.2.1
noncomputable def listTF : List D → Sto → Out (List D)
 | [.res i], st => match st[i]? with
  | some (.dtt ds) => .ok (ds.map (·.1)) st
  | _ => .bad
 | _, _ => .bad
section
variable {X : Cx} {EX : EXT}
theorem call_listTF (hc : X.calm = true) : CallF X EX (.type "list") listTF := by
 intro pins s σ H xs us Q I rx h
 obtain ⟨O, ds, st, W, r, R⟩:=h
 unfold listTF at R
 split at R
 ·rename_i i
  obtain ⟨v, rfl, rv⟩:=r.one_of
  rw [Rep.res_i] at rv
  obtain ⟨a, rfl, q⟩:=rv
  split at R
  ·rename_i kvs hk
   obtain ⟨vs, e2, kv⟩:=W.at_ _ _ _ q hk
   cases rx with
   | cons r0 rt =>
    cases rt
    cases r0
    obtain ⟨z, hd, xs, kt, o, es, ep, g1, g2, g3, g4, g5, g6⟩:=dt_rd I.hok (.inl e2)
    have hl : es.size = xs.length:=by
     have:=congrArg List.length g4
     simpa using this
    have hlv : xs.length = vs.length:=(Paired.length kt).symm
    refine kdl_call (raw_src (d:=a) (es:=es) (ep:=ep) hd) (I.ok.hd hc) ⟨o, g1, g2, g3⟩ (by omega) fun h' tk acc c kp hg hit => ?_
    have hacc : acc.toList = xs.map fun x => Value.ref x.2.1:=by
     refine List.ext_getElem? fun j => ?_
     rw [Array.getElem?_toList, List.getElem?_map]
     by_cases hj : j < acc.size
     ·obtain ⟨e, h1, h2⟩:=hit.2 j acc[j] (Array.getElem?_eq_getElem hj)
      rw [Array.getElem?_eq_getElem hj, h2]
      have h3 : es.toList[j]? = some e:=by rw [Array.getElem?_toList]; exact h1
      rw [g4, List.getElem?_map] at h3
      obtain ⟨x, h4, h5⟩:=Option.map_eq_some_iff.mp h3
      rw [h4, ← h5]
      rfl
     ·have:=hit.1
      rw [Array.getElem?_eq_none (by omega), List.getElem?_eq_none (by omega)]
      rfl
    refine ⟨.ref s.heap.objs.size, upd H s.heap.objs.size (.lst (xs.map fun x => V.ref x.2.1)), I.laid (t':=tk) kp (Nat.le_refl _) ⟨by rw [List.length_map]; omega, acc.toList, c, ?_, by simpa using hg⟩, rfl, Run.now (k:=New X.K Q) R W _ _ (kt_keys kv kt) (I.hok.fresh (Nat.le_refl _))⟩
    rw [hacc]
    have : ∀ (l : List (List Key × Addr × Value)), Vals (l.map fun x => V.ref x.2.1) (l.map fun x => Value.ref x.2.1):=by
     intro l
     induction l with
     | nil => exact .nil
     | cons x l ih => exact .cons rfl ih
    exact this xs
  ·exact R.elim
 ·exact R.elim
end
end DL
end
section
set_option maxHeartbeats 1000000
namespace DL
open PySem PySem.Spec PyProof.Rows L2 PySem.W SO
section
variable {prog : Program} {w : World} {A : Around} {E : Value → Shared → Prop} {s : Shared}
end
end DL
end
section
set_option maxHeartbeats 1000000
namespace DL
open PySem PySem.Spec PyProof.Rows L2 PySem.W SO
noncomputable def PlsAre (h : Heap) : List Value → List (List Str) → Prop
 | [], [] => True
 | v :: vs, p :: ps => (∃ b its, v = .ref b ∧ IsTup h b its.toArray ∧ StrsAre its p) ∧ PlsAre h vs ps
 | _, _ => False
theorem PlsAre.mono {h h' : Heap} : ∀ {vs : List Value} {ps : List (List Str)}, PlsAre h vs ps → (∀ b, (.ref b) ∈ vs → ∀ o, h.get? b = some o → h'.get? b = some o) → PlsAre h' vs ps
 | [], [], _, _ => trivial
 | v :: vs, p :: ps, x, k => by
  obtain ⟨⟨b, its, rfl, ⟨o, e, r⟩, s⟩, t⟩:=x
  exact ⟨⟨b, its, rfl, ⟨o, k b List.mem_cons_self o e, r⟩, s⟩, t.mono fun c hc => k c (List.mem_cons_of_mem _ hc)⟩
 | [], _ :: _, x, _ => x.elim
 | _ :: _, [], x, _ => x.elim
theorem PlsAre.length {h : Heap} : ∀ {vs : List Value} {ps : List (List Str)}, PlsAre h vs ps → vs.length = ps.length
 | [], [], _ => rfl
 | v :: vs, p :: ps, x => by simp [PlsAre.length x.2]
 | [], _ :: _, x => x.elim
 | _ :: _, [], x => x.elim
theorem PlsAre.get {h : Heap} : ∀ {vs : List Value} {ps : List (List Str)}, PlsAre h vs ps → ∀ (i : Nat), i < vs.length → ∃ b its, vs.getD i .none = .ref b ∧ IsTup h b its.toArray ∧ StrsAre its (ps.getD i [])
 | [], [], _, i, hi => by simp at hi
 | v :: vs, p :: ps, x, i, hi => by
  obtain ⟨⟨b, its, rfl, t, s⟩, r⟩:=x
  cases i with
  | zero => exact ⟨b, its, rfl, t, s⟩
  | succ i => exact PlsAre.get r i (by simpa using hi)
 | [], _ :: _, x, _, _ => x.elim
 | _ :: _, [], x, _, _ => x.elim
section
variable {prog : Program} {w : World} {A : Around} {E : Value → Shared → Prop} {s : Shared}
end
end DL
end
section
set_option maxHeartbeats 1000000
namespace SO
open PySem PySem.W PyProof.Rows
section
variable {prog : Program} {w : World} {A : Around} {E : Value → Shared → Prop} {s : Shared}
end
end SO
namespace DL
open PySem PySem.Spec PyProof.Rows L2 PySem.W SO
section
variable {prog : Program} {w : World} {A : Around} {E : Value → Shared → Prop} {s : Shared}
end
end DL
end
section
set_option maxHeartbeats 1000000
namespace DL
open PySem PySem.Spec PyProof.Rows L2 PySem.W SO
section
variable {X : Cx} {EX : EXT} {pins : List (Addr × Obj)} {σ : L2.St} {H : Hp} {s : Shared} {O : List Addr}
end
section
variable {X : Cx} {EX : EXT}
end
end DL
namespace DL
open PySem
end DL
end
section
set_option maxHeartbeats 1000000
namespace DL
open PySem PySem.Spec PyProof.Rows L2
noncomputable def Rs (xs : Array Nat) : Prop:=xs.toList.Pairwise (· < ·)
theorem Rs.lt {xs : Array Nat} (h : Rs xs) {i j : Nat} (hij : i < j) (hj : j < xs.size) : xs.getD i 0 < xs.getD j 0:=by
 have hi : i < xs.size:=by omega
 have:=List.pairwise_iff_getElem.mp h i j (by simpa using hi) (by simpa using hj) hij
 simpa [Array.getD, hi, hj] using this
theorem go_spec {xs : Array Nat} (h : Rs xs) (j : Nat) : ∀ (f lo hi : Nat), hi - lo ≤ f → lo ≤ hi → hi ≤ xs.size → (∀ k, k < lo → xs.getD k 0 < j) → (∀ k, hi ≤ k → k < xs.size → j ≤ xs.getD k 0) →
  SetTable.below.go xs j f lo hi ≤ xs.size ∧ (∀ k, k < SetTable.below.go xs j f lo hi → xs.getD k 0 < j) ∧ ∀ k, SetTable.below.go xs j f lo hi ≤ k → k < xs.size → j ≤ xs.getD k 0
 | 0, lo, hi, hf, hlh, hs, h1, h2 => by
  have : lo = hi:=by omega
  subst this
  unfold SetTable.below.go
  exact ⟨hs, h1, h2⟩
 | f + 1, lo, hi, hf, hlh, hs, h1, h2 => by
  unfold SetTable.below.go
  by_cases hc : lo < hi
  ·rw [if_pos hc]
   have hm1 : lo ≤ (lo + hi) / 2:=by omega
   have hm2 : (lo + hi) / 2 < hi:=by omega
   have hms : (lo + hi) / 2 < xs.size:=by omega
   have eD : xs.getD ((lo + hi) / 2) j = xs.getD ((lo + hi) / 2) 0:=by simp [Array.getD, hms]
   dsimp only
   rw [eD]
   by_cases hd : xs.getD ((lo + hi) / 2) 0 < j
   ·rw [if_pos hd]
    refine go_spec h j f _ hi (by omega) (by omega) hs (fun k hk => ?_) h2
    by_cases e : k = (lo + hi) / 2
    ·rw [e]; exact hd
    ·exact Nat.lt_trans (h.lt (by omega) hms) hd
   ·rw [if_neg hd]
    refine go_spec h j f lo _ (by omega) hm1 (by omega) h1 fun k hk hks => ?_
    by_cases e : k = (lo + hi) / 2
    ·rw [e]; omega
    ·have:=h.lt (show (lo + hi) / 2 < k by omega) hks
     omega
  ·rw [if_neg hc]
   have : lo = hi:=by omega
   subst this
   exact ⟨hs, h1, h2⟩
theorem below_spec {xs : Array Nat} (h : Rs xs) (j : Nat) : SetTable.below xs j ≤ xs.size ∧ (∀ k, k < SetTable.below xs j → xs.getD k 0 < j) ∧ ∀ k, SetTable.below xs j ≤ k → k < xs.size → j ≤ xs.getD k 0 :=
 go_spec h j xs.size 0 xs.size (by omega) (Nat.zero_le _) (Nat.le_refl _) (fun k hk => by omega) fun k hk hks => by omega
theorem below_next {xs : Array Nat} (h : Rs xs) {i : Nat} (hi : i < xs.size) : SetTable.below xs (xs.getD i 0 + 1) = i + 1:=by
 obtain ⟨a, b, c⟩:=below_spec h (xs.getD i 0 + 1)
 have h1 : ¬ SetTable.below xs (xs.getD i 0 + 1) ≤ i:=fun z => by
  have:=c i z hi
  omega
 have h2 : ¬ i + 1 < SetTable.below xs (xs.getD i 0 + 1):=fun z => by
  have h3:=b (i + 1) z
  have h4:=h.lt (show i < i + 1 by omega) (show i + 1 < xs.size by omega)
  omega
 omega
theorem below_zero {xs : Array Nat} (h : Rs xs) : SetTable.below xs 0 = 0:=by
 obtain ⟨a, b, c⟩:=below_spec h 0
 by_cases h0 : SetTable.below xs 0 = 0
 ·exact h0
 ·have:=b 0 (by omega)
  omega
noncomputable def live (t : SetTable) (j : Nat) : Prop:=t.place[SetTable.below t.place j]? = some j
theorem slot_live {t : SetTable} {j : Nat} (h : t.slot j = .empty ∨ t.slot j = .dummy) : ¬ live t j:=by
 intro hl
 unfold live at hl
 have : t.slot j = .live (SetTable.below t.place j):=by
  unfold SetTable.slot
  simp [hl]
 rw [this] at h
 rcases h with h | h <;> cases h
theorem probe_free {t : SetTable} {f : Nat → Int} {h : Int} : ∀ (n : Nat) (p : SetTable.Probe) {j : Nat} {d : Option Nat}, (∀ k, p.dummy = some k → ¬ live t k) → SetTable.probe.go t f h n p = some (.empty j d) → ¬ live t (d.getD j)
 | 0, p, j, d, _, e => by unfold SetTable.probe.go at e; cases e
 | n + 1, p, j, d, hp, e => by
  unfold SetTable.probe.go at e
  have hadv : ∀ (q : SetTable.Probe), (t.advance q).dummy = q.dummy:=fun q => by
   unfold SetTable.advance
   split <;> rfl
  cases hs : t.slot p.j with
  | empty =>
   rw [hs] at e
   cases e
   cases hd : p.dummy with
   | none => exact slot_live (.inl hs)
   | some k => exact hp k hd
  | dummy =>
   rw [hs] at e
   refine probe_free n _ (fun k hk => ?_) e
   rw [hadv] at hk
   cases hk
   exact slot_live (.inr hs)
  | live i =>
   rw [hs] at e
   dsimp only at e
   split at e
   ·cases e
   ·refine probe_free n _ (fun k hk => ?_) e
    rw [hadv] at hk
    exact hp k hk
theorem free_live {t : SetTable} {h : Int} {j : Nat} {b : Bool} (e : t.freeSlot h = some (j, b)) : ¬ live t j:=by
 unfold SetTable.freeSlot at e
 split at e
 ·rename_i j' d he
  cases e
  exact probe_free _ _ (fun k hk => by cases hk) he
 ·cases e
theorem put_rs {t : SetTable} {j : Nat} (h : Rs t.place) (hl : ¬ live t j) : Rs (t.put j).1.place:=by
 obtain ⟨a, b, c⟩:=below_spec h j
 show Rs (SetTable.insertAt t.place (SetTable.below t.place j) j)
 unfold live at hl
 generalize SetTable.below t.place j = p at *
 unfold Rs at *
 have e : (SetTable.insertAt t.place p j).toList = t.place.toList.take p ++ j :: t.place.toList.drop p:=by
  unfold SetTable.insertAt
  simp [Array.toList_extract, List.extract]
  rw [List.take_of_length_le (by simp)]
 have hsp : t.place.toList = t.place.toList.take p ++ t.place.toList.drop p:=(List.take_append_drop _ _).symm
 rw [hsp, List.pairwise_append] at h
 rw [e, List.pairwise_append]
 refine ⟨h.1, List.pairwise_cons.mpr ⟨fun x hx => ?_, h.2.1⟩, fun x hx y hy => ?_⟩
 ·obtain ⟨k, hk, rfl⟩:=List.getElem_of_mem hx
  have hk' : p + k < t.place.size:=by simp at hk; omega
  have h1:=c (p + k) (by omega) hk'
  have h2 : (t.place.toList.drop p)[k] = t.place.getD (p + k) 0:=by simp [Array.getD, hk']
  rw [h2]
  by_cases hz : k = 0
  ·subst hz
   refine Nat.lt_of_le_of_ne h1 fun z => hl ?_
   rw [Array.getElem?_eq_getElem (by omega)]
   simp only [Nat.add_zero] at z hk'
   rw [z]
   simp [Array.getD, hk']
  ·have hp0 : p < t.place.size:=by omega
   have h3:=c p (Nat.le_refl _) hp0
   have h4 : t.place.getD p 0 < t.place.getD (p + k) 0:=by
    have h5:=List.pairwise_iff_getElem.mp h.2.1 0 k (by simp; omega) hk (by omega)
    simpa [Array.getD, hk', hp0] using h5
   omega
 ·rcases List.mem_cons.mp hy with rfl | hy
  ·obtain ⟨k, hk, rfl⟩:=List.getElem_of_mem hx
   have hk1 : k < p:=by simp at hk; omega
   have hk2 : k < t.place.size:=by omega
   have:=b k hk1
   simpa [Array.getD, hk2] using this
  ·exact h.2.2 x hx y hy
theorem fm_sub {α : Type} (f : Nat → Option α) : ∀ l : List Nat, ((l.filterMap fun j => (f j).map (j, ·)).map (·.1)).Sublist l
 | [] => .slnil
 | x :: l => by
  rw [List.filterMap_cons]
  cases f x with
  | none => exact (fm_sub f l).cons x
  | some y => exact (fm_sub f l).cons₂ x
theorem laid_rs {mask finger moves : Nat} {led plain : Bool} {hs : Array Int} {t : SetTable} {o : Array Nat} (h : SetTable.laid mask finger moves led plain hs = some (t, o)) : Rs t.place:=by
 unfold SetTable.laid at h
 cases hc : SetTable.layClean mask hs with
 | none => rw [hc] at h; cases h
 | some ow =>
  rw [hc] at h
  have h':=Option.some.inj h
  cases h'
  unfold Rs
  dsimp only
  exact List.Pairwise.sublist (fm_sub _ _) List.pairwise_lt_range
end DL
end
section
set_option maxHeartbeats 1000000
namespace DL
open PySem PySem.Spec PyProof.Rows L2
theorem lay_rs {t : SetTable} {es : Array (Int × Value)} {h : Int} {x : Value} (hr : t.plain = true → Rs t.place) (hp : (layNew t es h x).2.1.plain = true) : Rs (layNew t es h x).2.1.place:=by
 have ht:=(lay_led t es h x).2 hp
 unfold layNew at hp ⊢
 cases hf : t.freeSlot h with
 | none => rw [hf] at hp; cases hp
 | some q =>
  obtain ⟨j, b⟩:=q
  rw [hf] at hp
  dsimp only at hp ⊢
  unfold SetTable.orStandIn at hp ⊢
  split
  ·exact put_rs (hr ht) (free_live hf)
  ·rename_i hc
   rw [if_neg hc] at hp
   cases hp
theorem relay_rs {t : SetTable} {es : Array (Int × Value)} {k : Nat} (hp : (relayAll t es k).2.1.plain = true) : Rs (relayAll t es k).2.1.place:=by
 unfold relayAll at hp ⊢
 cases hr : t.relaid (es.map (·.1)) k with
 | none => rw [hr] at hp; cases hp
 | some q =>
  obtain ⟨t', o⟩:=q
  rw [hr] at hp
  dsimp only at hp ⊢
  split
  ·exact laid_rs hr
  ·rename_i hc
   rw [if_neg hc] at hp
   cases hp
structure TabI (w : World) (t : SetTable) (n : Nat) : Prop where
 fits : t.fits n = true
 led : t.led = !byT w
 plain : t.plain = true → Rs t.place
section
variable (prog : Program) (w : World)
noncomputable def SetI (h : Heap) (a : Addr) (xs : List Int) : Prop :=
 ∃ o es ep t, h.get? a = some o ∧ o.ExactSet ∧ o.data = .set es ep t ∧ TabI w t es.size ∧ ElemsOf (intKind prog w) es.toList ∧ IntsAre (es.toList.map (·.2)) xs ∧ xs.Nodup ∧ es.size < scanBound
end
section
variable {prog : Program} {w : World} {A : Around} {E : Value → Shared → Prop} {s : Shared} {a : Addr}
theorem ints_mem : ∀ {vs : List Value} {xs : List Int}, IntsAre vs xs → ∀ x, x ∈ xs ↔ ∃ v ∈ vs, (intKind prog w).is x v = true
 | _, _, .nil, x => ⟨(fun h => by cases h), fun ⟨v, h, _⟩ => by cases h⟩
 | _, _, .cons y t r, x => by
  have ih:=ints_mem r x
  constructor
  ·intro h
   rcases List.mem_cons.mp h with rfl | h
   ·exact ⟨_, List.mem_cons_self, intKind_is _ _ _ _⟩
   ·obtain ⟨v, h1, h2⟩:=ih.mp h
    exact ⟨v, List.mem_cons_of_mem _ h1, h2⟩
  ·rintro ⟨v, h1, h2⟩
   rcases List.mem_cons.mp h1 with rfl | h1
   ·have e : x = y:=(intKind prog w).inj _ x y h2 (intKind_is _ _ _ _)
    rw [e]
    exact List.mem_cons_self
   ·exact List.mem_cons_of_mem _ (ih.mpr ⟨v, h1, h2⟩)
theorem ints_perm : ∀ {vs vs' : List Value}, vs.Perm vs' → ∀ {xs : List Int}, IntsAre vs xs → ∃ xs', IntsAre vs' xs' ∧ xs.Perm xs':=by
 intro vs vs' p
 induction p with
 | nil => intro xs h; exact ⟨xs, h, .refl _⟩
 | cons v _ ih =>
  intro xs h
  cases h with
  | cons x t r =>
   obtain ⟨xs', h1, h2⟩:=ih r
   exact ⟨x :: xs', .cons x t h1, h2.cons x⟩
 | swap u v l =>
  intro xs h
  cases h with
  | cons x t r =>
   cases r with
   | cons y t' r' => exact ⟨y :: x :: _, .cons y t' (.cons x t r'), .swap y x _⟩
 | trans _ _ ih1 ih2 =>
  intro xs h
  obtain ⟨ys, h1, h2⟩:=ih1 h
  obtain ⟨zs, h3, h4⟩:=ih2 h1
  exact ⟨zs, h3, h2.trans h4⟩
theorem ints_snoc : ∀ {vs : List Value} {xs : List Int}, IntsAre vs xs → ∀ (x : Int) (t : Tok), IntsAre (vs ++ [.int x t]) (xs ++ [x])
 | _, _, .nil, x, t => .cons x t .nil
 | _, _, .cons y u r, x, t => .cons y u (ints_snoc r x t)
theorem add_storeI {es es1 : Array (Int × Value)} {ep : Nat} {t t2 : SetTable} {o : Obj} {xs1 : List Int} {wd : Bool} {g : Bool → Sem Unit} {R : Option Bool → Shared → Prop} (hg : ∀ (b : Bool) (s₁ : Shared) (Q' : Unit → Shared → Prop), Q' () s₁ → wpAny (model prog w) A (g b) Q' E s₁)
  (ho : s.heap.get? a = some o) (hx : o.ExactSet) (hd : o.data = .set es ep t) (hb : es1.size < scanBound) (hT : TabI w t2 es1.size) (hel : ElemsOf (intKind prog w) es1.toList) (hs : IntsAre (es1.toList.map (·.2)) xs1) (hn : xs1.Nodup)
  (h : ∀ h' xs', Heap.SameBut a s.heap h' → SetI prog w h' a xs' → xs1.Perm xs' → R (some true) { s with heap:=h' }) :
  wpAny (model prog w) A (do
    storeSet a es1 t2
    if (!wd && t2.tooFull) = true then do
      g (relayAll t2 es1 (SetTable.grown es1.size)).2.2
      storeSet a (relayAll t2 es1 (SetTable.grown es1.size)).1 (relayAll t2 es1 (SetTable.grown es1.size)).2.1
      pure (some true)
     else pure (some true)) R E s:=by
 refine wpAny_bind (wpAny_storeSet_of ho hd ?_ (fits_of_scanBound hb))
 have o1 : (s.heap.update a (Obj.putSet es1 t2)).get? a = some { o with data:=.set es1 (ep + 1) t2 }:=by
  have q:=Heap.get?_update_self (Obj.putSet es1 t2) ho (by rw [putSet_of es1 t2 hd]; rfl)
  rwa [putSet_of es1 t2 hd] at q
 have b1:=Heap.SameBut.update s.heap a (Obj.putSet es1 t2)
 by_cases hc : (!wd && t2.tooFull) = true
 ·rw [if_pos hc]
  have hp:=relayAll_perm t2 es1 (SetTable.grown es1.size)
  have hf:=relayAll_fits t2 es1 (SetTable.grown es1.size)
  have hl:=relay_led t2 es1 (SetTable.grown es1.size)
  have hrs:=relay_rs (t:=t2) (es:=es1) (k:=SetTable.grown es1.size)
  generalize relayAll t2 es1 (SetTable.grown es1.size) = Rl at hp hf hl hrs ⊢
  obtain ⟨es2, t3, gv⟩:=Rl
  dsimp only at hp hf hl hrs ⊢
  have hz : es2.size = es1.size:=by simpa using hp.length_eq
  obtain ⟨xs2, hs2, hpx⟩:=ints_perm (hp.map (·.2)).symm hs
  refine wpAny_bind (hg _ _ _ (wpAny_bind (wpAny_storeSet_of (s:={ s with heap:=s.heap.update a (Obj.putSet es1 t2) }) o1 rfl ?_ (fits_of_scanBound (by rw [hz]; exact hb)))))
  have o2 : ((s.heap.update a (Obj.putSet es1 t2)).update a (Obj.putSet es2 t3)).get? a = some { o with data:=.set es2 (ep + 1 + 1) t3 }:=by
   have q:=Heap.get?_update_self (Obj.putSet es2 t3) o1 (by rw [putSet_of es2 t3 rfl]; rfl)
   rwa [putSet_of es2 t3 rfl] at q
  exact wpAny_pure (h _ xs2 (b1.trans (Heap.SameBut.update _ a _)) ⟨_, es2, _, t3, o2, hx, rfl, ⟨hf, by rw [hl.1]; exact hT.led, hrs⟩, hel.perm hp, hs2, hpx.nodup_iff.mp hn, by rw [hz]; exact hb⟩ hpx)
 ·rw [if_neg hc]
  exact wpAny_pure (h _ xs1 b1 ⟨_, es1, _, t2, o1, hx, rfl, hT, hel, hs, hn, hb⟩ (.refl _))
theorem add_int {x : Int} {tk : Tok} {xs : List Int} {Q : Bool → Shared → Prop} (hS : SetI prog w s.heap a xs) (hr : xs.length + 1 < scanBound)
  (h : ∀ h' xs' b, Heap.SameBut a s.heap h' → SetI prog w h' a xs' → (∀ y, y ∈ xs' ↔ y ∈ xs ∨ y = x) → xs'.length ≤ xs.length + 1 → Q b { s with heap:=h' }) :
  wpAny (model prog w) A (setAddHashed a (.int x tk) ((intKind prog w).hash x)) Q E s:=by
 obtain ⟨o, es, ep, t, ho, hx, hd, hT, hel, hs, hn, hb⟩:=id hS
 have hsz : es.size = xs.length:=by
  have:=hs.length
  simpa using this
 have hkey : (intKind prog w).is x (.int x tk) = true:=intKind_is _ _ _ _
 have hsc : (Value.int x tk).scannable = true:=rfl
 unfold setAddHashed setAddHashedIn
 refine wpAny_holding (wpAny_bind (wpAny_setState_of ho hd hT.fits ?_))
 dsimp only
 rw [byScan_of (knd:=intKind prog w) hsc hb hel, if_pos rfl]
 unfold setAddByScan
 refine wpAny_bind (wpAny_bind (wpAny_rule (wpAny_bind (wpAny_setScan_of (knd:=intKind prog w) hkey ho hd hT.fits hel ?_))))
 cases hf : es.toList.findIdx? (fun e => (intKind prog w).is x e.2) with
 | some j =>
  dsimp only
  obtain ⟨hj, hp, _⟩:=List.findIdx?_eq_some_iff_getElem.mp hf
  have hm : x ∈ xs:=(ints_mem hs x).mpr ⟨_, List.mem_map.mpr ⟨_, List.getElem_mem hj, rfl⟩, hp⟩
  refine wpAny_pure (wpAny_pure ?_)
  have e : s = { s with heap:=s.heap }:=by cases s; rfl
  rw [e]
  exact h s.heap xs false (Heap.SameBut.refl a s.heap) hS (fun y => ⟨.inl, fun z => z.elim id fun z => z ▸ hm⟩) (Nat.le_succ _)
 | none =>
  dsimp only
  have hm : x ∉ xs:=fun hm => by
   obtain ⟨v, hv, q⟩:=(ints_mem (prog:=prog) (w:=w) hs x).mp hm
   obtain ⟨e, he, rfl⟩:=List.mem_map.mp hv
   have:=List.findIdx?_eq_none_iff.mp hf e he
   rw [q] at this
   cases this
  have hg : ∀ (b : Bool) {s₁ : Shared} {Q' : Unit → Shared → Prop}, Q' () s₁ → wpAny (model prog w) A (match b with | true => rule "set.scan.the-table-gave-way" | false => pure ()) Q' E s₁ := by
   intro b s₁ Q' hq
   cases b
   ·exact wpAny_pure hq
   ·exact wpAny_rule hq
  have hp:=layNew_perm t es ((intKind prog w).hash x) (.int x tk)
  have hfit:=layNew_fits t es ((intKind prog w).hash x) (.int x tk)
  have hl:=lay_led t es ((intKind prog w).hash x) (.int x tk)
  have hrs:=lay_rs (t:=t) (es:=es) (h:=(intKind prog w).hash x) (x:=.int x tk) hT.plain
  generalize layNew t es ((intKind prog w).hash x) (.int x tk) = Ln at hp hfit hl hrs ⊢
  obtain ⟨es1, t1, wd, gv⟩:=Ln
  dsimp only at hp hfit hl hrs ⊢
  rw [Array.toList_push] at hp
  have hz : es1.size = es.size + 1:=by simpa using hp.length_eq
  have hel1 : ElemsOf (intKind prog w) es1.toList:=(hel.push hkey hsc).perm hp
  have hs0 : IntsAre ((es.toList ++ [((intKind prog w).hash x, Value.int x tk)]).map (·.2)) (xs ++ [x]):=by
   rw [List.map_append]
   exact ints_snoc hs x tk
  obtain ⟨xs1, hs1, hpx⟩:=ints_perm (hp.map (·.2)).symm hs0
  have hn1 : xs1.Nodup:=hpx.nodup_iff.mp (List.nodup_append.mpr ⟨hn, by simp, fun u hu v hv => by
   rw [List.mem_singleton.mp hv]
   rintro rfl
   exact hm hu⟩)
  have fin : ∀ h' xs', Heap.SameBut a s.heap h' → SetI prog w h' a xs' → xs1.Perm xs' → Q true { s with heap:=h' }:=fun h' xs' b1 b2 b3 => h h' xs' true b1 b2 (fun y => by
   rw [← (hpx.trans b3).mem_iff]
   simp) (by rw [← (hpx.trans b3).length_eq]; simp)
  refine wpAny_bind (hg _ ?_)
  by_cases hpl : t1.plain = true
  ·rw [if_pos hpl, hashByValue_scannable 8 hsc]
   refine wpAny_bind (wpAny_pure ?_)
   refine add_storeI (t2:=if plainKind (Value.int x tk) = true then t1 else { t1 with plain:=false }) (fun b s₁ Q' hq => by cases b <;> first | exact wpAny_pure hq | exact wpAny_rule hq) ho hx hd (by omega) ?_ hel1 hs1 hn1 fun h' xs' b1 b2 b3 => wpAny_pure (fin h' xs' b1 b2 b3)
   rw [if_pos (show plainKind (Value.int x tk) = true from rfl)]
   exact ⟨hfit, by rw [← hT.led]; exact hl.1, hrs⟩
  ·rw [if_neg hpl]
   refine wpAny_bind (wpAny_pure ?_)
   simp only [if_true]
   exact add_storeI (fun b s₁ Q' hq => by cases b <;> first | exact wpAny_pure hq | exact wpAny_rule hq) ho hx hd (by omega) ⟨hfit, by rw [← hT.led]; exact hl.1, fun z => absurd z hpl⟩ hel1 hs1 hn1 fun h' xs' b1 b2 b3 => wpAny_pure (fin h' xs' b1 b2 b3)
theorem fill_loopI {I : Addr} {fp wr : List Addr} {G : Array GenState → Array GenState → Prop} {n : Nat} {P : Nat → Value → Prop} {St : Nat → Shared → Prop} {R : Result → Shared → Prop} (W : WalksS prog w A.in1 I fp wr G n P St) {a : Addr} (ha : a ∉ fp) (val : Nat → Int) (hv : ∀ i v, P i v → ∃ t, v = .int (val i) t) (hn : n + 1 < scanBound)
  : ∀ (k i : Nat) (s : Shared) (xs : List Int), n - i = k → i ≤ n → St i s → SetI prog w s.heap a xs → (∀ y, y ∈ xs ↔ ∃ j, j < i ∧ y = val j) → xs.length ≤ i →
   (∀ s' xs', Moved (a :: wr) G s s' → SetI prog w s'.heap a xs' → (∀ y, y ∈ xs' ↔ ∃ j, j < n ∧ y = val j) → R (.ok (.ret .none)) s') →
   codeAny (model prog w) A (.builtin "set.update.loop" ⟨[.ref a, .ref I], []⟩) R s := by
 have haw : a ∉ wr:=fun z => ha (W.sub _ z)
 have sub : ∀ b ∈ wr, b ∈ a :: wr:=fun b z => List.mem_cons_of_mem _ z
 have keepS : ∀ {s s' : Shared} {xs : List Int}, Moved wr G s s' → SetI prog w s.heap a xs → SetI prog w s'.heap a xs:=by
  rintro s s' xs m ⟨o, es, ep, t, ho, r⟩
  exact ⟨o, es, ep, t, m.heap a o haw ho, r⟩
 intro k
 induction k with
 | zero =>
  intro i s xs hk hi hst hS hm _ hR
  obtain rfl : i = n:=by omega
  refine codeAny_builtin PyProof.Rows.F.entry_set_update_loop ?_
  rw [Around.under_plainId PyProof.Rows.F.plain_set_update_loop _]
  show wpAny _ A.in1 (pyNext (.ref I) >>= _) _ _ s
  exact wpAny_bind (W.done s _ _ hst fun s' m => wpAny_pure (hR s' xs (m.mono sub) (keepS m hS) hm))
 | succ k ih =>
  intro i s xs hk hi hst hS hm hl hR
  have hlt : i < n:=by omega
  refine codeAny_builtin PyProof.Rows.F.entry_set_update_loop ?_
  rw [Around.under_plainId PyProof.Rows.F.plain_set_update_loop _]
  show wpAny _ A.in1 (pyNext (.ref I) >>= _) _ _ s
  refine wpAny_bind (W.item i s _ _ hlt hst fun v s1 hP hst1 m1 => ?_)
  obtain ⟨t, rfl⟩:=hv i v hP
  show wpAny _ A.in1 (holding [Value.int (val i) t] (setAdd a (.int (val i) t)) >>= _) _ _ s1
  refine wpAny_bind (wpAny_holding ?_)
  unfold setAdd
  refine wpAny_holding (wpAny_bind ((intKind prog w).pyHash (k:=val i) (intKind_is _ _ _ _) ?_))
  refine add_int (s:={ s1 with toks:=s1.toks + 1 }) (show SetI prog w s1.heap a xs from keepS m1 hS) (by omega) fun h' xs' _ b1 b2 b3 b4 => ?_
  refine wpAny_pure ⟨plainId_quiet PyProof.Rows.F.plain_set_update_loop _, ih (i + 1) _ xs' (by omega) hlt (W.frame _ s1 _ _ hst1 (Nat.le_succ _) fun b hb o e => ?_) b2 (fun y => ?_) (by omega) fun s2 xs2 m2 c1 c2 => ?_⟩
  ·rw [b1.2 b fun z => ha (by rw [← z]; exact hb)]
   exact e
  ·rw [b3, hm]
   constructor
   ·rintro (⟨j, h1, h2⟩ | h)
    ·exact ⟨j, by omega, h2⟩
    ·exact ⟨i, by omega, h⟩
   ·rintro ⟨j, h1, h2⟩
    by_cases hj : j < i
    ·exact .inl ⟨j, hj, h2⟩
    ·have : j = i:=by omega
     exact .inr (by rw [h2, this])
  ·refine hR s2 xs2 (Moved.trans W.gtrans ((m1.mono sub).then_heap (Nat.le_succ _) fun b o hb e => ?_) m2) c1 c2
   rw [b1.2 b fun z => hb (by rw [z]; exact List.mem_cons_self)]
   exact e
end
end DL
end
section
namespace DL
open PySem PySem.Spec PyProof.Rows L2
section
variable {prog : Program} {w : World} {A : Around} {E : Value → Shared → Prop} {s : Shared} {a : Addr}
set_option maxHeartbeats 3200000 in
theorem call_setI {l : Addr} {items : Array Value} {ss : List Int} {Q : Value → Shared → Prop} (hh : A.handled = none) (hl : s.heap.IsList l items) (hi : IntsAre items.toList ss) (hb : items.size + 1 < scanBound)
  (h : ∀ (h' : Heap) (tk : Nat) (xs : List Int), SetI prog w h' s.heap.objs.size xs → (∀ y, y ∈ xs ↔ y ∈ ss) → (∀ b o, b < s.heap.objs.size → s.heap.get? b = some o → h'.get? b = some o) → Q (.ref s.heap.objs.size) { s with heap:=h', toks:=tk }) :
  wpAny (model prog w) A (call (.type "set") [.ref l]) Q E s := by
 obtain ⟨c, tl, hmro⟩:=PySem.F.called_set.mro
 have hmade:=PySem.F.called_set.made
 have hsub:=PySem.F.called_set.sub
 have h1:=PySem.F.called_set.notType
 have h2:=PySem.F.called_set.canCreate
 have hct:=PySem.F.typeCall_set_1 (.ref l)
 obtain ⟨O, hO⟩ : ∃ O : Obj, O = { cls := .type "set", dict := none, data := .set #[] 0 (.fresh 0 0 (!byT w)) } := ⟨_, rfl⟩
 have hnew : codeAny (model prog w) A.in1 (.call (.builtin "set.__new__") ⟨[.type "set", .ref l], []⟩) (wants (fun obj s1 => obj = .ref s.heap.objs.size ∧ s1 = { s with heap := s.heap.push O }) E) s := new_set (.ref l) ⟨rfl, by rw [hO]⟩
 refine wpAny_call (codeAny_of_tree ?_)
 show wpAny _ _ (callAny (.type "set") _) _ _ _
 refine wpAny_pure ⟨Code.quiet_builtin _ (by decide +kernel), codeAny_builtin PySem.F.entry_type_call ?_⟩
 rw [Around.under_plain (weight_type_call_type "set" [.ref l] []) rfl]
 repeat (any_goals (first | assumption | wp_step))
 refine codeAny_mono hnew fun r s1 hr => ?_
 cases r with
 | error e => exact hr
 | ok fl =>
  cases fl with
  | ret obj =>
   obtain ⟨rfl, rfl⟩:=hr
   have hS : (s.heap.push O).get? s.heap.objs.size = some O:=Heap.get?_push_size _ (by rw [hO]; rfl)
   have hT : Shared.TypeIs { s with heap := s.heap.push O } (.ref s.heap.objs.size) "set" := ⟨_, hS, by rw [hO]⟩
   have hli:=PySem.F.called_set.init.lookup
   have hbi:=PySem.F.called_set.init.bind (.ref s.heap.objs.size)
   repeat (any_goals (first | assumption | wp_step))
   have hbody : wpAny (model prog w) A.in1.in1 (Builtin.«set.__init__» ⟨[.ref s.heap.objs.size, .ref l], []⟩) (fun fin s' => match fin with
     | .done f => wants (fun r s2 => r = .none ∧ ∃ h' tk xs, s2 = { s with heap:=h', toks:=tk } ∧ SetI prog w h' s.heap.objs.size xs ∧ (∀ y, y ∈ xs ↔ y ∈ ss) ∧ ∀ b o, b < s.heap.objs.size → s.heap.get? b = some o → h'.get? b = some o) E (.ok f) s'
     | .again c' => c'.quiet = true ∧ codeAny (model prog w) A.in1 c' (wants (fun r s2 => r = .none ∧ ∃ h' tk xs, s2 = { s with heap:=h', toks:=tk } ∧ SetI prog w h' s.heap.objs.size xs ∧ (∀ y, y ∈ xs ↔ y ∈ ss) ∧ ∀ b o, b < s.heap.objs.size → s.heap.get? b = some o → h'.get? b = some o) E) s')
     (fun e s' => wants (fun r s2 => r = .none ∧ ∃ h' tk xs, s2 = { s with heap:=h', toks:=tk } ∧ SetI prog w h' s.heap.objs.size xs ∧ (∀ y, y ∈ xs ↔ y ∈ ss) ∧ ∀ b o, b < s.heap.objs.size → s.heap.get? b = some o → h'.get? b = some o) E (.error e) s') { s with heap:=s.heap.push O }:=by
    obtain ⟨ol, hol, hcl, nl, hdl⟩:=hl
    obtain ⟨ocls, odict, odata, oslots⟩:=ol
    simp only at hcl hdl
    subst hcl hdl hO
    obtain ⟨H1, hH1⟩ : ∃ H1, H1 = s.heap.push { cls := .type "set", dict := none, data := .set #[] 0 (.fresh 0 0 (!byT w)) } := ⟨_, rfl⟩
    rw [← hH1] at hS hT ⊢
    have hsz1 : H1.objs.size = s.heap.objs.size + 1:=by rw [hH1, Heap.size_push]
    have hlS : l < s.heap.objs.size:=Heap.lt_size hol
    have hol' : H1.get? l = some { cls := .type "list", dict := odict, data := .seq items nl, slots := oslots } := by rw [hH1]; exact Heap.get?_push_of_some _ hol
    have hl1 : H1.IsList l items:=⟨_, hol', rfl, nl, rfl⟩
    have hk1 : ∀ b o, s.heap.get? b = some o → H1.get? b = some o:=fun b o e => by rw [hH1]; exact Heap.get?_push_of_some _ e
    have hsls:=PySem.F.sub_list_set
    have hslf:=PySem.F.sub_list_frozenset
    have hne : (Value.type "list" == Value.type "dict") = false := by decide
    unfold Builtin.«set.__init__» noKeywords Builtin.Frozenset.updateFrom
    generalize hPI : pyIter = PI
    wp_walk
    subst hPI
    refine wpAny_pyIter_list hl1 (wpAny_bind (wpAny_runValue ?_))
    have hh3 : A.in1.in1.in1.handled = none:=by simp [hh]
    have hI : l ≠ H1.objs.size:=Nat.ne_of_lt (by rw [hsz1]; exact Nat.lt_succ_of_lt hlS)
    have hf : s.heap.objs.size ∉ [H1.objs.size, l]:=by
     simp only [List.mem_cons, List.not_mem_nil, or_false, not_or]
     exact ⟨Nat.ne_of_lt (by rw [hsz1]; exact Nat.lt_succ_self _), Nat.ne_of_gt hlS⟩
    have hv : ∀ (i : Nat) (v : Value), items[i]? = some v → ∃ t, v = .int (ss.getD i 0) t:=fun i v e => by
     obtain ⟨y, t, e1, e2⟩:=IntsAre.at hi i v (by rw [Array.getElem?_toList]; exact e)
     exact ⟨t, by rw [e1, List.getD_eq_getElem?_getD, e2]; rfl⟩
    have hlen : ss.length = items.size:=by
     have:=hi.length
     simpa using this.symm
    refine fill_loopI ((Walks.list hh3 _ l hI items).toS) hf (fun i => ss.getD i 0) hv hb (items.size - 0) 0 _ [] (by omega) (Nat.zero_le _) ⟨⟨_, Heap.get?_push_size _ rfl, rfl, rfl⟩, hl1.push _⟩ ?_ (fun y => ⟨(fun z => by cases z), fun ⟨j, z, _⟩ => by omega⟩) (Nat.le_refl _) fun s' xs m hS' hm => ?_
    ·exact ⟨_, #[], 0, _, Heap.get?_push_of_some _ hS, ⟨rfl, rfl, rfl⟩, rfl, ⟨by rfl, rfl, fun _ => List.Pairwise.nil⟩, fun e he => by simp at he, .nil, List.nodup_nil, by decide⟩
    ·obtain ⟨h', g', d', tk', os'⟩:=s'
     have eg : g' = s.gens:=m.gens
     have ed : d' = s.drawn:=m.drawn
     have eo : os' = s.os:=m.os
     subst eg ed eo
     show wpAny _ _ _ _ _ _
     refine wpAny_pure ?_
     show wpAny _ _ (ret Value.none) _ _ _
     refine wpAny_pure ⟨rfl, h', tk', xs, rfl, hS', fun y => ?_, fun b o hb' e => ?_⟩
     ·rw [hm]
      constructor
      ·rintro ⟨j, hj, rfl⟩
       rw [List.getD_eq_getElem?_getD, List.getElem?_eq_getElem (by omega)]
       exact List.getElem_mem _
      ·intro hy
       obtain ⟨j, hj, rfl⟩:=List.getElem_of_mem hy
       exact ⟨j, by omega, by rw [List.getD_eq_getElem?_getD, List.getElem?_eq_getElem hj]; rfl⟩
     ·refine m.heap b o ?_ (Heap.get?_push_of_some _ (hk1 b o e))
      simp only [List.mem_cons, List.not_mem_nil, or_false, not_or]
      exact ⟨Nat.ne_of_lt hb', Nat.ne_of_lt (by rw [hsz1]; exact Nat.lt_succ_of_lt hb')⟩
   refine codeAny_mono (codeAny_call_builtin PySem.F.called_set.init.plain PySem.F.entry_set_init (check_set_init_1 hT hbody)) fun r2 s2 hr2 => ?_
   cases r2 with
   | error e => exact hr2
   | ok fl2 =>
    cases fl2 with
    | ret r =>
     obtain ⟨rfl, h', tk, xs, rfl, g1, g2, g3⟩:=hr2
     repeat (any_goals (first | assumption | wp_step))
     exact h _ _ xs g1 g2 g3
    | _ => exact hr2.elim
  | _ => exact hr.elim
end
end DL
end
section
set_option maxHeartbeats 1000000
namespace DL
open PySem PySem.Spec PyProof.Rows L2 PySem.W SO
section
variable {prog : Program} {w : World} {A : Around} {E : Value → Shared → Prop} {s : Shared} {a : Addr}
theorem next_pl {o : Obj} {es : Array (Int × Value)} {ep : Nat} {t : SetTable} {slot i : Nat} {Q : Option (Value × Nat) → Shared → Prop} (hb : byT w = false) (ho : s.heap.get? a = some o) (hd : o.data = .set es ep t) (hT : TabI w t es.size) (h1 : ¬ (!t.plain && decide (es.size > 1)) = true)
  (h : Q (match es[SetTable.below t.place slot]?, t.place[SetTable.below t.place slot]? with | some (_, x), some j => some (x, j + 1) | _, _ => none) s) : wpAny (model prog w) A (setNext a slot i ep) Q E s:=by
 unfold setNext
 refine wpAny_bind (wpAny_setState_of ho hd hT.fits ?_)
 dsimp only
 refine wpAny_bind (byText_ok ?_)
 rw [hb]
 refine wpAny_ite_split (fun z => absurd z (by decide)) (fun _ => ?_)
 refine wpAny_ite_split (fun z => ?_) (fun _ => ?_)
 ·exact absurd z h1
 ·have hl : t.led = true:=by rw [hT.led, hb]; rfl
  refine wpAny_bind ?_
  refine wpAny_of_eq (a:=()) ?_ (wpAny_pure h)
  show (if (!t.led && !es.isEmpty) = true then unsupported "set:maker-not-led" else pure ()) = _
  rw [hl]
  rfl
theorem iter_setI {xs : List Int} {Q : Value → Shared → Prop} (hS : SetI prog w s.heap a xs)
  (h : ∀ (h' : Heap) (d : Drawn) (I : Addr) (fp : List Addr) (St : Nat → Shared → Prop) (L : List Value) (ys : List Int), (∀ b o, s.heap.get? b = some o → h'.get? b = some o) → s.heap.objs.size ≤ I → (∀ b ∈ fp, b = a ∨ s.heap.objs.size ≤ b) →
   (∀ A' : Around, A'.handled = none → WalksS prog w A' I fp [I] (fun x y => y = x) L.length (fun i v => L[i]? = some v) St) → St 0 { s with heap:=h', drawn:=d } → IntsAre L ys → ys.Perm xs → Q (.ref I) { s with heap:=h', drawn:=d }) :
  wpAny (model prog w) A (pyIter (.ref a)) Q E s:=by
 obtain ⟨o, es, ep, t, ho, hx, hd, hT, hel, hs, hn, hb⟩:=id hS
 have haS : a < s.heap.objs.size:=Heap.lt_size ho
 have hty : s.TypeIs (.ref a) "set" := ⟨_, ho, hx.1⟩
 refine wpAny_pyIter_slot hty PySem.F.slot_set_iter (wpAny_call_entry PySem.F.slot_set_iter hty SF.entryI ?_ (PySem.F.args_set_iter_1 _))
 unfold Builtin.«frozenset.__iter__»
 refine wpAny_bind (m:=Builtin.Frozenset.slot0 _ _) (wpAny_pure ?_)
 dsimp only
 unfold Builtin.Frozenset.sizeOf
 refine wpAny_bind (wpAny_bind (wpAny_setEntries_of ho hd hT.fits (wpAny_pure ?_)))
 refine wpAny_bind (m:=setDrawn a) (wpAny_bind (wpAny_setState_of ho hd hT.fits ?_))
 dsimp only
 refine wpAny_bind (byText_ok (wpAny_pure ?_))
 have hz : es.toList.length = es.size:=Array.length_toList
 refine wpAny_ite_split (fun hc => ?_) (fun hc => ?_)
 ·-- drawn
  refine wpAny_bind (draw_any es.size (List.range es.size) s (by simp) fun q d hq => ?_)
  refine wpAny_bind (wpAny_newTuple ?_ (by
   rw [List.length_map, hq.length_eq, List.length_range]
   exact fits_of_scanBound hb))
  have hqb : ∀ (i p : Nat), q[i]? = some p → p < es.size:=fun i p e => by
   have:=hq.mem_iff.mp (List.mem_of_getElem? e)
   simpa using this
  generalize hTo : ({ cls := .type "tuple", data := .seq (q.map fun (i : Nat) => rawInt (i : Int)).toArray } : Obj) = oT
  refine wpAny_bind (m:=setEpoch a) (wpAny_bind (wpAny_setState_of (s:={ s with heap:=s.heap.push oT, drawn:=d }) (Heap.get?_push_of_some _ ho) hd hT.fits (wpAny_pure ?_)))
  refine wpAny_bind (wpAny_newObj_type (wpAny_pure ⟨_, rfl, "set_iterator", _, ⟨_, Heap.get?_push_size _ rfl, rfl⟩, SF.slotN.lookup, ?_⟩))
  have hTg : (s.heap.push oT).get? s.heap.objs.size = some oT:=Heap.get?_push_size _ (by rw [← hTo]; rfl)
  have hsz : (s.heap.push oT).objs.size = s.heap.objs.size + 1:=Heap.size_push ..
  have hIT : (s.heap.push oT).objs.size ≠ s.heap.objs.size:=by omega
  have hIa : (s.heap.push oT).objs.size ≠ a:=Nat.ne_of_gt (by rw [hsz]; exact Nat.lt_succ_of_lt haS)
  have hL : (q.map fun i => ((es.toList[i]?).map (·.2)).getD .none).Perm (es.toList.map (·.2)):=by
   refine (hq.map _).trans (List.Perm.of_eq ?_)
   rw [← hz]
   exact map_getD (·.2) .none es.toList
  obtain ⟨ys, hys, hp⟩:=ints_perm hL.symm hs
  have hlen : (q.map fun i => ((es.toList[i]?).map (·.2)).getD .none).length = es.size:=by rw [List.length_map, hq.length_eq, List.length_range]
  refine h _ d _ [(s.heap.push oT).objs.size, s.heap.objs.size, a] (fun i s' => ∃ f, ItS s'.heap (s.heap.push oT).objs.size a o es.size ep f i ∧ (f = .ref s.heap.objs.size ∧ s'.heap.get? s.heap.objs.size = some oT)) _ ys (fun b o e => Heap.get?_push_of_some _ (Heap.get?_push_of_some _ e)) (show s.heap.objs.size ≤ (s.heap.push oT).objs.size by rw [hsz]; exact Nat.le_succ _) (fun b hb' => ?_) (fun A' hA' => ?_) ?_ hys hp.symm
  ·simp only [List.mem_cons, List.not_mem_nil, or_false] at hb'
   rcases hb' with rfl | rfl | rfl
   ·right; omega
   ·right; omega
   ·left; rfl
  ·rw [hlen]
   refine walks_of (F:=fun i f h' => f = .ref s.heap.objs.size ∧ h'.get? s.heap.objs.size = some oT) hA' hd hT.fits hIa (by simp) (by simp) (fun i f h1 h2 hF hk => ⟨hF.1, hk _ (by simp) (Ne.symm hIT) _ hF.2⟩) (fun i s' f hi _ hF => ?_) (fun s' f _ hF => ?_)
   ·have hiq : i < q.length:=by rw [hq.length_eq, List.length_range]; exact hi
    have e1 : q[i]? = some q[i]:=List.getElem?_eq_getElem hiq
    have e2:=hqb i _ e1
    have e3 : es.toList[q[i]]? = some (es[q[i]]):=by rw [Array.getElem?_toList, Array.getElem?_eq_getElem e2]
    refine ⟨(es[q[i]]).2, .ref s.heap.objs.size, ?_, .inr ⟨s.heap.objs.size, oT, (q.map fun (i : Nat) => rawInt (i : Int)).toArray, 0, q[i], (es[q[i]]).1, hF.1, rfl, hF.2, by rw [← hTo], ?_, ?_⟩, rfl, hF.2⟩
    ·rw [List.getElem?_map, e1]
     simp only [Option.map_some, e3, Option.getD_some]
    ·rw [List.getElem?_toArray, List.getElem?_map, e1]
     rfl
    ·rw [Array.getElem?_eq_getElem e2]
   ·refine .inr ⟨s.heap.objs.size, oT, (q.map fun (i : Nat) => rawInt (i : Int)).toArray, 0, hF.1, hF.2, by rw [← hTo], ?_⟩
    rw [List.getElem?_toArray]
    refine List.getElem?_eq_none ?_
    rw [List.length_map, hq.length_eq, List.length_range]
    exact Nat.le_refl _
  ·exact ⟨_, ⟨⟨_, Heap.get?_push_size _ rfl, rfl, rfl⟩, Heap.get?_push_of_some _ (Heap.get?_push_of_some _ ho)⟩, rfl, Heap.get?_push_of_some _ hTg⟩
 ·-- by its places
  have hc' : ¬ (!byT w && (!t.plain && decide (es.size > 1))) = true:=hc
  refine wpAny_bind (wpAny_pure ?_)
  refine wpAny_bind (m:=setEpoch a) (wpAny_bind (wpAny_setState_of ho hd hT.fits (wpAny_pure ?_)))
  refine wpAny_bind (wpAny_newObj_type (wpAny_pure ⟨_, rfl, "set_iterator", _, ⟨_, Heap.get?_push_size _ rfl, rfl⟩, SF.slotN.lookup, ?_⟩))
  have hIa : s.heap.objs.size ≠ a:=Nat.ne_of_gt haS
  have hfp : ∀ b ∈ [s.heap.objs.size, a], b = a ∨ s.heap.objs.size ≤ b:=fun b hb' => by
   simp only [List.mem_cons, List.not_mem_nil, or_false] at hb'
   rcases hb' with rfl | rfl
   ·right; omega
   ·left; rfl
  generalize hIo : ({ cls := .type "set_iterator", data := .fields [rawInt 0, rawInt 0, Value.ref a, rawInt (es.size : Int), rawInt (ep : Int)].toArray } : Obj) = oI
  have hIg : (s.heap.push oI).get? s.heap.objs.size = some oI:=Heap.get?_push_size _ (by rw [← hIo]; rfl)
  have X0 : ItS (s.heap.push oI) s.heap.objs.size a o es.size ep (.int 0 0) 0:=⟨⟨_, hIg, by rw [← hIo], by rw [← hIo]; rfl⟩, Heap.get?_push_of_some _ ho⟩
  have es0 : ∀ {h' : Heap}, ({ s with heap:=h' } : Shared) = { s with heap:=h', drawn:=s.drawn }:=fun {h'} => by cases s; rfl
  rw [es0]
  by_cases hbt : byT w = true
  ·have hL : ((pickOrder (w.params.setOrder a ep) es).toList.map (·.2)).Perm (es.toList.map (·.2)):=(pick_all _ es).map _
   obtain ⟨ys, hys, hp⟩:=ints_perm hL.symm hs
   have hlen : ((pickOrder (w.params.setOrder a ep) es).toList.map (·.2)).length = es.size:=by rw [hL.length_eq, List.length_map, hz]
   have hpl : (pickOrder (w.params.setOrder a ep) es).size = es.size:=by simpa using hlen
   refine h _ s.drawn _ [s.heap.objs.size, a] (fun i s' => ∃ f, ItS s'.heap s.heap.objs.size a o es.size ep f i ∧ f = .int 0 0) _ ys (fun b o e => Heap.get?_push_of_some _ e) (Nat.le_refl _) hfp (fun A' hA' => ?_) ⟨_, X0, rfl⟩ hys hp.symm
   rw [hlen]
   refine walks_of (F:=fun i f h' => f = .int 0 0) hA' hd hT.fits hIa (by simp) (by simp) (fun i f h1 h2 hF hk => hF) (fun i s' f hi ho' hF => ?_) (fun s' f ho' hF => ?_)
   ·have hi' : i < (pickOrder (w.params.setOrder a ep) es).size:=by omega
    refine ⟨((pickOrder (w.params.setOrder a ep) es)[i]).2, .int 0 0, ?_, .inl ⟨0, 0, hF, rfl, fun A E Q hQ => next_byT hbt ho' hd hT.fits ?_⟩, rfl⟩
    ·rw [List.getElem?_map, Array.getElem?_toList, Array.getElem?_eq_getElem hi']; rfl
    ·rw [Array.getElem?_eq_getElem hi']; exact hQ
   ·refine .inl ⟨0, hF, fun A E Q hQ => next_byT hbt ho' hd hT.fits ?_⟩
    rw [Array.getElem?_eq_none (by omega)]
    exact hQ
  ·have hbf : byT w = false:=by simpa using hbt
   have h1 : ¬ (!t.plain && decide (es.size > 1)) = true:=fun z => hc' (by rw [hbf, z]; rfl)
   have hpl : t.place.size = es.size:=by
    have:=hT.fits
    unfold SetTable.fits at this
    rw [Bool.and_eq_true] at this
    exact eq_of_beq this.1
   have hrs : Rs t.place:=by
    by_cases hp : t.plain = true
    ·exact hT.plain hp
    ·have hz1 : es.size ≤ 1:=by
      rw [Bool.not_eq_true] at hp
      rw [hp] at h1
      simp at h1
      omega
     unfold Rs
     have hl1 : t.place.toList.length ≤ 1:=by rw [Array.length_toList]; omega
     match hm : t.place.toList, hl1 with
     | [], _ => exact .nil
     | [x], _ => exact List.pairwise_singleton _ _
   have hlen : (es.toList.map (·.2)).length = es.size:=by simp
   refine h _ s.drawn _ [s.heap.objs.size, a] (fun i s' => ∃ f, ItS s'.heap s.heap.objs.size a o es.size ep f i ∧ ∃ k : Nat, f = .int k 0 ∧ SetTable.below t.place k = i) (es.toList.map (·.2)) xs (fun b o e => Heap.get?_push_of_some _ e) (Nat.le_refl _) hfp (fun A' hA' => ?_) ⟨_, X0, 0, rfl, ?_⟩ hs (.refl _)
   ·rw [hlen]
    refine walks_of (F:=fun i f h' => ∃ k : Nat, f = .int k 0 ∧ SetTable.below t.place k = i) hA' hd hT.fits hIa (by simp) (by simp) (fun i f h1 h2 hF hk => hF) (fun i s' f hi ho' hF => ?_) (fun s' f ho' hF => ?_)
    ·obtain ⟨k, rfl, hk⟩:=hF
     have hi' : i < t.place.size:=by omega
     refine ⟨(es[i]).2, .int ((t.place[i] + 1 : Nat)) 0, ?_, .inl ⟨k, t.place[i] + 1, rfl, rfl, fun A E Q hQ => next_pl hbf ho' hd hT h1 ?_⟩, _, rfl, ?_⟩
     ·rw [List.getElem?_map, Array.getElem?_toList, Array.getElem?_eq_getElem hi]; rfl
     ·rw [hk, Array.getElem?_eq_getElem hi, Array.getElem?_eq_getElem hi']; exact hQ
     ·have e2:=below_next hrs hi'
      have e3 : t.place.getD i 0 = t.place[i]:=by simp [Array.getD, hi']
      rw [e3] at e2
      exact e2
    ·obtain ⟨k, rfl, hk⟩:=hF
     refine .inl ⟨k, rfl, fun A E Q hQ => next_pl hbf ho' hd hT h1 ?_⟩
     rw [hk, Array.getElem?_eq_none (Nat.le_refl _)]
     exact hQ
   ·exact below_zero hrs
theorem SetI.kept {h h' : Heap} {xs : List Int} (x : SetI prog w h a xs) (hk : ∀ b o, h.get? b = some o → h'.get? b = some o) : SetI prog w h' a xs:=by
 obtain ⟨o, es, ep, t, ho, r⟩:=x
 exact ⟨o, es, ep, t, hk _ _ ho, r⟩
theorem SetI.typeIs {xs : List Int} (x : SetI prog w s.heap a xs) : s.TypeIs (.ref a) "set" := by
 obtain ⟨o, es, ep, t, ho, hx, _⟩:=x
 exact ⟨o, ho, hx.1⟩
theorem SetI.len {h : Heap} {xs : List Int} (x : SetI prog w h a xs) : xs.length < scanBound ∧ xs.Nodup ∧ a < h.objs.size:=by
 obtain ⟨o, es, ep, t, ho, hx, hd, hT, hel, hs, hn, hb⟩:=x
 have:=hs.length
 rw [List.length_map, Array.length_toList] at this
 exact ⟨by omega, hn, Heap.lt_size ho⟩
theorem collect_setI {xs : List Int} {R : List Value → Shared → Prop} (hh : A.handled = none) (hS : SetI prog w s.heap a xs)
  (h : ∀ (h' : Heap) (tk : Nat) (d : Drawn) (vs : List Value) (ys : List Int), (∀ b o, s.heap.get? b = some o → h'.get? b = some o) → IntsAre vs ys → ys.Perm xs → R vs { s with heap:=h', toks:=tk, drawn:=d }) :
  wpAny (model prog w) A (collect (.ref a)) R E s:=by
 unfold collect
 refine wpAny_bind (wpAny_runValue (codeAny_builtin entry_proto_collect' ?_))
 rw [Around.under_plainId PySem.F.plain_proto_collect _]
 show wpAny _ A.in1 (newList [] >>= fun l => again (.builtin "list.__iadd__" ⟨[l, .ref a], []⟩)) _ _ s
 refine wpAny_bind (wpAny_newObj_type (wpAny_pure ⟨plainId_quiet PySem.F.plain_list_iadd _, codeAny_builtin entry_list_iadd' ?_⟩))
 rw [Around.under_plainId PySem.F.plain_list_iadd _]
 show wpAny _ A.in1 (Builtin.List.listExtendWith (.ref s.heap.objs.size) (.ref a) (.ref s.heap.objs.size)) _ _ _
 generalize hoL : ({ cls := .type "list", data := .seq ([] : List Value).toArray } : Obj) = oL
 have hL : (s.heap.push oL).get? s.heap.objs.size = some { cls := .type "list", data := .seq #[] } := by rw [Heap.get?_push_size _ (by rw [← hoL]; rfl), ← hoL]
 have k0 : ∀ b o, s.heap.get? b = some o → (s.heap.push oL).get? b = some o:=fun b o e => Heap.get?_push_of_some _ e
 have hsz : (s.heap.push oL).objs.size = s.heap.objs.size + 1:=Heap.size_push ..
 have haS:=hS.len.2.2
 have hS1 : SetI prog w (s.heap.push oL) a xs:=hS.kept k0
 generalize s.heap.push oL = H1 at hL k0 hsz hS1
 unfold Builtin.List.listExtendWith
 refine wpAny_bind (wpAny_typeOf (T := "set") (SetI.typeIs (s := { s with heap := H1 }) hS1) ?_)
 have h1 : Builtin.List.listSameRef (.ref s.heap.objs.size) (.ref a) = false:=by
  have : s.heap.objs.size ≠ a:=Nat.ne_of_gt haS
  simp [Builtin.List.listSameRef, this]
 refine wpAny_ite_split (fun z => ?_) (fun _ => ?_)
 ·rw [h1] at z
  exact absurd z (by decide)
 refine wpAny_bind (iter_setI (s:={ s with heap:=H1 }) hS1 fun h2 d I fp St L ys k2 hI hfp W st0 hys hp => ?_)
 refine wpAny_bind (wpAny_holding (set_hint (SetI.typeIs (s:={ s with heap:=h2, drawn:=d }) (hS1.kept k2)) ?_))
 refine wpAny_ite_split (fun _ => ?_) (fun z => absurd (by decide +kernel) z)
 refine wpAny_bind (wpAny_rule ?_)
 have hf : s.heap.objs.size ∉ fp:=fun z => by
  rcases hfp _ z with e | e
  ·rw [e] at haS; exact absurd haS (Nat.lt_irrefl _)
  ·have e' : H1.objs.size ≤ s.heap.objs.size:=e
   omega
 have hg2:=k2 _ _ hL
 refine wpAny_bind ?_
 show wpAny _ _ (updateSeq s.heap.objs.size (·.push .none) >>= fun _ => updateSeq s.heap.objs.size (·.pop)) _ _ _
 refine wpAny_bind (wpAny_updateSeq hg2 rfl ?_)
 have hg3:=Heap.get?_update_self (Obj.mapSeq (·.push Value.none)) hg2 rfl
 refine wpAny_updateSeq (hz:=by seq_fits) hg3 rfl ?_
 have hg4:=Heap.get?_update_self (Obj.mapSeq (·.pop)) hg3 rfl
 have k4 : ∀ b o, b ≠ s.heap.objs.size → h2.get? b = some o → ((h2.update s.heap.objs.size (Obj.mapSeq (·.push Value.none))).update s.heap.objs.size (Obj.mapSeq (·.pop))).get? b = some o:=fun b o hb e =>
  (Heap.get?_update_other _ _ (Ne.symm hb)).trans ((Heap.get?_update_other _ _ (Ne.symm hb)).trans e)
 refine wpAny_pure ⟨plainId_quiet PySem.F.plain_extend_loop _, ?_⟩
 have hl : L.length = xs.length:=by rw [← hp.length_eq]; exact hys.length
 have W1:=W A.in1 (by simp [hh])
 have st1:=W1.frame 0 _ ((h2.update s.heap.objs.size (Obj.mapSeq (·.push Value.none))).update s.heap.objs.size (Obj.mapSeq (·.pop))) s.toks st0 (Nat.le_refl _) fun b hb o e => k4 b o (fun z => hf (z ▸ hb)) e
 refine codeAny_extend_loopS W1 (by rw [hl]; exact fits_of_scanBound hS.len.1) s.heap.objs.size hf _ (L.length - 0) 0 _ #[] _ rfl (Nat.zero_le _) st1 hg4 (ItemsOf.nil _) fun s' acc c m hg hit => ?_
 rw [Moved.eq_with m]
 refine wpAny_bind (wpAny_load hg ?_)
 refine wpAny_pure ?_
 rw [items_list hit]
 refine h _ _ _ _ ys (fun b o e => m.heap b o ?_ (k4 b o (Nat.ne_of_lt (Heap.lt_size e)) (k2 _ _ (k0 _ _ e)))) hys hp
 have hb:=Heap.lt_size e
 have hI' : s.heap.objs.size + 1 ≤ I:=hsz ▸ hI
 simp only [List.mem_cons, List.not_mem_nil, or_false, not_or]
 exact ⟨Nat.ne_of_lt hb, Nat.ne_of_lt (Nat.lt_of_lt_of_le hb (Nat.le_of_succ_le hI'))⟩
end
end DL
end
section
set_option maxHeartbeats 1000000
namespace DL
open PySem PySem.Spec PyProof.Rows L2 PySem.W SO
noncomputable def ddZ : List Int → List Int
 | [] => []
 | x :: xs => if x ∈ ddZ xs then ddZ xs else x :: ddZ xs
theorem ddZ_mem : ∀ (xs : List Int) (y : Int), y ∈ ddZ xs ↔ y ∈ xs
 | [], y => Iff.rfl
 | x :: xs, y => by
  unfold ddZ
  split
  ·rename_i h
   rw [ddZ_mem xs y, List.mem_cons]
   exact ⟨.inr, fun z => z.elim (fun e => e ▸ (ddZ_mem xs x).mp h) id⟩
  ·rw [List.mem_cons, List.mem_cons, ddZ_mem xs y]
theorem ddZ_nodup : ∀ (xs : List Int), (ddZ xs).Nodup
 | [] => List.nodup_nil
 | x :: xs => by
  unfold ddZ
  split
  ·exact ddZ_nodup xs
  ·rename_i h
   exact List.nodup_cons.mpr ⟨h, ddZ_nodup xs⟩
theorem ddZ_len : ∀ (xs : List Int), (ddZ xs).length ≤ xs.length
 | [] => Nat.le_refl _
 | x :: xs => by
  unfold ddZ
  have:=ddZ_len xs
  split
  ·exact Nat.le_succ_of_le this
  ·exact Nat.succ_le_succ this
noncomputable def intsZ : List D → Option (List Int)
 | [] => some []
 | .int x :: ds => (intsZ ds).map (x :: ·)
 | _ :: _ => none
theorem intsZ_eq : ∀ {ds : List D} {ss : List Int}, intsZ ds = some ss → ds = ss.map D.int
 | [], ss, e => by cases e; rfl
 | d :: ds, ss, e => by
  unfold intsZ at e
  split at e
  ·rename_i h; cases h
  ·rename_i x r h
   cases h
   obtain ⟨qs, h1, rfl⟩:=Option.map_eq_some_iff.mp e
   rw [intsZ_eq h1]; rfl
  ·cases e
theorem intsZ_map : ∀ (ss : List Int), intsZ (ss.map D.int) = some ss
 | [] => rfl
 | x :: ss => by
  show (intsZ (ss.map D.int)).map (x :: ·) = _
  rw [intsZ_map ss]; rfl
theorem intsAre_of : ∀ {vs : List Value} {ss : List Int}, vs.length = ss.length → (∀ (i : Nat) (v : Value) (x : Int), vs[i]? = some v → ss[i]? = some x → ∃ t, v = .int x t) → IntsAre vs ss
 | [], [], _, _ => .nil
 | [], _ :: _, h, _ => by cases h
 | _ :: _, [], h, _ => by cases h
 | v :: vs, x :: ss, h, k => by
  obtain ⟨t, rfl⟩:=k 0 v x rfl rfl
  exact .cons x t (intsAre_of (by simpa using h) fun i v' x' h1 h2 => k (i + 1) v' x' (by simpa using h1) (by simpa using h2))
noncomputable def srtZ (ss : List Int) : List Int:=ss.mergeSort (fun a b => decide (a ≤ b))
theorem srtZ_perm (ss : List Int) : (srtZ ss).Perm ss:=List.mergeSort_perm _ _
theorem srtZ_pw (ss : List Int) : (srtZ ss).Pairwise (fun a b => decide (a ≤ b) = true):=by
 refine List.pairwise_mergeSort (fun a b c h1 h2 => ?_) (fun a b => ?_) ss
 ·simp only [decide_eq_true_eq] at *
  omega
 ·simp only [Bool.or_eq_true, decide_eq_true_eq]
  omega
theorem srtZ_uniq {ss qs : List Int} (hp : qs.Perm ss) (hw : qs.Pairwise (fun a b => decide (a < b) = true)) : qs = srtZ ss:=by
 refine List.Perm.eq_of_pairwise (le:=fun a b => decide (a ≤ b) = true) (fun a b _ _ h1 h2 => ?_) (hw.imp fun {a b} h => ?_) (srtZ_pw ss) (hp.trans (srtZ_perm ss).symm)
 ·simp only [decide_eq_true_eq] at h1 h2
  omega
 ·simp only [decide_eq_true_eq] at *
  omega
section
variable {prog : Program} {w : World} {A : Around} {E : Value → Shared → Prop} {s : Shared}
theorem int_cmp {a : Addr} {vs : List Value} {ns : List Int} (h : IntsAre vs ns) : Cmp prog w s a vs oneType' (fun i j => decide (ns.getD i 0 < ns.getD j 0)):=by
 refine ⟨fun h2 g A E Q hg hQ => ?_, fun h2 g A E Q i j hg hi hj hQ => ?_⟩
 ·match vs, h, h2 with
  | [], _, h2 => simp at h2
  | [_], _, h2 => simp at h2
  | v1 :: v2 :: vs, h, _ =>
   rw [keyKind_ints h]
   exact wpAny_pure hQ
 ·have hl:=h.length
  obtain ⟨t, h1⟩:=h.get i (ns.getD i 0) (by rw [List.getD_eq_getElem?_getD, List.getElem?_eq_getElem (by omega)]; rfl)
  obtain ⟨u, h3⟩:=h.get j (ns.getD j 0) (by rw [List.getD_eq_getElem?_getD, List.getElem?_eq_getElem (by omega)]; rfl)
  rw [List.getD_eq_getElem?_getD (l:=vs), List.getD_eq_getElem?_getD (l:=vs), h1, h3, keyLt'_oneType]
  exact oneLt_int hQ
theorem int_ord {ns : List Int} (hn : ns.Nodup) : Ord ns.length (fun i j => decide (ns.getD i 0 < ns.getD j 0)):=by
 have apart : ∀ i j, i < ns.length → j < ns.length → i ≠ j → ns.getD i 0 ≠ ns.getD j 0:=fun i j hi hj ne e => by
  rw [List.getD_eq_getElem?_getD, List.getD_eq_getElem?_getD, List.getElem?_eq_getElem hi, List.getElem?_eq_getElem hj] at e
  exact ne ((List.getElem_inj hn).mp e)
 refine ⟨fun i j hi hj ne h => ?_, fun i j hi hj h => ?_, fun i j k hi hj hk h1 h2 => ?_⟩
 ·have ha:=apart i j hi hj ne
  simp only [decide_eq_true_eq, decide_eq_false_iff_not] at *
  omega
 ·simp only [decide_eq_true_eq, decide_eq_false_iff_not] at *
  omega
 ·simp only [decide_eq_true_eq] at *
  omega
end
noncomputable def setIF : List D → Sto → Out (List D)
 | [d], st => match seqL st d with
  | some xs => match intsZ xs with
   | some ss => if ss.length < 64 then .ok ((srtZ (ddZ ss)).map D.int) st else .bad
   | none => .bad
  | none => .bad
 | _, _ => .bad
section
variable {X : Cx} {EX : EXT}
theorem int_new {pins : List (Addr × Obj)} {s : Shared} {σ : L2.St} {H : Hp} {O : List Addr} {st : Sto} {Q : VK} {its : List Value} {ss : List Int} {ix : List Nat} {a : Addr} {h1 h' : Heap} {tk c : Nat} (I : Inv X pins σ H s) (W : WR X.K O H st) (hs : IntsAre its ss)
  (R : Run X.K EX O H (.ok ((srtZ ss).map D.int) st) (New X.K Q)) (hp : ix.Perm (List.range ss.length)) (hw : ix.Pairwise (fun i j => decide (ss.getD i 0 < ss.getD j 0) = true)) (h64 : ss.length < 64)
  (k1 : ∀ b o, s.heap.get? b = some o → h1.get? b = some o) (ha : h1.objs.size ≤ a) (hk : ∀ b o, h1.get? b = some o → h'.get? b = some o) (hg : h'.get? a = some (seqObj "list" (ix.map fun i => its.getD i .none).toArray c)) :
  ∃ v H', Inv X pins σ H' { s with heap:=h', toks:=tk } ∧ RelV v (.ref a) ∧ Q v H':=by
 have hl:=hs.length
 have hix : ix.map (fun i => ss.getD i 0) = srtZ ss:=by
  refine srtZ_uniq ?_ (List.pairwise_map.mpr hw)
  refine (hp.map (fun i => ss.getD i 0)).trans (List.Perm.of_eq ?_)
  refine List.ext_getElem (by simp) fun i h1 h2 => ?_
  simp [List.getD_eq_getElem?_getD, List.getElem?_eq_getElem h2]
 have hb : ∀ i ∈ ix, i < ss.length:=fun i hi => by
  have:=hp.mem_iff.mp hi
  simpa using this
 have I1 : Inv X pins σ H { s with heap:=h1, toks:=tk }:=I.kept k1
 refine ⟨.ref a, upd H a (.lst (ix.map fun i => V.int (ss.getD i 0))), I1.laid hk ha ⟨?_, ix.map (fun i => its.getD i .none), c, ?_, hg⟩, rfl, ?_⟩
 ·have h0:=hp.length_eq
  simp only [List.length_map, List.length_range] at h0 ⊢
  rw [sizeLine_eq]
  omega
 ·refine vals_map ix fun i hi => ?_
  have:=hb i hi
  obtain ⟨t, h3⟩:=hs.get i (ss.getD i 0) (by rw [List.getD_eq_getElem?_getD, List.getElem?_eq_getElem this]; rfl)
  rw [List.getD_eq_getElem?_getD (l:=its), h3]
  exact ⟨t, rfl⟩
 ·refine Run.now (k:=New X.K Q) R W a _ ?_ (I1.hok.fresh ha)
  rw [← hix, List.map_map]
  exact reps_map ix fun i hi => Rep.int_i.mpr rfl
end
section
variable {prog : Program} {w : World} {A : Around} {E : Value → Shared → Prop} {s : Shared} {a : Addr}
theorem sorted_setI {xs : List Int} {Q : Value → Shared → Prop} (hh : A.handled = none) (hS : SetI prog w s.heap a xs) (h64 : xs.length < 64)
  (k : ∀ vs ys, IntsAre vs ys → ys.Perm xs → ∀ p : List Nat, p.Perm (List.range ys.length) → p.Pairwise (fun i j => decide (ys.getD i 0 < ys.getD j 0) = true) → ∀ (h1 : Heap) b (h' : Heap) tk d c, (∀ b o, s.heap.get? b = some o → h1.get? b = some o) → h1.objs.size ≤ b → (∀ b o, h1.get? b = some o → h'.get? b = some o) →
   h'.get? b = some (seqObj "list" (p.map fun i => vs.getD i .none).toArray c) → Q (.ref b) { s with heap := h', toks := tk, drawn := d }) :
  wpAny (model prog w) A (call (.builtin "sorted") [.ref a]) Q E s := by
 refine Calls.call_function_entry kind_sorted plain_sorted entry_sorted (args_sorted1 _) ?_
 unfold Builtin.«sorted»
 refine wpAny_bind (m := checkCount "sorted" 1 1 _) (wpAny_pure ?_)
 refine wpAny_bind (collect_setI (by simp [hh]) hS fun h1 tk d vs ys k1 hys hp => ?_)
 have hl : vs.length = ys.length:=hys.length
 have hl2 : ys.length = xs.length:=hp.length_eq
 refine wpAny_bind (wpAny_newList ?_ (by rw [sizeLine_eq]; omega))
 have hoL : (h1.push (seqObj "list" vs.toArray 0)).get? h1.objs.size = some (seqObj "list" vs.toArray 0) := Heap.get?_push_size _ rfl
 have keep : ∀ b o, h1.get? b = some o → (h1.push (seqObj "list" vs.toArray 0)).get? b = some o := fun b o q => Heap.get?_push_of_some _ q
 show wpAny _ _ _ _ _ { s with heap := h1.push (seqObj "list" vs.toArray 0), toks := tk, drawn := d }
 generalize h1.push (seqObj "list" vs.toArray 0) = g at hoL keep
 refine wpAny_bind (wpAny_holding (wpAny_call_entry slot_list_sort ⟨_, hoL, rfl⟩ entry_list_sort ?body (args_list_sort _)))
 case body =>
  refine list_sort_keep (s:={ s with heap:=g, toks:=tk, drawn:=d }) (κ:=oneType') (lt:=fun i j => decide (ys.getD i 0 < ys.getD j 0)) hoL (by omega) (int_cmp hys) (by rw [hl]; exact int_ord (hp.nodup_iff.mpr hS.len.2.1)) fun p hp' hpw h' c hb hc => ?_
  refine ⟨_, rfl, wpAny_pure ⟨_, rfl, ?_⟩⟩
  rw [hl] at hp'
  exact k vs ys hys hp p hp' hpw h1 _ h' tk d c k1 (Nat.le_refl _) (fun b o e => hb b o (Nat.ne_of_lt (Heap.lt_size e)) (keep b o e)) hc
end
section
variable {X : Cx} {EX : EXT} {pins : List (Addr × Obj)} {σ : L2.St} {H : Hp} {s : Shared}
theorem pdf_sortSetI {e : Expr} {x y : Str} {p q pos pos2 : Pos} {f : DA} (hcalm : X.calm = true) (hg : Gl X x) (hm : X.mg x = none) (hv : bootBuiltins x = some (.builtin "sorted")) (hg2 : Gl X y) (hm2 : X.mg y = none) (hv2 : bootBuiltins y = some (.type "set")) (ha : PDA X EX [e] f)
  (hn : x ≠ "__name__" := by decide) (hdb : (x == ("__debug__" : Str)) = false := by decide) (hn2 : y ≠ "__name__" := by decide) (hdb2 : (y == ("__debug__" : Str)) = false := by decide)
  (he : starEach [e] X.env = (false, eval e X.env) :: starEach [] X.env:=by rfl) : PDF X EX (.Call (.Name x p) [.Call (.Name y q) [e] [] pos2] [] pos) (dCall setIF f):=by
 intro pins s σ H Q I h
 have h':=callF_imp _ _ _ h
 refine wpAny_Call_Name_kw (ld_blt I hg hm hv ?_ hn hdb)
 refine PyProof.Rows.callWith_builtin1 ?_ rfl rfl
 show wpAny _ _ (spliced ((false, eval (.Call (.Name y q) [e] [] pos2) X.env) :: backTo pos (starEach [] X.env))) _ _ s
 refine Calls.spliced_cons ?_
 refine wpAny_Call_Name_kw (ld_blt I hg2 hm2 hv2 ?_ hn2 hdb2)
 refine PyProof.Rows.callWith_type1 (thn (ha pos2 pins s σ H _ I h') fun us s1 ⟨vs, H1, I1, r1, q1⟩ => ?_) he rfl
 obtain ⟨O, ds, st, W, r, R⟩:=q1
 unfold setIF at R
 split at R
 ·rename_i d
  obtain ⟨v, rfl, rv⟩:=r.one_of
  split at R
  ·rename_i zs ez
   split at R
   ·rename_i ss hss
    by_cases hc : ss.length < 64
    ·rw [if_pos hc] at R
     obtain ⟨pl, vs, rfl, qq, rs⟩:=rdL W rv ez
     have hzs:=intsZ_eq hss
     subst hzs
     cases r1 with
     | cons r0 rt =>
      cases rt
      cases r0
      obtain ⟨its, rv', pl', hz⟩:=I1.list qq
      have hl1:=rv'.length
      have hl2:=rs.length
      rw [List.length_map] at hl2
      have sAll : IntsAre its ss:=by
       refine intsAre_of (by omega) fun i v x h1 h2 => ?_
       obtain ⟨y, h3, h4⟩:=rs.get (i:=i) (d:=D.int x) (by rw [List.getElem?_map, h2]; rfl)
       rw [Rep.int_i] at h4
       subst h4
       obtain ⟨u, h5, t, h6⟩:=rv'.get h3
       rw [h1] at h5
       cases h5
       exact ⟨t, h6⟩
      have hsb : its.length = ss.length:=by omega
      refine call_setI (items:=its.toArray) (ss:=ss) (I1.ok.hd hcalm) pl'.isList (by simpa using sAll) (by
       have : scanBound = 4096:=rfl
       simp; omega) fun h2 tk xs hS hmem hk => ?_
      refine Calls.spliced_nil ?_
      have k1 : ∀ b o, s1.heap.get? b = some o → h2.get? b = some o:=fun b o e => hk b o (Heap.lt_size e) e
      have hperm : xs.Perm (ddZ ss):=(List.perm_ext_iff_of_nodup hS.len.2.1 (ddZ_nodup ss)).mpr fun y => by rw [hmem, ddZ_mem]
      have hxl : xs.length < 64:=by
       rw [hperm.length_eq]
       exact Nat.lt_of_le_of_lt (ddZ_len ss) hc
      have I2 : Inv X pins σ H1 { s1 with heap:=h2, toks:=tk }:=I1.kept k1
      refine sorted_setI (s:={ s1 with heap:=h2, toks:=tk }) (I1.ok.hd hcalm) hS hxl fun vs' ys hys hp ix hpx hw h3 b h4 tk4 d4 c k3 hb k4 hg4 => ?_
      have I3 : Inv X pins σ H1 { s1 with heap:=h2, toks:=tk, drawn:=d4 }:=Inv.drew I2
      have hsame : srtZ ys = srtZ (ddZ ss):=by
       refine (srtZ_uniq ?_ ?_).symm
       ·exact (srtZ_perm _).trans (hp.trans hperm).symm
       ·refine List.Pairwise.imp₂ (R:=fun a b => decide (a ≤ b) = true) (S:=fun a b => a ≠ b) (fun a b h1 h2 => ?_) (srtZ_pw _) ((srtZ_perm (ddZ ss)).nodup_iff.mpr (ddZ_nodup ss))
        simp only [decide_eq_true_eq] at *
        omega
      exact int_new (s:={ s1 with heap:=h2, toks:=tk, drawn:=d4 }) I3 W hys (hsame ▸ R) hpx hw (by rw [hp.length_eq]; exact hxl) k3 hb k4 hg4
    ·rw [if_neg hc] at R; exact R.elim
   ·exact R.elim
  ·exact R.elim
 ·exact R.elim
end
end DL
end
section
namespace DL
open PySem PySem.Spec PyProof.Rows L2
mutual
noncomputable def nice : Nat → D → Bool
 | 0, _ => false
 | _ + 1, .non => true
 | _ + 1, .int _ => true
 | _ + 1, .str _ => true
 | n + 1, .tup xs => niceL n xs
 | n + 1, .lst xs => niceL n xs
 | _ + 1, _ => false
noncomputable def niceL : Nat → List D → Bool
 | _, [] => true
 | n, x :: xs => nice n x && niceL n xs
end
theorem niceL_all (n : Nat) : ∀ xs : List D, niceL n xs = true ↔ ∀ x ∈ xs, nice n x = true
 | [] => by simp [niceL]
 | x :: xs => by simp [niceL, niceL_all n xs]
open Classical in
theorem eqItems_nice {f : D → D → Option Bool} : ∀ (xs ys : List D), (∀ x ∈ xs, ∀ y ∈ ys, f x y = some (decide (x = y))) → eqItems f xs ys = some (decide (xs = ys))
 | [], [], _ => by simp [eqItems]
 | [], y :: ys, _ => by simp [eqItems]
 | x :: xs, [], _ => by simp [eqItems]
 | x :: xs, y :: ys, h => by
  unfold eqItems
  rw [h x List.mem_cons_self y List.mem_cons_self, eqItems_nice xs ys fun a ha b hb => h a (List.mem_cons_of_mem _ ha) b (List.mem_cons_of_mem _ hb)]
  by_cases h1 : x = y <;> by_cases h2 : xs = ys <;> simp [h1, h2]
open Classical in
theorem eqN_nice (st : Sto) : ∀ (n : Nat) (a b : D), nice n a = true → nice n b = true → eqN st n a b = some (decide (a = b))
 | 0, a, b, h, _ => by cases a <;> simp [nice] at h
 | n + 1, a, b, ha, hb => by
  unfold eqN
  cases a <;> cases b <;> simp only [nice, Bool.false_eq_true] at ha hb <;> simp only [kd]
  case tup.tup xs ys =>
   rw [eqItems_nice xs ys fun x hx y hy => eqN_nice st n x y ((niceL_all n xs).mp ha x hx) ((niceL_all n ys).mp hb y hy)]
   simp
  case lst.lst xs ys =>
   rw [eqItems_nice xs ys fun x hx y hy => eqN_nice st n x y ((niceL_all n xs).mp ha x hx) ((niceL_all n ys).mp hb y hy)]
   simp
  all_goals simp [Bool.beq_eq_decide_eq]
open Classical in
theorem eqD_nice {a b : D} {st : Sto} (ha : nice depth a = true) (hb : nice depth b = true) : eqD a b st = .ok (.bl (decide (a = b))) st:=by
 unfold eqD; rw [eqN_nice st depth a b ha hb]
open Classical in
theorem neD_nice {a b : D} {st : Sto} (ha : nice depth a = true) (hb : nice depth b = true) : neD a b st = .ok (.bl (!decide (a = b))) st:=by
 unfold neD; rw [eqN_nice st depth a b ha hb]
noncomputable def pl (ws : List Str) : D:=.tup (ws.map .str)
theorem niceL_str (n : Nat) (ws : List Str) : niceL (n + 1) (ws.map .str) = true:=by
 rw [niceL_all]
 intro x hx
 obtain ⟨w, _, rfl⟩:=List.mem_map.mp hx
 rfl
theorem nice_pl (n : Nat) (ws : List Str) : nice (n + 2) (pl ws) = true:=niceL_str n ws
theorem nice_pl' (ws : List Str) : nice depth (pl ws) = true:=nice_pl 48 ws
theorem str_inj {ws us : List Str} : ws.map D.str = us.map D.str ↔ ws = us:=by
 constructor
 ·intro h
  have : (ws.map D.str).map (fun d => match d with | .str x => x | _ => ("" : Str)) = (us.map D.str).map (fun d => match d with | .str x => x | _ => ("" : Str)) := by rw [h]
  simpa [List.map_map, Function.comp_def] using this
 ·intro h; rw [h]
theorem pl_inj {ws us : List Str} : pl ws = pl us ↔ ws = us:=by
 unfold pl
 rw [D.tup.injEq]
 exact str_inj
theorem eqD_pl (ws us : List Str) (st : Sto) : eqD (pl ws) (pl us) st = .ok (.bl (decide (ws = us))) st:=by
 rw [eqD_nice (nice_pl' ws) (nice_pl' us)]
 congr 2
 exact decide_eq_decide.mpr pl_inj
theorem eqD_int (x y : Int) (st : Sto) : eqD (.int x) (.int y) st = .ok (.bl (decide (x = y))) st:=by
 rw [eqD_nice rfl rfl]
 congr 2
 exact decide_eq_decide.mpr (by rw [D.int.injEq])
theorem len_pl (ws : List Str) (st : Sto) : lenD [pl ws] st = .ok (.int ws.length) st:=by
 simp [lenD, pl, itemsOf]
theorem cutL_map {α β : Type} (f : α → β) (xs : List α) (lo hi : Option Int) : cutL (xs.map f) lo hi = (cutL xs lo hi).map f:=by
 simp [cutL, List.map_take, List.map_drop]
theorem cut_pl (ws : List Str) (lo hi : Option Int) (st : Sto) : cutT (pl ws) lo hi st = .ok (pl (cutL ws lo hi)) st:=by
 simp [cutT, pl, cutL_map]
theorem cutL_to {α : Type} (xs : List α) (n : Nat) : cutL xs none (some (n : Int)) = xs.take n:=by
 unfold cutL
 rw [HT.sIx_none, HT.sIx_nat, List.drop_zero, Nat.sub_zero]
 by_cases h : n ≤ xs.length
 ·rw [Nat.min_eq_left h]
 ·rw [Nat.min_eq_right (by omega), List.take_length, List.take_of_length_le (by omega)]
theorem cutL_from {α : Type} (xs : List α) (n : Nat) : cutL xs (some (n : Int)) none = xs.drop n:=by
 unfold cutL
 rw [HT.sIx_none, HT.sIx_nat]
 by_cases h : n ≤ xs.length
 ·rw [Nat.min_eq_left h, List.take_of_length_le (by simp)]
 ·rw [Nat.min_eq_right (by omega), Nat.sub_self, List.take_zero, List.drop_eq_nil_of_le (by omega)]
theorem tuple_lst (xs : List D) (st : Sto) : tupleD [.lst xs] st = .ok (.tup xs) st:=rfl
theorem compD_map {chk : Sto → Prop} {t : TgD} {fe : DE} {st : Sto} (IE : Ev → Prop) (h : D → D) (hc : chk st) : ∀ (xs : List D) (ρ : Ev) (acc : List D), IE ρ → acc.length + xs.length ≤ small →
  (∀ x ∈ xs, ∀ ρ, IE ρ → ∃ ρ1, t x ρ = some ρ1 ∧ IE ρ1 ∧ fe ρ1 st = .ok (h x) st) → compD chk t dTrue fe xs ρ st acc = .ok (acc ++ xs.map h) st
 | [], ρ, acc, _, _, _ => by simp [compD, hc]
 | x :: xs, ρ, acc, hI, hl, hx => by
  obtain ⟨ρ1, e1, h1, e2⟩:=hx x List.mem_cons_self ρ hI
  unfold compD
  rw [if_pos ⟨hc, by simp at hl; omega⟩, e1]
  dsimp only [dTrue]
  rw [e2]
  dsimp only
  rw [compD_map IE h hc xs ρ1 (acc ++ [h x]) h1 (by simp at hl ⊢; omega) fun y hy => hx y (List.mem_cons_of_mem _ hy)]
  simp
theorem compD_filter {chk : Sto → Prop} {t : TgD} {cond : DT} {fe : DE} {st : Sto} (IE : Ev → Prop) (p : D → Bool) (h : D → D) (hc : chk st) : ∀ (xs : List D) (ρ : Ev) (acc : List D), IE ρ → acc.length + xs.length ≤ small →
  (∀ x ∈ xs, ∀ ρ, IE ρ → ∃ ρ1, t x ρ = some ρ1 ∧ IE ρ1 ∧ cond ρ1 st = .ok (p x) st ∧ (p x = true → fe ρ1 st = .ok (h x) st)) → compD chk t cond fe xs ρ st acc = .ok (acc ++ (xs.filter p).map h) st
 | [], ρ, acc, _, _, _ => by simp [compD, hc]
 | x :: xs, ρ, acc, hI, hl, hx => by
  obtain ⟨ρ1, e1, h1, e2, e3⟩:=hx x List.mem_cons_self ρ hI
  unfold compD
  rw [if_pos ⟨hc, by simp at hl; omega⟩, e1]
  dsimp only
  rw [e2]
  cases hp : p x with
  | true =>
   dsimp only
   rw [e3 hp]
   dsimp only
   rw [compD_filter IE p h hc xs ρ1 (acc ++ [h x]) h1 (by simp at hl ⊢; omega) fun y hy => hx y (List.mem_cons_of_mem _ hy)]
   simp [hp]
  | false =>
   dsimp only
   rw [compD_filter IE p h hc xs ρ1 acc h1 (by simp at hl ⊢; omega) fun y hy => hx y (List.mem_cons_of_mem _ hy)]
   simp [hp]
theorem loop_nil {chk : Sto → Prop} {t : TgD} {g : DS} {ρ : Ev} {st : Sto} (hc : chk st) : loopD chk t g [] ρ st = .nx ρ st:=by
 unfold loopD; rw [if_pos hc]
theorem loop_nx {chk : Sto → Prop} {t : TgD} {g : DS} {x : D} {xs : List D} {ρ ρ1 ρ2 : Ev} {st st2 : Sto} (hc : chk st) (ht : t x ρ = some ρ1) (hg : g ρ1 st = .nx ρ2 st2) : loopD chk t g (x :: xs) ρ st = loopD chk t g xs ρ2 st2:=by
 rw [loopD, if_pos hc, ht]; dsimp only; rw [hg]
theorem mulOk_r (i j : Int) (h1 : -(2 ^ 64) < j) (h2 : j < 2 ^ 64) : mulOk i j = true:=by
 unfold mulOk
 rw [decide_eq_true h1, decide_eq_true h2]
 simp
theorem mulOk_l (i j : Int) (h1 : -(2 ^ 64) < i) (h2 : i < 2 ^ 64) : mulOk i j = true:=by
 unfold mulOk
 rw [decide_eq_true h1, decide_eq_true h2]
 simp
theorem mul2_int (i j : Int) (st : Sto) (h : mulOk i j = true) : mul2D (.int i) (.int j) st = .ok (.int (i * j)) st:=by
 simp [mul2D, mulD, intOp, h]
theorem mod_int (i j : Int) (st : Sto) (h : 0 < j) : modD (.int i) (.int j) st = .ok (.int (i % j)) st:=by
 simp [modD, intOp, h]
theorem fdiv_int (i j : Int) (st : Sto) (h : 0 < j) (h2 : j < 1073741824) : fdivD (.int i) (.int j) st = .ok (.int (i / j)) st:=by
 have e : divOk i j = true:=@decide_eq_true (0 < j ∧ j < 1073741824) (Classical.propDecidable _) ⟨h, h2⟩
 simp [fdivD, intOp, e]
theorem addD_int (a b : Int) (st : Sto) : addD (.int a) (.int b) st = .ok (.int (a + b)) st:=rfl
theorem subD_int (a b : Int) (st : Sto) : subD (.int a) (.int b) st = .ok (.int (a - b)) st:=rfl
theorem law_sp {K : PySem.W.Frag} {F : FD} (hF : ∀ ns : List Int, ns.length ≤ 63 → ∃ st, F [.scr (ns.map .int)] [] = .ok (.bl true) st) (H : Hp) (a : Addr) (ns : List Int) (hl : ns.length ≤ 63) (ho : Only H) (hs : SqL K H a (ns.map V.int)) :
  spD K F [.ref a] H (fun v _ => v = .bl true) fun _ _ _ => False:=by
 obtain ⟨st, e⟩:=hF ns hl
 refine ⟨[], [.scr (ns.map .int)], [], ⟨rfl, List.nodup_nil, fun i a s h => by simp at h⟩, Reps.one (Rep.scr_i.mpr ⟨a, _, rfl, SqF.of hs ?_, ?_⟩), ?_⟩
 ·rcases ho a with h | ⟨o, xs, h⟩ <;> rw [h] <;> intro z <;> cases z
 ·have : ∀ (ms : List Int), Reps K [] H (ms.map D.int) (ms.map V.int):=by
   intro ms
   induction ms with
   | nil => exact Reps.nil_i.mpr rfl
   | cons m ms ih => exact Reps.cons_i.mpr ⟨_, _, rfl, Rep.int_i.mpr rfl, ih⟩
  exact this ns
 ·rw [e]
  exact fun O' H' _ _ v r => Rep.bl_i.mp r
section
variable {α β : Type} {ρ : Ev} {st : Sto} {f fa fb fc fo : DE} {ta tb t : DT} {g g' : DS} {da : DA} {i : Nat} {G : D → D → Sto → Out D} {H : D → D → Sto → Out (List D)}
@[simp] theorem z_bind_ok (a : α) (st : Sto) (k : α → Sto → Out β) : (Out.ok a st).bind k = k a st:=rfl
@[simp] theorem z_bind_bad (k : α → Sto → Out β) : (Out.bad : Out α).bind k = .bad:=rfl
@[simp] theorem z_to_ok (a : α) (st : Sto) (k : α → Sto → OutS) : (Out.ok a st).to k = k a st:=rfl
@[simp] theorem z_var : dVar i ρ st = match ρ[i]? with
 | some (some d) => .ok d st
 | _ => .bad:=rfl
@[simp] theorem z_C (d : D) : dC d ρ st = .ok d st:=rfl
@[simp] theorem z_bin : dBin G fa fb ρ st = (fa ρ st).bind fun x st1 => (fb ρ st1).bind fun y st2 => G x y st2:=rfl
@[simp] theorem z_binF : dBinF H fa fb ρ st = (fa ρ st).bind fun x st1 => (fb ρ st1).bind fun y st2 => H x y st2:=rfl
@[simp] theorem z_B : dB f ρ st = (f ρ st).bind asB:=rfl
@[simp] theorem z_asB (b : Bool) : asB (.bl b) st = .ok b st:=rfl
@[simp] theorem z_asInt (b : Int) : asInt (.int b) st = .ok (some b) st:=rfl
@[simp] theorem z_or : dOr ta tb ρ st = (ta ρ st).bind fun x st1 => if x = true then .ok true st1 else tb ρ st1:=rfl
@[simp] theorem z_not : dNot ta ρ st = (ta ρ st).bind fun x st1 => .ok (!x) st1:=rfl
@[simp] theorem z_chain {G' : D → D → Sto → Out D} : dChain G G' fa fb fc ρ st = (fa ρ st).bind fun x st1 => (fb ρ st1).bind fun y st2 => (G x y st2).bind fun z st3 => (asB z st3).bind fun k st4 =>
 if k = true then (fc ρ st4).bind fun w st5 => G' y w st5 else .ok (.bl false) st4:=rfl
@[simp] theorem z_nil : dNil ρ st = .ok [] st:=rfl
@[simp] theorem z_cons : dCons f da ρ st = (f ρ st).bind fun x st1 => (da ρ st1).bind fun xs st2 => .ok (x :: xs) st2:=rfl
@[simp] theorem z_tup : dTup da ρ st = (da ρ st).bind fun xs st1 => if xs.length ≤ small then .ok (.tup xs) st1 else .bad:=rfl
@[simp] theorem z_lst : dLst da ρ st = (da ρ st).bind fun xs st1 => if xs.length ≤ small then .ok xs st1 else .bad:=rfl
@[simp] theorem z_F : dF da ρ st = (da ρ st).bind fun xs st1 => .ok (.lst xs) st1:=rfl
@[simp] theorem z_sl {γ : D → Option Int → Option Int → Sto → Out α} {l h : DO} : dSl γ f l h ρ st = (f ρ st).bind fun x st1 => (l ρ st1).bind fun lo st2 => (h ρ st2).bind fun hi st3 => γ x lo hi st3:=rfl
@[simp] theorem z_noPart : dNoPart ρ st = .ok none st:=rfl
@[simp] theorem z_part : dPart f ρ st = (f ρ st).bind asInt:=rfl
@[simp] theorem z_call {γ : List D → Sto → Out α} : dCall γ da ρ st = (da ρ st).bind γ:=rfl
@[simp] theorem z_comp {caps : List Nat} {nT : Nat} {fi : DI} {tg : TgD} : dComp caps nT fi tg t f ρ st = (fi ρ st).bind fun q st1 => compD q.2 tg t f q.1 (capEv ρ caps nT) st1 []:=rfl
@[simp] theorem z_seq : dSeq f ρ st = (f ρ st).bind fun d st1 => match itemsOf st1 d with
 | some xs => .ok (xs, fun st => itemsOf st d = some xs) st1
 | none => .bad:=rfl
@[simp] theorem z_neg : dNeg f ρ st = (f ρ st).bind fun d st1 => match d with
 | .int i => .ok (.int (-i)) st1
 | _ => .bad:=rfl
@[simp] theorem z_sNext : sNext ρ st = .nx ρ st:=rfl
@[simp] theorem z_sSeq : sSeq g g' ρ st = match g ρ st with
 | .nx ρ' st' => g' ρ' st'
 | r => r:=rfl
@[simp] theorem z_sExpr : sExpr f ρ st = (f ρ st).to fun _ st1 => .nx ρ st1:=rfl
@[simp] theorem z_sRet : sRet f ρ st = (f ρ st).to fun d st1 => .rt d st1:=rfl
@[simp] theorem z_sIf : sIf t g g' ρ st = (t ρ st).to fun x st1 => if x = true then g ρ st1 else g' ρ st1:=rfl
@[simp] theorem z_sSet : sSet i f ρ st = (f ρ st).to fun d st1 => .nx (ρ.set i (some d)) st1:=rfl
@[simp] theorem z_sSetF : sSetF i da ρ st = (da ρ st).to fun ds st1 => .nx (ρ.set i (some (.res st1.length))) (st1 ++ [.lst ds]):=rfl
@[simp] theorem z_sFor {fi : DI} {tg : TgD} : sFor fi tg g ρ st = (fi ρ st).to fun q st1 => loopD q.2 tg g q.1 ρ st1:=rfl
@[simp] theorem z_runF {N n : Nat} {ds : List D} : runF N n g ds st = if ds.length = n then (match g (ds.map some ++ List.replicate (N - n) none) st with
 | .nx _ st' => .ok .non st'
 | .rt d st' => .ok d st'
 | _ => .bad) else .bad:=rfl
@[simp] theorem z_addD (a b : Int) (st : Sto) : addD (.int a) (.int b) st = .ok (.int (a + b)) st:=rfl
@[simp] theorem z_subD (a b : Int) (st : Sto) : subD (.int a) (.int b) st = .ok (.int (a - b)) st:=rfl
theorem small_ge {n : Nat} (h : n ≤ 1000) : n ≤ small:=Nat.le_trans h (by decide)
@[simp] theorem z_small0 : (0 : Nat) ≤ small:=Nat.zero_le _
@[simp] theorem z_small1 : (1 : Nat) ≤ small:=by decide
@[simp] theorem z_small2 : (2 : Nat) ≤ small:=by decide
@[simp] theorem z_small3 : (3 : Nat) ≤ small:=by decide
@[simp] theorem z_small4 : (4 : Nat) ≤ small:=by decide
@[simp] theorem z_small5 : (5 : Nat) ≤ small:=by decide
@[simp] theorem z_small6 : (6 : Nat) ≤ small:=by decide
end
end DL
end
section
namespace K62
open PySem L2 DL
noncomputable def top (i : Nat) : Stmt:=PySem.Challenge.pw_cardplaces_k62_whole_books_and_visits.main.body.getD i (.Pass ⟨0, 0, 0, 0⟩)
noncomputable abbrev sz_law_cell : Stmt:=top 17
theorem scz_law_cell : FnScope ["_law_script", "_law_k"] ["_law_script", "_law_k"] (defScope sz_law_cell) := ⟨rfl, rfl, rfl, by decide +kernel, rfl, by decide +kernel, by decide +kernel⟩
noncomputable def gz_law_cell : DS:=(sSeq (sIf (dB (dBin eqD (dVar 0) (dF (dLst dNil)))) (sRet (dBin mul2D (dC (.int 7)) (dVar 1))) sNext) (sRet (dBin addD (dBin ixD (dVar 0) (dBin modD (dVar 1) (dCall lenD (dCons (dVar 0) dNil)))) (dBin mul2D (dC (.int 6553)) (dBin fdivD (dVar 1) (dCall lenD (dCons (dVar 0) dNil)))))))
noncomputable def Fz_law_cell : FD:=runF 2 2 (gz_law_cell)
noncomputable abbrev sz_law_drawn : Stmt:=top 18
theorem scz_law_drawn : FnScope ["_law_script", "_law_k", "_law_many", "_law_cell_here"] ["_law_script", "_law_k", "_law_many"] (defScope sz_law_drawn) := ⟨rfl, rfl, rfl, by decide +kernel, rfl, by decide +kernel, by decide +kernel⟩
noncomputable def gz_law_drawn : DS:=(sSeq (sSet 3 (dBin modD (dBin addD (dBin mul2D (dBin modD (dCall Fz_law_cell (dCons (dVar 0) (dCons (dVar 1) dNil))) (dC (.int 2147483563))) (dC (.int 69069))) (dBin mul2D (dC (.int 104723)) (dBin addD (dVar 1) (dC (.int 1))))) (dC (.int 2147483563)))) (sSeq (sSet 3 (dBin modD (dBin addD (dBin mul2D (dVar 3) (dVar 3)) (dBin fdivD (dVar 3) (dC (.int 3)))) (dC (.int 2147483399)))) (sRet (dBin modD (dBin fdivD (dBin modD (dBin addD (dBin mul2D (dVar 3) (dVar 3)) (dBin fdivD (dVar 3) (dC (.int 7)))) (dC (.int 2147483647))) (dC (.int 11))) (dVar 2)))))
noncomputable def Fz_law_drawn : FD:=runF 4 3 (gz_law_drawn)
noncomputable abbrev sz_law_place : Stmt:=top 19
theorem scz_law_place : FnScope ["_law_script", "_law_at"] ["_law_script", "_law_at"] (defScope sz_law_place) := ⟨rfl, rfl, rfl, by decide +kernel, rfl, by decide +kernel, by decide +kernel⟩
noncomputable def Ez_law_place_1 : DE := (dBin ixD (dC (.str "abc")) (dCall Fz_law_drawn (dCons (dVar 1) (dCons (dBin addD (dBin addD (dVar 2) (dC (.int 1))) (dVar 0)) (dCons (dC (.int 3)) dNil)))))
noncomputable def gz_law_place : DS:=(sRet (dCall tupleD (dCons (dF (dComp [0, 1] 1 (dRng1 (dCons (dCall Fz_law_drawn (dCons (dVar 0) (dCons (dVar 1) (dCons (dC (.int 4)) dNil)))) dNil)) (tgName 0) dTrue Ez_law_place_1)) dNil)))
noncomputable def Fz_law_place : FD:=runF 2 2 (gz_law_place)
noncomputable abbrev szBook___init__ : Stmt:=inClass (top 15) 0
theorem sczBook___init__ : FnScope ["self", "place", "most"] ["self", "place", "most"] (defScope szBook___init__) := ⟨rfl, rfl, rfl, by decide +kernel, rfl, by decide +kernel, by decide +kernel⟩
noncomputable def gzBook___init__ (cv : Nat → Addr) : DS := (sSeq (sFldS (cv 0) "most" (dVar 0) (dVar 2)) (sSeq (sFldF (cv 0) "rows" (dVar 0) (dLst (dCons (dTup (dCons (dVar 1) (dCons (dC (.int 0)) dNil))) dNil))) (sFldS (cv 0) "spot" (dVar 0) (dC (.int 0)))))
noncomputable def FzBook___init__ (cv : Nat → Addr) : FD:=runF 3 3 (gzBook___init__ cv)
noncomputable abbrev szBook_visit : Stmt:=inClass (top 15) 4
theorem sczBook_visit : FnScope ["self", "place", "rows"] ["self", "place"] (defScope szBook_visit) := ⟨rfl, rfl, rfl, by decide +kernel, rfl, by decide +kernel, by decide +kernel⟩
noncomputable def gzBook_visit (cv : Nat → Addr) : DS := (sSeq (sSetF 2 (dBinF catL (dF (dSl cutF (dFld (cv 0) "rows" (dVar 0)) dNoPart (dPart (dBin addD (dFld (cv 0) "spot" (dVar 0)) (dC (.int 1)))))) (dF (dLst (dCons (dTup (dCons (dVar 1) (dCons (dC (.int 0)) dNil))) dNil))))) (sSeq (sIf (dB (dBin gtD (dCall lenD (dCons (dVar 2) dNil)) (dFld (cv 0) "most" (dVar 0)))) (sSetF 2 (dSl cutF (dVar 2) (dPart (dC (.int 1))) dNoPart)) sNext) (sSeq (sFldS (cv 0) "rows" (dVar 0) (dVar 2)) (sFldS (cv 0) "spot" (dVar 0) (dBin subD (dCall lenD (dCons (dVar 2) dNil)) (dC (.int 1)))))))
noncomputable def FzBook_visit (cv : Nat → Addr) : FD:=runF 3 2 (gzBook_visit cv)
noncomputable abbrev szBook_now : Stmt:=inClass (top 15) 1
theorem sczBook_now : FnScope ["self"] ["self"] (defScope szBook_now) := ⟨rfl, rfl, rfl, by decide +kernel, rfl, by decide +kernel, by decide +kernel⟩
noncomputable def gzBook_now (cv : Nat → Addr) : DS := (sRet (dBin ixD (dBin ixD (dFld (cv 0) "rows" (dVar 0)) (dFld (cv 0) "spot" (dVar 0))) (dC (.int 0))))
noncomputable def FzBook_now (cv : Nat → Addr) : FD:=runF 1 1 (gzBook_now cv)
noncomputable abbrev szBook_mark : Stmt:=inClass (top 15) 9
theorem sczBook_mark : FnScope ["self", "number"] ["self", "number"] (defScope szBook_mark) := ⟨rfl, rfl, rfl, by decide +kernel, rfl, by decide +kernel, by decide +kernel⟩
noncomputable def gzBook_mark (cv : Nat → Addr) : DS := (sSetIx (dFld (cv 0) "rows" (dVar 0)) (dFld (cv 0) "spot" (dVar 0)) (dTup (dCons (dMeth (cv 0) "now" (FzBook_now cv) (dVar 0) dNil) (dCons (dVar 1) dNil))))
noncomputable def FzBook_mark (cv : Nat → Addr) : FD:=runF 2 2 (gzBook_mark cv)
noncomputable abbrev szBook_number : Stmt:=inClass (top 15) 3
theorem sczBook_number : FnScope ["self"] ["self"] (defScope szBook_number) := ⟨rfl, rfl, rfl, by decide +kernel, rfl, by decide +kernel, by decide +kernel⟩
noncomputable def gzBook_number (cv : Nat → Addr) : DS := (sRet (dFld (cv 0) "spot" (dVar 0)))
noncomputable def FzBook_number (cv : Nat → Addr) : FD:=runF 1 1 (gzBook_number cv)
noncomputable abbrev szBook_can_go : Stmt:=inClass (top 15) 6
theorem sczBook_can_go : FnScope ["self", "by"] ["self", "by"] (defScope szBook_can_go) := ⟨rfl, rfl, rfl, by decide +kernel, rfl, by decide +kernel, by decide +kernel⟩
noncomputable def gzBook_can_go (cv : Nat → Addr) : DS := (sRet (dChain leX ltD (dC (.int 0)) (dBin addD (dFld (cv 0) "spot" (dVar 0)) (dVar 1)) (dCall lenD (dCons (dFld (cv 0) "rows" (dVar 0)) dNil))))
noncomputable def FzBook_can_go (cv : Nat → Addr) : FD:=runF 2 2 (gzBook_can_go cv)
noncomputable abbrev szBook_place_at : Stmt:=inClass (top 15) 7
theorem sczBook_place_at : FnScope ["self", "by"] ["self", "by"] (defScope szBook_place_at) := ⟨rfl, rfl, rfl, by decide +kernel, rfl, by decide +kernel, by decide +kernel⟩
noncomputable def gzBook_place_at (cv : Nat → Addr) : DS := (sSeq (sIf (dNot (dB (dMeth (cv 0) "can_go" (FzBook_can_go cv) (dVar 0) (dCons (dVar 1) dNil)))) sBad sNext) (sRet (dBin ixD (dBin ixD (dFld (cv 0) "rows" (dVar 0)) (dBin addD (dFld (cv 0) "spot" (dVar 0)) (dVar 1))) (dC (.int 0)))))
noncomputable def FzBook_place_at (cv : Nat → Addr) : FD:=runF 2 2 (gzBook_place_at cv)
noncomputable abbrev szBook_go : Stmt:=inClass (top 15) 8
theorem sczBook_go : FnScope ["self", "by", "place"] ["self", "by"] (defScope szBook_go) := ⟨rfl, rfl, rfl, by decide +kernel, rfl, by decide +kernel, by decide +kernel⟩
noncomputable def gzBook_go (cv : Nat → Addr) : DS := (sSeq (sSet 2 (dMeth (cv 0) "place_at" (FzBook_place_at cv) (dVar 0) (dCons (dVar 1) dNil))) (sSeq (sFldAdd (cv 0) "spot" (dVar 0) (dVar 1)) (sRet (dVar 2))))
noncomputable def FzBook_go (cv : Nat → Addr) : FD:=runF 3 2 (gzBook_go cv)
noncomputable abbrev sz_law_filled : Stmt:=top 20
theorem scz_law_filled : FnScope ["_law_script", "_law_at", "_law_book", "_law_k", "_law_back"] ["_law_script", "_law_at", "_law_book"] (defScope sz_law_filled) := ⟨rfl, rfl, rfl, by decide +kernel, rfl, by decide +kernel, by decide +kernel⟩
noncomputable def Bz_law_filled_1 (cv : Nat → Addr) : DS := (sSeq (sExpr (dMeth (cv 0) "visit" (FzBook_visit cv) (dVar 2) (dCons (dSl cutT (dCall Fz_law_place (dCons (dVar 0) (dCons (dBin addD (dBin addD (dVar 1) (dC (.int 2))) (dBin mul2D (dC (.int 6)) (dVar 3))) dNil))) dNoPart (dPart (dC (.int 2)))) dNil))) (sExpr (dMeth (cv 0) "mark" (FzBook_mark cv) (dVar 2) (dCons (dBin addD (dVar 3) (dC (.int 1))) dNil))))
noncomputable def gz_law_filled (cv : Nat → Addr) : DS := (sSeq (sFor (dRng1 (dCons (dCall Fz_law_drawn (dCons (dVar 0) (dCons (dVar 1) (dCons (dC (.int 8)) dNil)))) dNil)) (tgName 3) (Bz_law_filled_1 cv)) (sSeq (sSet 4 (dCall Fz_law_drawn (dCons (dVar 0) (dCons (dBin addD (dVar 1) (dC (.int 1))) (dCons (dBin addD (dMeth (cv 0) "number" (FzBook_number cv) (dVar 2) dNil) (dC (.int 1))) dNil))))) (sSeq (sExpr (dMeth (cv 0) "go" (FzBook_go cv) (dVar 2) (dCons (dBin subD (dC (.int 0)) (dVar 4)) dNil))) (sRet (dVar 2)))))
noncomputable def Fz_law_filled (cv : Nat → Addr) : FD:=runF 5 3 (gz_law_filled cv)
noncomputable abbrev szBook_entries : Stmt:=inClass (top 15) 2
theorem sczBook_entries : FnScope ["self"] ["self"] (defScope szBook_entries) := ⟨rfl, rfl, rfl, by decide +kernel, rfl, by decide +kernel, by decide +kernel⟩
noncomputable def EzBook_entries_1 : DE:=(dBin ixD (dVar 0) (dC (.int 0)))
noncomputable def gzBook_entries (cv : Nat → Addr) : DS := (sRet (dF (dComp [] 1 (dSeq (dFld (cv 0) "rows" (dVar 0))) (tgName 0) dTrue EzBook_entries_1)))
noncomputable def FzBook_entries (cv : Nat → Addr) : FD:=runF 1 1 (gzBook_entries cv)
noncomputable abbrev sztrail : Stmt:=top 4
theorem scztrail : FnScope ["places", "told", "place"] ["places"] (defScope sztrail) := ⟨rfl, rfl, rfl, by decide +kernel, rfl, by decide +kernel, by decide +kernel⟩
noncomputable def Bztrail_1 : DS:=(sIf (dB (dBin inD (dVar 2) (dVar 1))) (sSetF 1 (dSl cutF (dVar 1) dNoPart (dPart (dBin addD (dLM indexD (dVar 1) (dCons (dVar 2) dNil)) (dC (.int 1)))))) (sExpr (dAppend (dVar 1) (dVar 2))))
noncomputable def gztrail : DS:=(sSeq (sSetF 1 (dLst dNil)) (sSeq (sFor (dSeq (dVar 0)) (tgName 2) Bztrail_1) (sRet (dVar 1))))
noncomputable def Fztrail : FD:=runF 3 1 (gztrail)
noncomputable abbrev szcounts : Stmt:=top 5
theorem sczcounts : FnScope ["places", "many", "place"] ["places"] (defScope szcounts) := ⟨rfl, rfl, rfl, by decide +kernel, rfl, by decide +kernel, by decide +kernel⟩
noncomputable def Bzcounts_1 : DS:=(sPutD (dVar 1) (dVar 2) (dBin addD (dGet2 (dVar 1) (dVar 2) (dC (.int 0))) (dC (.int 1))))
noncomputable def gzcounts : DS:=(sSeq (sSet 1 dNewT) (sSeq (sFor (dSeq (dVar 0)) (tgName 2) Bzcounts_1) (sRet (dVar 1))))
noncomputable def Fzcounts : FD:=runF 3 1 (gzcounts)
noncomputable abbrev szis_under : Stmt:=top 2
theorem sczis_under : FnScope ["place", "other"] ["place", "other"] (defScope szis_under) := ⟨rfl, rfl, rfl, by decide +kernel, rfl, by decide +kernel, by decide +kernel⟩
noncomputable def gzis_under : DS:=(sRet (dBin eqD (dSl cutT (dVar 0) dNoPart (dPart (dCall lenD (dCons (dVar 1) dNil)))) (dVar 1)))
noncomputable def Fzis_under : FD:=runF 2 2 (gzis_under)
noncomputable abbrev szunder : Stmt:=top 9
theorem sczunder : FnScope ["places", "other"] ["places", "other"] (defScope szunder) := ⟨rfl, rfl, rfl, by decide +kernel, rfl, by decide +kernel, by decide +kernel⟩
noncomputable def Ezunder_1 : DE:=(dVar 0)
noncomputable def Czunder_1 : DT:=(dB (dCall Fzis_under (dCons (dVar 0) (dCons (dVar 1) dNil))))
noncomputable def gzunder : DS:=(sRet (dCall lenD (dCons (dF (dComp [1] 1 (dSeq (dVar 0)) (tgName 0) Czunder_1 Ezunder_1)) dNil)))
noncomputable def Fzunder : FD:=runF 2 2 (gzunder)
noncomputable abbrev szBook_keep_only : Stmt:=inClass (top 15) 14
theorem sczBook_keep_only : FnScope ["self", "spots", "many", "spot"] ["self", "spots"] (defScope szBook_keep_only) := ⟨rfl, rfl, rfl, by decide +kernel, rfl, by decide +kernel, by decide +kernel⟩
noncomputable def EzBook_keep_only_1 : DE:=(dVar 0)
noncomputable def CzBook_keep_only_1 (cv : Nat → Addr) : DT := (dB (dBin ltD (dVar 0) (dFld (cv 0) "spot" (dVar 1))))
noncomputable def EzBook_keep_only_2 (cv : Nat → Addr) : DE := (dBin ixD (dFld (cv 0) "rows" (dVar 1)) (dVar 0))
noncomputable def gzBook_keep_only (cv : Nat → Addr) : DS := (sSeq (sSet 2 (dBin subD (dCall lenD (dCons (dFld (cv 0) "rows" (dVar 0)) dNil)) (dCall lenD (dCons (dVar 1) dNil)))) (sSeq (sSet 3 (dCall lenD (dCons (dF (dComp [0] 1 (dSeq (dVar 1)) (tgName 0) (CzBook_keep_only_1 cv) EzBook_keep_only_1)) dNil))) (sSeq (sFldF (cv 0) "rows" (dVar 0) (dComp [0] 1 (dSeq (dVar 1)) (tgName 0) dTrue (EzBook_keep_only_2 cv))) (sSeq (sFldS (cv 0) "spot" (dVar 0) (dVar 3)) (sRet (dVar 2))))))
noncomputable def FzBook_keep_only (cv : Nat → Addr) : FD:=runF 4 2 (gzBook_keep_only cv)
noncomputable abbrev szBook_drop : Stmt:=inClass (top 15) 12
theorem sczBook_drop : FnScope ["self", "other"] ["self", "other"] (defScope szBook_drop) := ⟨rfl, rfl, rfl, by decide +kernel, rfl, by decide +kernel, by decide +kernel⟩
noncomputable def EzBook_drop_1 : DE:=(dVar 0)
noncomputable def CzBook_drop_1 (cv : Nat → Addr) : DT := (dOr (dB (dBin eqD (dVar 0) (dFld (cv 0) "spot" (dVar 2)))) (dNot (dB (dCall Fzis_under (dCons (dBin ixD (dVar 1) (dC (.int 0))) (dCons (dVar 3) dNil))))))
noncomputable def gzBook_drop (cv : Nat → Addr) : DS := (sRet (dMeth (cv 0) "keep_only" (FzBook_keep_only cv) (dVar 0) (dCons (dF (dComp [0, 1] 2 (dEnum (dFld (cv 0) "rows" (dVar 0))) (tgTup [0, 1]) (CzBook_drop_1 cv) EzBook_drop_1)) dNil)))
noncomputable def FzBook_drop (cv : Nat → Addr) : FD:=runF 2 2 (gzBook_drop cv)
noncomputable abbrev szlast_first : Stmt:=top 6
theorem sczlast_first : FnScope ["places", "once", "place"] ["places"] (defScope szlast_first) := ⟨rfl, rfl, rfl, by decide +kernel, rfl, by decide +kernel, by decide +kernel⟩
noncomputable def Bzlast_first_1 : DS:=(sPutD (dVar 1) (dVar 2) (dC (.bl true)))
noncomputable def gzlast_first : DS:=(sSeq (sSet 1 dNewT) (sSeq (sFor (dRevd (dVar 0)) (tgName 2) Bzlast_first_1) (sRet (dF (dCall listTF (dCons (dVar 1) dNil))))))
noncomputable def Fzlast_first : FD:=runF 3 1 (gzlast_first)
noncomputable abbrev szat_most : Stmt:=top 7
theorem sczat_most : FnScope ["places", "most"] ["places", "most"] (defScope szat_most) := ⟨rfl, rfl, rfl, by decide +kernel, rfl, by decide +kernel, by decide +kernel⟩
noncomputable def gzat_most : DS:=(sRet (dF (dSl cutF (dVar 0) dNoPart (dPart (dCall max2D (dCons (dVar 1) (dCons (dC (.int 0)) dNil)))))))
noncomputable def Fzat_most : FD:=runF 2 2 (gzat_most)
noncomputable abbrev szrecent : Stmt:=top 8
theorem sczrecent : FnScope ["places", "most"] ["places", "most"] (defScope szrecent) := ⟨rfl, rfl, rfl, by decide +kernel, rfl, by decide +kernel, by decide +kernel⟩
noncomputable def gzrecent : DS:=(sRet (dCall Fzat_most (dCons (dCall Fzlast_first (dCons (dVar 0) dNil)) (dCons (dVar 1) dNil))))
noncomputable def Fzrecent : FD:=runF 2 2 (gzrecent)
noncomputable abbrev szBook_nearest : Stmt:=inClass (top 15) 11
theorem sczBook_nearest : FnScope ["self", "place", "ways"] ["self", "place"] (defScope szBook_nearest) := ⟨rfl, rfl, rfl, by decide +kernel, rfl, by decide +kernel, by decide +kernel⟩
noncomputable def EzBook_nearest_1 (cv : Nat → Addr) : DE := (dBin subD (dVar 0) (dFld (cv 0) "spot" (dVar 2)))
noncomputable def CzBook_nearest_1 : DT:=(dB (dBin eqD (dBin ixD (dVar 1) (dC (.int 0))) (dVar 3)))
noncomputable def gzBook_nearest (cv : Nat → Addr) : DS := (sSeq (sSet 2 (dF (dComp [0, 1] 2 (dEnum (dFld (cv 0) "rows" (dVar 0))) (tgTup [0, 1]) CzBook_nearest_1 (EzBook_nearest_1 cv)))) (sRet (dMinAbs (dVar 2))))
noncomputable def FzBook_nearest (cv : Nat → Addr) : FD:=runF 3 2 (gzBook_nearest cv)
noncomputable abbrev szlaw : Stmt:=top 21
theorem sczlaw : FnScope ["_law_script", "_law_book", "_law_entries", "_law_at", "_law_other", "_law_many", "_law_is_under_it", "_law_far"] ["_law_script"] (defScope szlaw) := ⟨rfl, rfl, rfl, by decide +kernel, rfl, by decide +kernel, by decide +kernel⟩
noncomputable def stzlaw_p1 : Stmt:=(defBody szlaw).getD 0 (.Pass ⟨0, 0, 0, 0⟩)
noncomputable def stzlaw_p2 : Stmt:=(defBody szlaw).getD 1 (.Pass ⟨0, 0, 0, 0⟩)
noncomputable def stzlaw_p3 : Stmt:=(defBody szlaw).getD 2 (.Pass ⟨0, 0, 0, 0⟩)
noncomputable def stzlaw_p4 : Stmt:=(defBody szlaw).getD 3 (.Pass ⟨0, 0, 0, 0⟩)
noncomputable def stzlaw_p5 : Stmt:=(defBody szlaw).getD 4 (.Pass ⟨0, 0, 0, 0⟩)
noncomputable def stzlaw_p6 : Stmt:=(defBody szlaw).getD 5 (.Pass ⟨0, 0, 0, 0⟩)
noncomputable def stzlaw_p7 : Stmt:=(defBody szlaw).getD 6 (.Pass ⟨0, 0, 0, 0⟩)
noncomputable def stzlaw_p8 : Stmt:=(defBody szlaw).getD 7 (.Pass ⟨0, 0, 0, 0⟩)
noncomputable def stzlaw_p9 : Stmt:=(defBody szlaw).getD 8 (.Pass ⟨0, 0, 0, 0⟩)
noncomputable def stzlaw_p10 : Stmt:=(defBody szlaw).getD 9 (.Pass ⟨0, 0, 0, 0⟩)
noncomputable def stzlaw_p11 : Stmt:=(defBody szlaw).getD 10 (.Pass ⟨0, 0, 0, 0⟩)
noncomputable def stzlaw_p12 : Stmt:=(defBody szlaw).getD 11 (.Pass ⟨0, 0, 0, 0⟩)
noncomputable def stzlaw_p13 : Stmt:=(defBody szlaw).getD 12 (.Pass ⟨0, 0, 0, 0⟩)
noncomputable def Pzlaw_p1 (cv : Nat → Addr) : DS:=(sSet 1 (dCall (Fz_law_filled cv) (dCons (dVar 0) (dCons (dC (.int 10)) (dCons (dMake (cv 0) (FzBook___init__ cv) (dCons (dCall Fz_law_place (dCons (dVar 0) (dCons (dC (.int 0)) dNil))) (dCons (dC (.int 9)) dNil))) dNil)))))
noncomputable def Pzlaw_p2 (cv : Nat → Addr) : DS := (sSet 2 (dMeth (cv 0) "entries" (FzBook_entries cv) (dVar 1) dNil))
noncomputable def Pzlaw_p3 (cv : Nat → Addr) : DS := (sSet 3 (dMeth (cv 0) "number" (FzBook_number cv) (dVar 1) dNil))
noncomputable def Pzlaw_p4 (cv : Nat → Addr) : DS := (sIf (dOr (dB (dBin neD (dBin ixD (dCall Fztrail (dCons (dF (dSl cutF (dVar 2) dNoPart (dPart (dBin addD (dVar 3) (dC (.int 1)))))) dNil)) (dNeg (dC (.int 1)))) (dMeth (cv 0) "now" (FzBook_now cv) (dVar 1) dNil))) (dB (dBin ltD (getDd (dCall Fzcounts (dCons (dVar 2) dNil)) (dMeth (cv 0) "now" (FzBook_now cv) (dVar 1) dNil)) (dC (.int 1))))) (sRet (dC (.bl false))) sNext)
noncomputable def Pzlaw_p5 : DS:=(sSet 4 (dSl cutT (dCall Fz_law_place (dCons (dVar 0) (dCons (dC (.int 80)) dNil))) dNoPart (dPart (dC (.int 1)))))
noncomputable def Pzlaw_p6 : DS:=(sSet 5 (dCall Fzunder (dCons (dVar 2) (dCons (dVar 4) dNil))))
noncomputable def Pzlaw_p7 (cv : Nat → Addr) : DS := (sSet 6 (dBin eqD (dSl cutT (dMeth (cv 0) "now" (FzBook_now cv) (dVar 1) dNil) dNoPart (dPart (dCall lenD (dCons (dVar 4) dNil)))) (dVar 4)))
noncomputable def Pzlaw_p8 (cv : Nat → Addr) : DS := (sIf (dOr (dB (dBin neD (dMeth (cv 0) "drop" (FzBook_drop cv) (dVar 1) (dCons (dVar 4) dNil)) (dBin subD (dVar 5) (dCall intD (dCons (dVar 6) dNil))))) (dB (dBin neD (dCall Fzunder (dCons (dMeth (cv 0) "entries" (FzBook_entries cv) (dVar 1) dNil) (dCons (dVar 4) dNil))) (dCall intD (dCons (dVar 6) dNil))))) (sRet (dC (.bl false))) sNext)
noncomputable def Pzlaw_p9 (cv : Nat → Addr) : DS:=(sSet 1 (dCall (Fz_law_filled cv) (dCons (dVar 0) (dCons (dC (.int 10)) (dCons (dMake (cv 0) (FzBook___init__ cv) (dCons (dCall Fz_law_place (dCons (dVar 0) (dCons (dC (.int 0)) dNil))) (dCons (dC (.int 9)) dNil))) dNil)))))
noncomputable def Pzlaw_p10 (cv : Nat → Addr) : DS := (sExpr (dMeth (cv 0) "go" (FzBook_go cv) (dVar 1) (dCons (dBin subD (dBin subD (dCall lenD (dCons (dVar 2) dNil)) (dC (.int 1))) (dVar 3)) dNil)))
noncomputable def Ezlaw_1 (cv : Nat → Addr) : DE := (dBin subD (dC (.int 0)) (dMeth (cv 0) "nearest" (FzBook_nearest cv) (dVar 1) (dCons (dVar 0) dNil)))
noncomputable def Pzlaw_p11 (cv : Nat → Addr) : DS:=(sSet 7 (dF (dComp [1] 1 (dSeq (dCall Fzrecent (dCons (dVar 2) (dCons (dC (.int 20)) dNil)))) (tgName 0) dTrue (Ezlaw_1 cv))))
noncomputable def Pzlaw_p12 : DS:=(sIf (dOr (dB (dBin neD (dVar 7) (dF (dCall setIF (dCons (dVar 7) dNil))))) (dB (dBin neD (dBin ixD (dVar 7) (dC (.int 0))) (dC (.int 0))))) (sRet (dC (.bl false))) sNext)
noncomputable def Ezlaw_2 : DE:=(dBin ixD (dVar 1) (dBin subD (dBin subD (dCall lenD (dCons (dVar 1) dNil)) (dC (.int 1))) (dVar 0)))
noncomputable def Pzlaw_p13 : DS:=(sRet (dBin eqD (dF (dComp [2] 1 (dSeq (dVar 7)) (tgName 0) dTrue Ezlaw_2)) (dCall Fzrecent (dCons (dVar 2) (dCons (dC (.int 20)) dNil)))))
noncomputable def gzlaw (cv : Nat → Addr) : DS:=(sSeq (Pzlaw_p1 cv) (sSeq (Pzlaw_p2 cv) (sSeq (Pzlaw_p3 cv) (sSeq (Pzlaw_p4 cv) (sSeq Pzlaw_p5 (sSeq Pzlaw_p6 (sSeq (Pzlaw_p7 cv) (sSeq (Pzlaw_p8 cv) (sSeq (Pzlaw_p9 cv) (sSeq (Pzlaw_p10 cv) (sSeq (Pzlaw_p11 cv) (sSeq Pzlaw_p12 Pzlaw_p13))))))))))))
noncomputable def Fzlaw (cv : Nat → Addr) : FD:=runF 8 1 (gzlaw cv)
section
set_option maxHeartbeats 4000000
variable {P : Program} {w : World} {K : PySem.W.Frag} {mg : Str → Option Value} {base : Heap} {cv : Nat → Addr}
theorem okz_law_cell {f : Addr} {fd : FuncData} (F : Fun K "_law_cell" "_law_cell" sz_law_cell f fd) (hm : mg "_law_cell" = some (.ref f)) (hb : Binds K fd ["_law_script", "_law_k"] []) (b_len : mg "len" = none) : FnAt P w K mg base "_law_cell" 1 Fz_law_cell :=
 fnAt (k:=0) F scz_law_cell hm hb fun cdv A outer s H E hr => (pds_cons (pd_if (pdt_cmp (op_eqD hr.units) (pd_var 0) (pd_F (pdf_lst pda_nil))) (pds_one (pd_ret (pd_op op_mul2D pd_int (pd_var 1)))) pds_nil) (pds_one (pd_ret (pd_op op_addD (pd_ix (pd_var 0) (pd_op op_modD (pd_var 1) (pd_callB call_lenD rfl b_len PySem.boot_len (pda_cons (pd_var 0) pda_nil)))) (pd_op op_mul2D pd_int (pd_op op_fdivD (pd_var 1) (pd_callB call_lenD rfl b_len PySem.boot_len (pda_cons (pd_var 0) pda_nil))))))))
theorem okz_law_drawn {f : Addr} {fd : FuncData} (F : Fun K "_law_drawn" "_law_drawn" sz_law_drawn f fd) (hm : mg "_law_drawn" = some (.ref f)) (hb : Binds K fd ["_law_script", "_law_k", "_law_many"] []) (hz_law_cell : FnAt P w K mg base "_law_cell" 1 Fz_law_cell) : FnAt P w K mg base "_law_drawn" 2 Fz_law_drawn :=
 fnAt (k:=1) F scz_law_drawn hm hb fun cdv A outer s H E hr => (pds_cons (pd_set 3 scz_law_drawn.nd rfl (by first | exact Or.inl rfl | exact Or.inr rfl) (pd_op op_modD (pd_op op_addD (pd_op op_mul2D (pd_op op_modD (pd_fn hz_law_cell hr (by decide) rfl (pda_cons (pd_var 0) (pda_cons (pd_var 1) pda_nil))) pd_int) pd_int) (pd_op op_mul2D pd_int (pd_op op_addD (pd_var 1) pd_int))) pd_int)) (pds_cons (pd_set 3 scz_law_drawn.nd rfl (by first | exact Or.inl rfl | exact Or.inr rfl) (pd_op op_modD (pd_op op_addD (pd_op op_mul2D (pd_var 3) (pd_var 3)) (pd_op op_fdivD (pd_var 3) pd_int)) pd_int)) (pds_one (pd_ret (pd_op op_modD (pd_op op_fdivD (pd_op op_modD (pd_op op_addD (pd_op op_mul2D (pd_var 3) (pd_var 3)) (pd_op op_fdivD (pd_var 3) pd_int)) pd_int) pd_int) (pd_var 2))))))
theorem okz_law_place {f : Addr} {fd : FuncData} (F : Fun K "_law_place" "_law_place" sz_law_place f fd) (hm : mg "_law_place" = some (.ref f)) (hb : Binds K fd ["_law_script", "_law_at"] []) (b_range : mg "range" = none) (b_tuple : mg "tuple" = none) (hz_law_drawn : FnAt P w K mg base "_law_drawn" 2 Fz_law_drawn) : FnAt P w K mg base "_law_place" 3 Fz_law_place :=
 fnAt (k := 2) F scz_law_place hm hb fun cdv A outer s H E hr => (pds_one (pd_ret (pd_callTy call_tupleD rfl b_tuple PyProof.Rows.boot_tuple (pda_cons (pd_F (pdf_lc rfl ⟨Blk.of (N := ["_law_k", "_law_script", "_law_at"]) (caps := [0, 1]) (nT := 1) (by show blkB (defScope sz_law_place) _ ["_law_script", "_law_at"] _ _ _ = true; decide +kernel), fun _ _ _ _ => (pgd_name 0 (by show (["_law_k", "_law_script", "_law_at"] : List Str).Nodup; decide +kernel) rfl (by first | exact Or.inl rfl | exact Or.inr rfl)), fun _ _ _ _ => pts_nil, fun _ _ _ _ => (pd_ix pd_str (pd_fn hz_law_drawn hr (by decide) rfl (pda_cons (pd_var 1) (pda_cons (pd_op op_addD (pd_op op_addD (pd_var 2) pd_int) (pd_var 0)) (pda_cons pd_int pda_nil)))))⟩ (pid_range1 rfl b_range (pda_cons (pd_fn hz_law_drawn hr (by decide) rfl (pda_cons (pd_var 0) (pda_cons (pd_var 1) (pda_cons pd_int pda_nil)))) pda_nil)))) pda_nil))))
theorem okzBook___init__ {f : Addr} {fd : FuncData} (F : Fun K "__init__" "Book.__init__" szBook___init__ f fd) (hm : Mk K (cv 0) f) (hb : Binds K fd ["self", "place", "most"] []) (hx : mg "Book" = some (.ref (cv 0))) {t_NO_MARK : Tok} (c_NO_MARK : mg "NO_MARK" = some (Value.int 0 t_NO_MARK)) (cl_Book : Cls K (cv 0)) (na_Book_most : NoAttr K (cv 0) "most") (na_Book_rows : NoAttr K (cv 0) "rows") (na_Book_spot : NoAttr K (cv 0) "spot") : MkAt P w K mg base "Book" (cv 0) 1 (FzBook___init__ cv) :=
 mkAt (k:=0) F sczBook___init__ hm hb hx fun cdv A outer s H E hr => (pds_cons (pd_fldS (pd_var 0) (pd_var 2) cl_Book na_Book_most) (pds_cons (pd_fldF (pd_var 0) (pdf_lst (pda_cons (pd_tup (pda_cons (pd_var 1) (pda_cons (pd_glob (v:=.int 0) rfl c_NO_MARK ⟨_, rfl⟩ (fun _ _ => Rep.int_i.mpr rfl)) pda_nil))) pda_nil)) cl_Book na_Book_rows) (pds_one (pd_fldS (pd_var 0) pd_int cl_Book na_Book_spot))))
theorem okzBook_visit {f : Addr} {fd : FuncData} (F : Fun K "visit" "Book.visit" szBook_visit f fd) (hm : Meth K (cv 0) "visit" f) (hb : Binds K fd ["self", "place"] []) (b_len : mg "len" = none) {t_NO_MARK : Tok} (c_NO_MARK : mg "NO_MARK" = some (Value.int 0 t_NO_MARK)) (cl_Book : Cls K (cv 0)) (na_Book_most : NoAttr K (cv 0) "most") (na_Book_rows : NoAttr K (cv 0) "rows") (na_Book_spot : NoAttr K (cv 0) "spot") : MtAt P w K mg base (cv 0) "visit" 1 (FzBook_visit cv) :=
 mtAt (k:=0) F sczBook_visit hm hb fun cdv A outer s H E hr => (pds_cons (pd_setF 2 sczBook_visit.nd rfl (by first | exact Or.inl rfl | exact Or.inr rfl) (pdf_op op_catL (pd_F (pdf_slice sl_F (pd_fld (pd_var 0) cl_Book na_Book_rows) pdo_none (pdo_some (pd_op op_addD (pd_fld (pd_var 0) cl_Book na_Book_spot) pd_int)))) (pd_F (pdf_lst (pda_cons (pd_tup (pda_cons (pd_var 1) (pda_cons (pd_glob (v:=.int 0) rfl c_NO_MARK ⟨_, rfl⟩ (fun _ _ => Rep.int_i.mpr rfl)) pda_nil))) pda_nil))))) (pds_cons (pd_if (pdt_cmp op_gtD (pd_callB call_lenD rfl b_len PySem.boot_len (pda_cons (pd_var 2) pda_nil)) (pd_fld (pd_var 0) cl_Book na_Book_most)) (pds_one (pd_setF 2 sczBook_visit.nd rfl (by first | exact Or.inl rfl | exact Or.inr rfl) (pdf_slice sl_F (pd_var 2) (pdo_some pd_int) pdo_none))) pds_nil) (pds_cons (pd_fldS (pd_var 0) (pd_var 2) cl_Book na_Book_rows) (pds_one (pd_fldS (pd_var 0) (pd_op op_subD (pd_callB call_lenD rfl b_len PySem.boot_len (pda_cons (pd_var 2) pda_nil)) pd_int) cl_Book na_Book_spot)))))
theorem okzBook_now {f : Addr} {fd : FuncData} (F : Fun K "now" "Book.now" szBook_now f fd) (hm : Meth K (cv 0) "now" f) (hb : Binds K fd ["self"] []) (cl_Book : Cls K (cv 0)) (na_Book_rows : NoAttr K (cv 0) "rows") (na_Book_spot : NoAttr K (cv 0) "spot") : MtAt P w K mg base (cv 0) "now" 1 (FzBook_now cv) :=
 mtAt (k:=0) F sczBook_now hm hb fun cdv A outer s H E hr => (pds_one (pd_ret (pd_ix (pd_ix (pd_fld (pd_var 0) cl_Book na_Book_rows) (pd_fld (pd_var 0) cl_Book na_Book_spot)) pd_int)))
theorem okzBook_mark {f : Addr} {fd : FuncData} (F : Fun K "mark" "Book.mark" szBook_mark f fd) (hm : Meth K (cv 0) "mark" f) (hb : Binds K fd ["self", "number"] []) (cl_Book : Cls K (cv 0)) (na_Book_rows : NoAttr K (cv 0) "rows") (na_Book_spot : NoAttr K (cv 0) "spot") (hzBook_now : MtAt P w K mg base (cv 0) "now" 1 (FzBook_now cv)) : MtAt P w K mg base (cv 0) "mark" 2 (FzBook_mark cv) :=
 mtAt (k:=1) F sczBook_mark hm hb fun cdv A outer s H E hr => (pds_one (pd_setIx (pd_fld (pd_var 0) cl_Book na_Book_rows) (pd_fld (pd_var 0) cl_Book na_Book_spot) (pd_tup (pda_cons (pd_mt0 hzBook_now cl_Book hr (by decide) (pd_var 0)) (pda_cons (pd_var 1) pda_nil)))))
theorem okzBook_number {f : Addr} {fd : FuncData} (F : Fun K "number" "Book.number" szBook_number f fd) (hm : Meth K (cv 0) "number" f) (hb : Binds K fd ["self"] []) (cl_Book : Cls K (cv 0)) (na_Book_spot : NoAttr K (cv 0) "spot") : MtAt P w K mg base (cv 0) "number" 1 (FzBook_number cv) :=
 mtAt (k:=0) F sczBook_number hm hb fun cdv A outer s H E hr => (pds_one (pd_ret (pd_fld (pd_var 0) cl_Book na_Book_spot)))
theorem okzBook_can_go {f : Addr} {fd : FuncData} (F : Fun K "can_go" "Book.can_go" szBook_can_go f fd) (hm : Meth K (cv 0) "can_go" f) (hb : Binds K fd ["self", "by"] []) (b_len : mg "len" = none) (cl_Book : Cls K (cv 0)) (na_Book_rows : NoAttr K (cv 0) "rows") (na_Book_spot : NoAttr K (cv 0) "spot") : MtAt P w K mg base (cv 0) "can_go" 1 (FzBook_can_go cv) :=
 mtAt (k:=0) F sczBook_can_go hm hb fun cdv A outer s H E hr => (pds_one (pd_ret (pd_chain op_leX op_ltD pd_int (pd_op op_addD (pd_fld (pd_var 0) cl_Book na_Book_spot) (pd_var 1)) (pd_callB call_lenD rfl b_len PySem.boot_len (pda_cons (pd_fld (pd_var 0) cl_Book na_Book_rows) pda_nil)))))
theorem okzBook_place_at {f : Addr} {fd : FuncData} (F : Fun K "place_at" "Book.place_at" szBook_place_at f fd) (hm : Meth K (cv 0) "place_at" f) (hb : Binds K fd ["self", "by"] []) (cl_Book : Cls K (cv 0)) (na_Book_rows : NoAttr K (cv 0) "rows") (na_Book_spot : NoAttr K (cv 0) "spot") (hzBook_can_go : MtAt P w K mg base (cv 0) "can_go" 1 (FzBook_can_go cv)) : MtAt P w K mg base (cv 0) "place_at" 2 (FzBook_place_at cv) :=
 mtAt (k:=1) F sczBook_place_at hm hb fun cdv A outer s H E hr => (pds_cons (pd_if (pdt_not (pdt_val (pd_mt hzBook_can_go cl_Book hr (by decide) (pd_var 0) (pda_cons (pd_var 1) pda_nil)))) (pds_one pd_bad) pds_nil) (pds_one (pd_ret (pd_ix (pd_ix (pd_fld (pd_var 0) cl_Book na_Book_rows) (pd_op op_addD (pd_fld (pd_var 0) cl_Book na_Book_spot) (pd_var 1))) pd_int))))
theorem okzBook_go {f : Addr} {fd : FuncData} (F : Fun K "go" "Book.go" szBook_go f fd) (hm : Meth K (cv 0) "go" f) (hb : Binds K fd ["self", "by"] []) (cl_Book : Cls K (cv 0)) (na_Book_spot : NoAttr K (cv 0) "spot") (hzBook_place_at : MtAt P w K mg base (cv 0) "place_at" 2 (FzBook_place_at cv)) : MtAt P w K mg base (cv 0) "go" 3 (FzBook_go cv) :=
 mtAt (k:=2) F sczBook_go hm hb fun cdv A outer s H E hr => (pds_cons (pd_set 2 sczBook_go.nd rfl (by first | exact Or.inl rfl | exact Or.inr rfl) (pd_mt hzBook_place_at cl_Book hr (by decide) (pd_var 0) (pda_cons (pd_var 1) pda_nil))) (pds_cons (pd_fldAdd (pd_var 0) (pd_var 1) cl_Book na_Book_spot) (pds_one (pd_ret (pd_var 2)))))
theorem okz_law_filled {f : Addr} {fd : FuncData} (F : Fun K "_law_filled" "_law_filled" sz_law_filled f fd) (hm : mg "_law_filled" = some (.ref f)) (hb : Binds K fd ["_law_script", "_law_at", "_law_book"] []) (b_range : mg "range" = none) (cl_Book : Cls K (cv 0)) (hzBook_go : MtAt P w K mg base (cv 0) "go" 3 (FzBook_go cv)) (hzBook_mark : MtAt P w K mg base (cv 0) "mark" 2 (FzBook_mark cv)) (hzBook_number : MtAt P w K mg base (cv 0) "number" 1 (FzBook_number cv)) (hzBook_visit : MtAt P w K mg base (cv 0) "visit" 1 (FzBook_visit cv)) (hz_law_drawn : FnAt P w K mg base "_law_drawn" 2 Fz_law_drawn) (hz_law_place : FnAt P w K mg base "_law_place" 3 Fz_law_place) : FnAt P w K mg base "_law_filled" 4 (Fz_law_filled cv) :=
 fnAt (k:=3) F scz_law_filled hm hb fun cdv A outer s H E hr => (pds_cons (pd_for PassesOwn.never rfl (pid_range1 rfl b_range (pda_cons (pd_fn hz_law_drawn hr (by decide) rfl (pda_cons (pd_var 0) (pda_cons (pd_var 1) (pda_cons pd_int pda_nil)))) pda_nil)) (pgd_name 3 scz_law_filled.nd rfl (by first | exact Or.inl rfl | exact Or.inr rfl)) (pds_cons (pd_expr (pd_mt hzBook_visit cl_Book hr (by decide) (pd_var 2) (pda_cons (pd_slice sl_T (pd_fn hz_law_place hr (by decide) rfl (pda_cons (pd_var 0) (pda_cons (pd_op op_addD (pd_op op_addD (pd_var 1) pd_int) (pd_op op_mul2D pd_int (pd_var 3))) pda_nil))) pdo_none (pdo_some pd_int)) pda_nil))) (pds_one (pd_expr (pd_mt hzBook_mark cl_Book hr (by decide) (pd_var 2) (pda_cons (pd_op op_addD (pd_var 3) pd_int) pda_nil)))))) (pds_cons (pd_set 4 scz_law_filled.nd rfl (by first | exact Or.inl rfl | exact Or.inr rfl) (pd_fn hz_law_drawn hr (by decide) rfl (pda_cons (pd_var 0) (pda_cons (pd_op op_addD (pd_var 1) pd_int) (pda_cons (pd_op op_addD (pd_mt0 hzBook_number cl_Book hr (by decide) (pd_var 2)) pd_int) pda_nil))))) (pds_cons (pd_expr (pd_mt hzBook_go cl_Book hr (by decide) (pd_var 2) (pda_cons (pd_op op_subD pd_int (pd_var 4)) pda_nil))) (pds_one (pd_ret (pd_var 2))))))
theorem okzBook_entries {f : Addr} {fd : FuncData} (F : Fun K "entries" "Book.entries" szBook_entries f fd) (hm : Meth K (cv 0) "entries" f) (hb : Binds K fd ["self"] []) (cl_Book : Cls K (cv 0)) (na_Book_rows : NoAttr K (cv 0) "rows") : MtAt P w K mg base (cv 0) "entries" 1 (FzBook_entries cv) :=
 mtAt (k := 0) F sczBook_entries hm hb fun cdv A outer s H E hr => (pds_one (pd_ret (pd_F (pdf_lc rfl ⟨Blk.of (N := ["row"]) (caps := []) (nT := 1) (by show blkB (defScope szBook_entries) _ ["self"] _ _ _ = true; decide +kernel), fun _ _ _ _ => (pgd_name 0 (by show (["row"] : List Str).Nodup; decide +kernel) rfl (by first | exact Or.inl rfl | exact Or.inr rfl)), fun _ _ _ _ => pts_nil, fun _ _ _ _ => (pd_ix (pd_var 0) pd_int)⟩ (pid_seq (pd_fld (pd_var 0) cl_Book na_Book_rows))))))
theorem okztrail {f : Addr} {fd : FuncData} (F : Fun K "trail" "trail" sztrail f fd) (hm : mg "trail" = some (.ref f)) (hb : Binds K fd ["places"] [])  : FnAt P w K mg base "trail" 1 Fztrail :=
 fnAt (k:=0) F scztrail hm hb fun cdv A outer s H E hr => (pds_cons (pd_setF 1 scztrail.nd rfl (by first | exact Or.inl rfl | exact Or.inr rfl) (pdf_lst pda_nil)) (pds_cons (pd_for PassesOwn.never rfl (pid_seq (pd_var 0)) (pgd_name 2 scztrail.nd rfl (by first | exact Or.inl rfl | exact Or.inr rfl)) (pds_one (pd_if (pdt_cmp (op_inD hr.units) (pd_var 2) (pd_var 1)) (pds_one (pd_setF 1 scztrail.nd rfl (by first | exact Or.inl rfl | exact Or.inr rfl) (pdf_slice sl_F (pd_var 1) pdo_none (pdo_some (pd_op op_addD (pd_lm PySem.F.slot_list_index PySem.F.type_list_index (mt_indexD hr.units) (pd_var 1) (pda_cons (pd_var 2) pda_nil)) pd_int))))) (pds_one (pd_expr (pd_append (pd_var 1) (pd_var 2))))))) (pds_one (pd_ret (pd_var 1)))))
theorem okzcounts {f : Addr} {fd : FuncData} (F : Fun K "counts" "counts" szcounts f fd) (hm : mg "counts" = some (.ref f)) (hb : Binds K fd ["places"] [])  : FnAt P w K mg base "counts" 1 Fzcounts :=
 fnAt (k:=0) F sczcounts hm hb fun cdv A outer s H E hr => (pds_cons (pd_set 1 sczcounts.nd rfl (by first | exact Or.inl rfl | exact Or.inr rfl) pd_dnewT) (pds_cons (pd_for PassesOwn.never rfl (pid_seq (pd_var 0)) (pgd_name 2 sczcounts.nd rfl (by first | exact Or.inl rfl | exact Or.inr rfl)) (pds_one (pd_dput hr.units (pd_var 1) (pd_var 2) (pd_op op_addD (pd_dget2 hr.units (pd_var 1) (pd_var 2) pd_int) pd_int)))) (pds_one (pd_ret (pd_var 1)))))
theorem okzis_under {f : Addr} {fd : FuncData} (F : Fun K "is_under" "is_under" szis_under f fd) (hm : mg "is_under" = some (.ref f)) (hb : Binds K fd ["place", "other"] []) (b_len : mg "len" = none) : FnAt P w K mg base "is_under" 1 Fzis_under :=
 fnAt (k:=0) F sczis_under hm hb fun cdv A outer s H E hr => (pds_one (pd_ret (pd_cmp (op_eqD hr.units) (pd_slice sl_T (pd_var 0) pdo_none (pdo_some (pd_callB call_lenD rfl b_len PySem.boot_len (pda_cons (pd_var 1) pda_nil)))) (pd_var 1))))
theorem okzunder {f : Addr} {fd : FuncData} (F : Fun K "under" "under" szunder f fd) (hm : mg "under" = some (.ref f)) (hb : Binds K fd ["places", "other"] []) (b_len : mg "len" = none) (hzis_under : FnAt P w K mg base "is_under" 1 Fzis_under) : FnAt P w K mg base "under" 2 Fzunder :=
 fnAt (k := 1) F sczunder hm hb fun cdv A outer s H E hr => (pds_one (pd_ret (pd_callB call_lenD rfl b_len PySem.boot_len (pda_cons (pd_F (pdf_lc rfl ⟨Blk.of (N := ["place", "other"]) (caps := [1]) (nT := 1) (by show blkB (defScope szunder) _ ["places", "other"] _ _ _ = true; decide +kernel), fun _ _ _ _ => (pgd_name 0 (by show (["place", "other"] : List Str).Nodup; decide +kernel) rfl (by first | exact Or.inl rfl | exact Or.inr rfl)), fun _ _ _ _ => pts_one (pdt_val (pd_fn hzis_under hr (by decide) rfl (pda_cons (pd_var 0) (pda_cons (pd_var 1) pda_nil)))), fun _ _ _ _ => (pd_var 0)⟩ (pid_seq (pd_var 0)))) pda_nil))))
theorem okzBook_keep_only {f : Addr} {fd : FuncData} (F : Fun K "keep_only" "Book.keep_only" szBook_keep_only f fd) (hm : Meth K (cv 0) "keep_only" f) (hb : Binds K fd ["self", "spots"] []) (b_len : mg "len" = none) (cl_Book : Cls K (cv 0)) (na_Book_rows : NoAttr K (cv 0) "rows") (na_Book_spot : NoAttr K (cv 0) "spot") : MtAt P w K mg base (cv 0) "keep_only" 1 (FzBook_keep_only cv) :=
 mtAt (k := 0) F sczBook_keep_only hm hb fun cdv A outer s H E hr => (pds_cons (pd_set 2 sczBook_keep_only.nd rfl (by first | exact Or.inl rfl | exact Or.inr rfl) (pd_op op_subD (pd_callB call_lenD rfl b_len PySem.boot_len (pda_cons (pd_fld (pd_var 0) cl_Book na_Book_rows) pda_nil)) (pd_callB call_lenD rfl b_len PySem.boot_len (pda_cons (pd_var 1) pda_nil)))) (pds_cons (pd_set 3 sczBook_keep_only.nd rfl (by first | exact Or.inl rfl | exact Or.inr rfl) (pd_callB call_lenD rfl b_len PySem.boot_len (pda_cons (pd_F (pdf_lc rfl ⟨Blk.of (N := ["kept", "self"]) (caps := [0]) (nT := 1) (by show blkB (defScope szBook_keep_only) _ ["self", "spots", "many", "spot"] _ _ _ = true; decide +kernel), fun _ _ _ _ => (pgd_name 0 (by show (["kept", "self"] : List Str).Nodup; decide +kernel) rfl (by first | exact Or.inl rfl | exact Or.inr rfl)), fun _ _ _ _ => pts_one (pdt_cmp op_ltD (pd_var 0) (pd_fld (pd_var 1) cl_Book na_Book_spot)), fun _ _ _ _ => (pd_var 0)⟩ (pid_seq (pd_var 1)))) pda_nil))) (pds_cons (pd_fldF (pd_var 0) (pdf_lc rfl ⟨Blk.of (N := ["kept", "self"]) (caps := [0]) (nT := 1) (by show blkB (defScope szBook_keep_only) _ ["self", "spots", "many", "spot"] _ _ _ = true; decide +kernel), fun _ _ _ _ => (pgd_name 0 (by show (["kept", "self"] : List Str).Nodup; decide +kernel) rfl (by first | exact Or.inl rfl | exact Or.inr rfl)), fun _ _ _ _ => pts_nil, fun _ _ _ _ => (pd_ix (pd_fld (pd_var 1) cl_Book na_Book_rows) (pd_var 0))⟩ (pid_seq (pd_var 1))) cl_Book na_Book_rows) (pds_cons (pd_fldS (pd_var 0) (pd_var 3) cl_Book na_Book_spot) (pds_one (pd_ret (pd_var 2)))))))
theorem okzBook_drop {f : Addr} {fd : FuncData} (F : Fun K "drop" "Book.drop" szBook_drop f fd) (hm : Meth K (cv 0) "drop" f) (hb : Binds K fd ["self", "other"] []) (b_enumerate : mg "enumerate" = none) (cl_Book : Cls K (cv 0)) (na_Book_rows : NoAttr K (cv 0) "rows") (na_Book_spot : NoAttr K (cv 0) "spot") (hzBook_keep_only : MtAt P w K mg base (cv 0) "keep_only" 1 (FzBook_keep_only cv)) (hzis_under : FnAt P w K mg base "is_under" 1 Fzis_under) : MtAt P w K mg base (cv 0) "drop" 2 (FzBook_drop cv) :=
 mtAt (k := 1) F sczBook_drop hm hb fun cdv A outer s H E hr => (pds_one (pd_ret (pd_mt hzBook_keep_only cl_Book hr (by decide) (pd_var 0) (pda_cons (pd_F (pdf_lc rfl ⟨Blk.of (N := ["spot", "row", "self", "other"]) (caps := [0, 1]) (nT := 2) (by show blkB (defScope szBook_drop) _ ["self", "other"] _ _ _ = true; decide +kernel), fun _ _ _ _ => (pgd_tup rfl (pgsd_cons 0 (by show (["spot", "row", "self", "other"] : List Str).Nodup; decide +kernel) rfl (by first | exact Or.inl rfl | exact Or.inr rfl) (pgsd_cons 1 (by show (["spot", "row", "self", "other"] : List Str).Nodup; decide +kernel) rfl (by first | exact Or.inl rfl | exact Or.inr rfl) pgsd_nil))), fun _ _ _ _ => pts_one (PDW.pt (pdw_or (pdt_cmp (op_eqD hr.units) (pd_var 0) (pd_fld (pd_var 2) cl_Book na_Book_spot)) (pdw_or1 (pdt_not (pdt_val (pd_fn hzis_under hr (by decide) rfl (pda_cons (pd_ix (pd_var 1) pd_int) (pda_cons (pd_var 3) pda_nil)))))))), fun _ _ _ _ => (pd_var 0)⟩ (pid_enum rfl b_enumerate (pd_fld (pd_var 0) cl_Book na_Book_rows)))) pda_nil))))
theorem okzlast_first {f : Addr} {fd : FuncData} (F : Fun K "last_first" "last_first" szlast_first f fd) (hm : mg "last_first" = some (.ref f)) (hb : Binds K fd ["places"] []) (b_list : mg "list" = none) (b_reversed : mg "reversed" = none) : FnAt P w K mg base "last_first" 1 Fzlast_first :=
 fnAt (k:=0) F sczlast_first hm hb fun cdv A outer s H E hr => (pds_cons (pd_set 1 sczlast_first.nd rfl (by first | exact Or.inl rfl | exact Or.inr rfl) pd_dnewT) (pds_cons (pd_for PassesOwn.never rfl (pid_rev rfl b_reversed (pd_var 0)) (pgd_name 2 sczlast_first.nd rfl (by first | exact Or.inl rfl | exact Or.inr rfl)) (pds_one (pd_dput hr.units (pd_var 1) (pd_var 2) pd_bl))) (pds_one (pd_ret (pd_F (pdf_callTy (call_listTF rfl) rfl b_list PyProof.Rows.boot_list (pda_cons (pd_var 1) pda_nil)))))))
theorem okzat_most {f : Addr} {fd : FuncData} (F : Fun K "at_most" "at_most" szat_most f fd) (hm : mg "at_most" = some (.ref f)) (hb : Binds K fd ["places", "most"] []) (b_max : mg "max" = none) : FnAt P w K mg base "at_most" 1 Fzat_most :=
 fnAt (k:=0) F sczat_most hm hb fun cdv A outer s H E hr => (pds_one (pd_ret (pd_F (pdf_slice sl_F (pd_var 0) pdo_none (pdo_some (pd_callB (call_max2D rfl) rfl b_max PyProof.Rows.boot_max (pda_cons (pd_var 1) (pda_cons pd_int pda_nil))))))))
theorem okzrecent {f : Addr} {fd : FuncData} (F : Fun K "recent" "recent" szrecent f fd) (hm : mg "recent" = some (.ref f)) (hb : Binds K fd ["places", "most"] []) (hzat_most : FnAt P w K mg base "at_most" 1 Fzat_most) (hzlast_first : FnAt P w K mg base "last_first" 1 Fzlast_first) : FnAt P w K mg base "recent" 2 Fzrecent :=
 fnAt (k:=1) F sczrecent hm hb fun cdv A outer s H E hr => (pds_one (pd_ret (pd_fn hzat_most hr (by decide) rfl (pda_cons (pd_fn hzlast_first hr (by decide) rfl (pda_cons (pd_var 0) pda_nil)) (pda_cons (pd_var 1) pda_nil)))))
theorem okzBook_nearest {f : Addr} {fd : FuncData} (F : Fun K "nearest" "Book.nearest" szBook_nearest f fd) (hm : Meth K (cv 0) "nearest" f) (hb : Binds K fd ["self", "place"] []) (b_abs : mg "abs" = none) (b_enumerate : mg "enumerate" = none) (b_min : mg "min" = none) (cl_Book : Cls K (cv 0)) (na_Book_rows : NoAttr K (cv 0) "rows") (na_Book_spot : NoAttr K (cv 0) "spot") : MtAt P w K mg base (cv 0) "nearest" 1 (FzBook_nearest cv) :=
 mtAt (k := 0) F sczBook_nearest hm hb fun cdv A outer s H E hr => (pds_cons (pd_setLC 2 rfl ⟨Blk.of (N := ["spot", "row", "self", "place"]) (caps := [0, 1]) (nT := 2) (by show blkB (defScope szBook_nearest) _ ["self", "place", "ways"] _ _ _ = true; decide +kernel), fun _ _ _ _ => (pgd_tup rfl (pgsd_cons 0 (by show (["spot", "row", "self", "place"] : List Str).Nodup; decide +kernel) rfl (by first | exact Or.inl rfl | exact Or.inr rfl) (pgsd_cons 1 (by show (["spot", "row", "self", "place"] : List Str).Nodup; decide +kernel) rfl (by first | exact Or.inl rfl | exact Or.inr rfl) pgsd_nil))), fun _ _ _ _ => pts_one (pdt_cmp (op_eqD hr.units) (pd_ix (pd_var 1) pd_int) (pd_var 3)), fun _ _ _ _ => (pd_op op_subD (pd_var 0) (pd_fld (pd_var 2) cl_Book na_Book_spot))⟩ (pid_enum rfl b_enumerate (pd_fld (pd_var 0) cl_Book na_Book_rows)) sczBook_nearest.nd rfl (by first | exact Or.inl rfl | exact Or.inr rfl)) (pds_one (pd_ret (pd_minAbs rfl rfl b_min rfl b_abs (pd_var 2)))))
noncomputable abbrev Nzlaw : List Str := ["_law_script", "_law_book", "_law_entries", "_law_at", "_law_other", "_law_many", "_law_is_under_it", "_law_far"]
theorem okzlaw_p1 (hzBook___init__ : MkAt P w K mg base "Book" (cv 0) 1 (FzBook___init__ cv)) (hz_law_filled : FnAt P w K mg base "_law_filled" 4 (Fz_law_filled cv)) (hz_law_place : FnAt P w K mg base "_law_place" 3 Fz_law_place) (fA : Addr) (cdv : Value) (A : Around) (outer : List Env) (s : Shared) (H : Hp) (E : XK) (hr : Room 4 (A.deeper (PyProof.Rows.envOfC "law" (defScope szlaw) s.heap.objs.size fA cdv))) : PDs (cxOf CX0 P w K mg base Nzlaw "law" (defScope szlaw) fA cdv A outer s H E).nox EX0 stzlaw_p1 (Pzlaw_p1 cv) := (pd_set 1 sczlaw.nd rfl (by first | exact Or.inl rfl | exact Or.inr rfl) (pd_fn hz_law_filled hr (by decide) rfl (pda_cons (pd_var 0) (pda_cons pd_int (pda_cons (pd_mk hzBook___init__ hr (by decide) rfl (pda_cons (pd_fn hz_law_place hr (by decide) rfl (pda_cons (pd_var 0) (pda_cons pd_int pda_nil))) (pda_cons pd_int pda_nil))) pda_nil)))))
theorem okzlaw_p2 (cl_Book : Cls K (cv 0)) (hzBook_entries : MtAt P w K mg base (cv 0) "entries" 1 (FzBook_entries cv)) (fA : Addr) (cdv : Value) (A : Around) (outer : List Env) (s : Shared) (H : Hp) (E : XK) (hr : Room 4 (A.deeper (PyProof.Rows.envOfC "law" (defScope szlaw) s.heap.objs.size fA cdv))) : PDs (cxOf CX0 P w K mg base Nzlaw "law" (defScope szlaw) fA cdv A outer s H E).nox EX0 stzlaw_p2 (Pzlaw_p2 cv) := (pd_set 2 sczlaw.nd rfl (by first | exact Or.inl rfl | exact Or.inr rfl) (pd_mt0 hzBook_entries cl_Book hr (by decide) (pd_var 1)))
theorem okzlaw_p3 (cl_Book : Cls K (cv 0)) (hzBook_number : MtAt P w K mg base (cv 0) "number" 1 (FzBook_number cv)) (fA : Addr) (cdv : Value) (A : Around) (outer : List Env) (s : Shared) (H : Hp) (E : XK) (hr : Room 4 (A.deeper (PyProof.Rows.envOfC "law" (defScope szlaw) s.heap.objs.size fA cdv))) : PDs (cxOf CX0 P w K mg base Nzlaw "law" (defScope szlaw) fA cdv A outer s H E).nox EX0 stzlaw_p3 (Pzlaw_p3 cv) := (pd_set 3 sczlaw.nd rfl (by first | exact Or.inl rfl | exact Or.inr rfl) (pd_mt0 hzBook_number cl_Book hr (by decide) (pd_var 1)))
theorem okzlaw_p4 (cl_Book : Cls K (cv 0)) (hzBook_now : MtAt P w K mg base (cv 0) "now" 1 (FzBook_now cv)) (hzcounts : FnAt P w K mg base "counts" 1 Fzcounts) (hztrail : FnAt P w K mg base "trail" 1 Fztrail) (fA : Addr) (cdv : Value) (A : Around) (outer : List Env) (s : Shared) (H : Hp) (E : XK) (hr : Room 4 (A.deeper (PyProof.Rows.envOfC "law" (defScope szlaw) s.heap.objs.size fA cdv))) : PDs (cxOf CX0 P w K mg base Nzlaw "law" (defScope szlaw) fA cdv A outer s H E).nox EX0 stzlaw_p4 (Pzlaw_p4 cv) := (pd_if (PDW.pt (pdw_or (pdt_cmp (op_neD hr.units) (pd_ix (pd_fn hztrail hr (by decide) rfl (pda_cons (pd_F (pdf_slice sl_F (pd_var 2) pdo_none (pdo_some (pd_op op_addD (pd_var 3) pd_int)))) pda_nil)) (pd_neg pd_int)) (pd_mt0 hzBook_now cl_Book hr (by decide) (pd_var 1))) (pdw_or1 (pdt_cmp op_ltD (pd_dget hr.units (pd_fn hzcounts hr (by decide) rfl (pda_cons (pd_var 2) pda_nil)) (pd_mt0 hzBook_now cl_Book hr (by decide) (pd_var 1))) pd_int)))) (pds_one (pd_ret pd_bl)) pds_nil)
theorem okzlaw_p5 (hz_law_place : FnAt P w K mg base "_law_place" 3 Fz_law_place) (fA : Addr) (cdv : Value) (A : Around) (outer : List Env) (s : Shared) (H : Hp) (E : XK) (hr : Room 4 (A.deeper (PyProof.Rows.envOfC "law" (defScope szlaw) s.heap.objs.size fA cdv))) : PDs (cxOf CX0 P w K mg base Nzlaw "law" (defScope szlaw) fA cdv A outer s H E).nox EX0 stzlaw_p5 Pzlaw_p5 := (pd_set 4 sczlaw.nd rfl (by first | exact Or.inl rfl | exact Or.inr rfl) (pd_slice sl_T (pd_fn hz_law_place hr (by decide) rfl (pda_cons (pd_var 0) (pda_cons pd_int pda_nil))) pdo_none (pdo_some pd_int)))
theorem okzlaw_p6 (hzunder : FnAt P w K mg base "under" 2 Fzunder) (fA : Addr) (cdv : Value) (A : Around) (outer : List Env) (s : Shared) (H : Hp) (E : XK) (hr : Room 4 (A.deeper (PyProof.Rows.envOfC "law" (defScope szlaw) s.heap.objs.size fA cdv))) : PDs (cxOf CX0 P w K mg base Nzlaw "law" (defScope szlaw) fA cdv A outer s H E).nox EX0 stzlaw_p6 Pzlaw_p6 := (pd_set 5 sczlaw.nd rfl (by first | exact Or.inl rfl | exact Or.inr rfl) (pd_fn hzunder hr (by decide) rfl (pda_cons (pd_var 2) (pda_cons (pd_var 4) pda_nil))))
theorem okzlaw_p7 (b_len : mg "len" = none) (cl_Book : Cls K (cv 0)) (hzBook_now : MtAt P w K mg base (cv 0) "now" 1 (FzBook_now cv)) (fA : Addr) (cdv : Value) (A : Around) (outer : List Env) (s : Shared) (H : Hp) (E : XK) (hr : Room 4 (A.deeper (PyProof.Rows.envOfC "law" (defScope szlaw) s.heap.objs.size fA cdv))) : PDs (cxOf CX0 P w K mg base Nzlaw "law" (defScope szlaw) fA cdv A outer s H E).nox EX0 stzlaw_p7 (Pzlaw_p7 cv) := (pd_set 6 sczlaw.nd rfl (by first | exact Or.inl rfl | exact Or.inr rfl) (pd_cmp (op_eqD hr.units) (pd_slice sl_T (pd_mt0 hzBook_now cl_Book hr (by decide) (pd_var 1)) pdo_none (pdo_some (pd_callB call_lenD rfl b_len PySem.boot_len (pda_cons (pd_var 4) pda_nil)))) (pd_var 4)))
theorem okzlaw_p8 (b_int : mg "int" = none) (cl_Book : Cls K (cv 0)) (hzBook_drop : MtAt P w K mg base (cv 0) "drop" 2 (FzBook_drop cv)) (hzBook_entries : MtAt P w K mg base (cv 0) "entries" 1 (FzBook_entries cv)) (hzunder : FnAt P w K mg base "under" 2 Fzunder) (fA : Addr) (cdv : Value) (A : Around) (outer : List Env) (s : Shared) (H : Hp) (E : XK) (hr : Room 4 (A.deeper (PyProof.Rows.envOfC "law" (defScope szlaw) s.heap.objs.size fA cdv))) : PDs (cxOf CX0 P w K mg base Nzlaw "law" (defScope szlaw) fA cdv A outer s H E).nox EX0 stzlaw_p8 (Pzlaw_p8 cv) := (pd_if (PDW.pt (pdw_or (pdt_cmp (op_neD hr.units) (pd_mt hzBook_drop cl_Book hr (by decide) (pd_var 1) (pda_cons (pd_var 4) pda_nil)) (pd_op op_subD (pd_var 5) (pd_callTy call_intD rfl b_int PyProof.Rows.boot_int (pda_cons (pd_var 6) pda_nil)))) (pdw_or1 (pdt_cmp (op_neD hr.units) (pd_fn hzunder hr (by decide) rfl (pda_cons (pd_mt0 hzBook_entries cl_Book hr (by decide) (pd_var 1)) (pda_cons (pd_var 4) pda_nil))) (pd_callTy call_intD rfl b_int PyProof.Rows.boot_int (pda_cons (pd_var 6) pda_nil)))))) (pds_one (pd_ret pd_bl)) pds_nil)
theorem okzlaw_p9 (hzBook___init__ : MkAt P w K mg base "Book" (cv 0) 1 (FzBook___init__ cv)) (hz_law_filled : FnAt P w K mg base "_law_filled" 4 (Fz_law_filled cv)) (hz_law_place : FnAt P w K mg base "_law_place" 3 Fz_law_place) (fA : Addr) (cdv : Value) (A : Around) (outer : List Env) (s : Shared) (H : Hp) (E : XK) (hr : Room 4 (A.deeper (PyProof.Rows.envOfC "law" (defScope szlaw) s.heap.objs.size fA cdv))) : PDs (cxOf CX0 P w K mg base Nzlaw "law" (defScope szlaw) fA cdv A outer s H E).nox EX0 stzlaw_p9 (Pzlaw_p9 cv) := (pd_set 1 sczlaw.nd rfl (by first | exact Or.inl rfl | exact Or.inr rfl) (pd_fn hz_law_filled hr (by decide) rfl (pda_cons (pd_var 0) (pda_cons pd_int (pda_cons (pd_mk hzBook___init__ hr (by decide) rfl (pda_cons (pd_fn hz_law_place hr (by decide) rfl (pda_cons (pd_var 0) (pda_cons pd_int pda_nil))) (pda_cons pd_int pda_nil))) pda_nil)))))
theorem okzlaw_p10 (b_len : mg "len" = none) (cl_Book : Cls K (cv 0)) (hzBook_go : MtAt P w K mg base (cv 0) "go" 3 (FzBook_go cv)) (fA : Addr) (cdv : Value) (A : Around) (outer : List Env) (s : Shared) (H : Hp) (E : XK) (hr : Room 4 (A.deeper (PyProof.Rows.envOfC "law" (defScope szlaw) s.heap.objs.size fA cdv))) : PDs (cxOf CX0 P w K mg base Nzlaw "law" (defScope szlaw) fA cdv A outer s H E).nox EX0 stzlaw_p10 (Pzlaw_p10 cv) := (pd_expr (pd_mt hzBook_go cl_Book hr (by decide) (pd_var 1) (pda_cons (pd_op op_subD (pd_op op_subD (pd_callB call_lenD rfl b_len PySem.boot_len (pda_cons (pd_var 2) pda_nil)) pd_int) (pd_var 3)) pda_nil)))
theorem okzlaw_p11 (cl_Book : Cls K (cv 0)) (hzBook_nearest : MtAt P w K mg base (cv 0) "nearest" 1 (FzBook_nearest cv)) (hzrecent : FnAt P w K mg base "recent" 2 Fzrecent) (fA : Addr) (cdv : Value) (A : Around) (outer : List Env) (s : Shared) (H : Hp) (E : XK) (hr : Room 4 (A.deeper (PyProof.Rows.envOfC "law" (defScope szlaw) s.heap.objs.size fA cdv))) : PDs (cxOf CX0 P w K mg base Nzlaw "law" (defScope szlaw) fA cdv A outer s H E).nox EX0 stzlaw_p11 (Pzlaw_p11 cv) := (pd_setLC 7 rfl ⟨Blk.of (N := ["_law_place_here", "_law_book"]) (caps := [1]) (nT := 1) (by show blkB (defScope szlaw) _ Nzlaw _ _ _ = true; decide +kernel), fun _ _ _ _ => (pgd_name 0 (by show (["_law_place_here", "_law_book"] : List Str).Nodup; decide +kernel) rfl (by first | exact Or.inl rfl | exact Or.inr rfl)), fun _ _ _ _ => pts_nil, fun _ _ _ _ => (pd_op op_subD pd_int (pd_mt hzBook_nearest cl_Book hr (by decide) (pd_var 1) (pda_cons (pd_var 0) pda_nil)))⟩ (pid_seq (pd_fn hzrecent hr (by decide) rfl (pda_cons (pd_var 2) (pda_cons pd_int pda_nil)))) sczlaw.nd rfl (by first | exact Or.inl rfl | exact Or.inr rfl))
theorem okzlaw_p12 (b_set : mg "set" = none) (b_sorted : mg "sorted" = none) (fA : Addr) (cdv : Value) (A : Around) (outer : List Env) (s : Shared) (H : Hp) (E : XK) (hr : Room 4 (A.deeper (PyProof.Rows.envOfC "law" (defScope szlaw) s.heap.objs.size fA cdv))) : PDs (cxOf CX0 P w K mg base Nzlaw "law" (defScope szlaw) fA cdv A outer s H E).nox EX0 stzlaw_p12 Pzlaw_p12 := (pd_if (PDW.pt (pdw_or (pdt_cmp (op_neD hr.units) (pd_var 7) (pd_F (pdf_sortSetI rfl rfl b_sorted PyProof.Rows.boot_sorted rfl b_set PyProof.Rows.boot_set (pda_cons (pd_var 7) pda_nil)))) (pdw_or1 (pdt_cmp (op_neD hr.units) (pd_ix (pd_var 7) pd_int) pd_int)))) (pds_one (pd_ret pd_bl)) pds_nil)
theorem okzlaw_p13 (b_len : mg "len" = none) (hzrecent : FnAt P w K mg base "recent" 2 Fzrecent) (fA : Addr) (cdv : Value) (A : Around) (outer : List Env) (s : Shared) (H : Hp) (E : XK) (hr : Room 4 (A.deeper (PyProof.Rows.envOfC "law" (defScope szlaw) s.heap.objs.size fA cdv))) : PDs (cxOf CX0 P w K mg base Nzlaw "law" (defScope szlaw) fA cdv A outer s H E).nox EX0 stzlaw_p13 Pzlaw_p13 := (pd_ret (pd_cmp (op_eqD hr.units) (pd_F (pdf_lc rfl ⟨Blk.of (N := ["_law_by", "_law_entries"]) (caps := [2]) (nT := 1) (by show blkB (defScope szlaw) _ Nzlaw _ _ _ = true; decide +kernel), fun _ _ _ _ => (pgd_name 0 (by show (["_law_by", "_law_entries"] : List Str).Nodup; decide +kernel) rfl (by first | exact Or.inl rfl | exact Or.inr rfl)), fun _ _ _ _ => pts_nil, fun _ _ _ _ => (pd_ix (pd_var 1) (pd_op op_subD (pd_op op_subD (pd_callB call_lenD rfl b_len PySem.boot_len (pda_cons (pd_var 1) pda_nil)) pd_int) (pd_var 0)))⟩ (pid_seq (pd_var 7)))) (pd_fn hzrecent hr (by decide) rfl (pda_cons (pd_var 2) (pda_cons pd_int pda_nil)))))
theorem okzlaw {f : Addr} {fd : FuncData} (F : Fun K "law" "law" szlaw f fd) (b_int : mg "int" = none) (b_len : mg "len" = none) (b_set : mg "set" = none) (b_sorted : mg "sorted" = none) (cl_Book : Cls K (cv 0)) (hzBook___init__ : MkAt P w K mg base "Book" (cv 0) 1 (FzBook___init__ cv)) (hzBook_drop : MtAt P w K mg base (cv 0) "drop" 2 (FzBook_drop cv)) (hzBook_entries : MtAt P w K mg base (cv 0) "entries" 1 (FzBook_entries cv)) (hzBook_go : MtAt P w K mg base (cv 0) "go" 3 (FzBook_go cv)) (hzBook_nearest : MtAt P w K mg base (cv 0) "nearest" 1 (FzBook_nearest cv)) (hzBook_now : MtAt P w K mg base (cv 0) "now" 1 (FzBook_now cv)) (hzBook_number : MtAt P w K mg base (cv 0) "number" 1 (FzBook_number cv)) (hz_law_filled : FnAt P w K mg base "_law_filled" 4 (Fz_law_filled cv)) (hz_law_place : FnAt P w K mg base "_law_place" 3 Fz_law_place) (hzcounts : FnAt P w K mg base "counts" 1 Fzcounts) (hzrecent : FnAt P w K mg base "recent" 2 Fzrecent) (hztrail : FnAt P w K mg base "trail" 1 Fztrail) (hzunder : FnAt P w K mg base "under" 2 Fzunder) : FnOk P w K mg base CX0 5 f fd ["_law_script"] (spD K (Fzlaw cv)) :=
 fnD (k:=4) F sczlaw fun cdv A outer s H E hr => (show PDS _ _ [stzlaw_p1, stzlaw_p2, stzlaw_p3, stzlaw_p4, stzlaw_p5, stzlaw_p6, stzlaw_p7, stzlaw_p8, stzlaw_p9, stzlaw_p10, stzlaw_p11, stzlaw_p12, stzlaw_p13] _ from (pds_cons (okzlaw_p1 hzBook___init__ hz_law_filled hz_law_place f cdv A outer s H E hr) (pds_cons (okzlaw_p2 cl_Book hzBook_entries f cdv A outer s H E hr) (pds_cons (okzlaw_p3 cl_Book hzBook_number f cdv A outer s H E hr) (pds_cons (okzlaw_p4 cl_Book hzBook_now hzcounts hztrail f cdv A outer s H E hr) (pds_cons (okzlaw_p5 hz_law_place f cdv A outer s H E hr) (pds_cons (okzlaw_p6 hzunder f cdv A outer s H E hr) (pds_cons (okzlaw_p7 b_len cl_Book hzBook_now f cdv A outer s H E hr) (pds_cons (okzlaw_p8 b_int cl_Book hzBook_drop hzBook_entries hzunder f cdv A outer s H E hr) (pds_cons (okzlaw_p9 hzBook___init__ hz_law_filled hz_law_place f cdv A outer s H E hr) (pds_cons (okzlaw_p10 b_len cl_Book hzBook_go f cdv A outer s H E hr) (pds_cons (okzlaw_p11 cl_Book hzBook_nearest hzrecent f cdv A outer s H E hr) (pds_cons (okzlaw_p12 b_set b_sorted f cdv A outer s H E hr) (pds_one (okzlaw_p13 b_len hzrecent f cdv A outer s H E hr)))))))))))))))
end
end K62
end
section
set_option maxHeartbeats 2000000
namespace K62
open PySem L2 DL
noncomputable def cellV (ns : List Int) (k : Int) : Int:=if ns = [] then 7 * k else ns.getD (k % ns.length).toNat 0 + 6553 * (k / ns.length)
theorem eq_scr_nil (xs : List D) (st : Sto) : eqD (.scr xs) (.lst []) st = .ok (.bl xs.isEmpty) st:=by
 cases xs <;> rfl
theorem len_scr (xs : List D) (st : Sto) : lenD [.scr xs] st = .ok (.int xs.length) st:=rfl
theorem ix_scr (ns : List Int) (k : Int) (st : Sto) (h0 : 0 ≤ k) (h1 : k < ns.length) : ixD (.scr (ns.map .int)) (.int k) st = .ok (.int (ns.getD k.toNat 0)) st:=by
 have e : L2.atI (ns.map D.int) k = some (.int (ns.getD k.toNat 0)):=by
  unfold L2.atI L2.ixN
  rw [if_pos h0, if_pos (by rw [List.length_map]; exact h1)]
  have hk : k.toNat < ns.length:=by omega
  simp [List.getElem?_map, List.getElem?_eq_getElem hk]
 simp [ixD, itemsOf, seqL, e]
theorem cell_eq (ns : List Int) (hl : ns.length ≤ 63) (k : Int) (st : Sto) : Fz_law_cell [.scr (ns.map .int), .int k] st = .ok (.int (cellV ns k)) st:=by
 unfold Fz_law_cell gz_law_cell cellV
 by_cases h : ns = []
 ·subst h
  have e1:=mul2_int _ _ st (mulOk_l 7 k (by decide) (by decide))
  have e2:=eq_scr_nil [] st
  simp [e1, e2]
 ·have hp : 0 < ns.length:=List.length_pos_iff.mpr h
  have h1 : (0 : Int) < (ns.length : Int):=by omega
  have h2 : 0 ≤ k % (ns.length : Int):=Int.emod_nonneg _ (by omega)
  have h3 : k % (ns.length : Int) < ns.length:=Int.emod_lt_of_pos _ h1
  have e0:=eq_scr_nil (ns.map .int) st
  have e1:=len_scr (ns.map .int) st
  have e2:=mod_int k _ st h1
  have e3:=fdiv_int k _ st h1 (by omega : (ns.length : Int) < 1073741824)
  have e4:=ix_scr ns _ st h2 h3
  have e5:=mul2_int _ _ st (mulOk_l 6553 (k / ns.length) (by decide) (by decide))
  rw [List.length_map] at e1
  simp [e0, e1, e2, e3, e4, e5, h]
noncomputable def mixA (c k : Int) : Int:=(c % 2147483563 * 69069 + 104723 * (k + 1)) % 2147483563
noncomputable def mixB (a : Int) : Int:=(a * a + a / 3) % 2147483399
noncomputable def mixC (b m : Int) : Int:=(b * b + b / 7) % 2147483647 / 11 % m
noncomputable def drawnV (ns : List Int) (k m : Int) : Int:=mixC (mixB (mixA (cellV ns k) k)) m
theorem drawn_eq (ns : List Int) (hl : ns.length ≤ 63) (k m : Int) (hm : 0 < m) (st : Sto) : Fz_law_drawn [.scr (ns.map .int), .int k, .int m] st = .ok (.int (drawnV ns k m)) st:=by
 have a1 : 0 ≤ mixA (cellV ns k) k:=Int.emod_nonneg _ (by decide)
 have a2 : mixA (cellV ns k) k < 2147483563:=Int.emod_lt_of_pos _ (by decide)
 have b1 : 0 ≤ mixB (mixA (cellV ns k) k):=Int.emod_nonneg _ (by decide)
 have b2 : mixB (mixA (cellV ns k) k) < 2147483399:=Int.emod_lt_of_pos _ (by decide)
 have c0 : 0 ≤ cellV ns k % 2147483563:=Int.emod_nonneg _ (by decide)
 have c1 : cellV ns k % 2147483563 < 2147483563:=Int.emod_lt_of_pos _ (by decide)
 have e1 : mul2D (.int (cellV ns k % 2147483563)) (.int 69069) st = .ok (.int (cellV ns k % 2147483563 * 69069)) st:=mul2_int _ _ _ (mulOk_r _ _ (by decide) (by decide))
 have e2 : mul2D (.int 104723) (.int (k + 1)) st = .ok (.int (104723 * (k + 1))) st:=mul2_int _ _ _ (mulOk_l _ _ (by decide) (by decide))
 have e3 : mul2D (.int (mixA (cellV ns k) k)) (.int (mixA (cellV ns k) k)) st = .ok (.int (mixA (cellV ns k) k * mixA (cellV ns k) k)) st:=mul2_int _ _ _ (mulOk_l _ _ (by omega) (by omega))
 have e4 : mul2D (.int (mixB (mixA (cellV ns k) k))) (.int (mixB (mixA (cellV ns k) k))) st = .ok (.int (mixB (mixA (cellV ns k) k) * mixB (mixA (cellV ns k) k))) st:=mul2_int _ _ _ (mulOk_l _ _ (by omega) (by omega))
 have hA : (cellV ns k % 2147483563 * 69069 + 104723 * (k + 1)) % 2147483563 = mixA (cellV ns k) k:=rfl
 have hB : (mixA (cellV ns k) k * mixA (cellV ns k) k + mixA (cellV ns k) k / 3) % 2147483399 = mixB (mixA (cellV ns k) k):=rfl
 have e0:=cell_eq ns hl k st
 have m1:=fun i => mod_int i 2147483563 st (by decide)
 have m2:=fun i => mod_int i 2147483399 st (by decide)
 have m3:=fun i => mod_int i 2147483647 st (by decide)
 have m4:=fun i => mod_int i m st hm
 have d1:=fun i => fdiv_int i 3 st (by decide) (by decide)
 have d2:=fun i => fdiv_int i 7 st (by decide) (by decide)
 have d3:=fun i => fdiv_int i 11 st (by decide) (by decide)
 unfold Fz_law_drawn gz_law_drawn
 simp [e0, e1, e2, e3, e4, m1, m2, m3, m4, d1, d2, d3, hA, hB]
 rfl
theorem drawn_lo (ns : List Int) (k m : Int) (hm : 0 < m) : 0 ≤ drawnV ns k m:=Int.emod_nonneg _ (by omega)
theorem drawn_hi (ns : List Int) (k m : Int) (hm : 0 < m) : drawnV ns k m < m:=Int.emod_lt_of_pos _ hm
noncomputable def letter (i : Nat) : Str:=⟨#[97 + i]⟩
theorem ix_abc (i : Int) (st : Sto) (h0 : 0 ≤ i) (h1 : i < 3) : ixD (.str "abc") (.int i) st = .ok (.str (letter i.toNat)) st := by
 have : i = 0 ∨ i = 1 ∨ i = 2:=by omega
 rcases this with rfl | rfl | rfl <;> rfl
noncomputable def placeV (ns : List Int) (at_ : Int) : List Str:=(List.range (drawnV ns at_ 4).toNat).map fun (i : Nat) => letter (drawnV ns (at_ + 1 + (i : Int)) 3).toNat
theorem place_eq (ns : List Int) (hl : ns.length ≤ 63) (at_ : Int) (st : Sto) : Fz_law_place [.scr (ns.map .int), .int at_] st = .ok (pl (placeV ns at_)) st:=by
 have e1:=drawn_eq ns hl at_ 4 (by decide) st
 have h1:=drawn_lo ns at_ 4 (by decide)
 have h2:=drawn_hi ns at_ 4 (by decide)
 have e2 : compD (fun _ => True) (tgName 0) dTrue Ez_law_place_1
   ((List.range (drawnV ns at_ 4).toNat).map (fun (i : Nat) => D.int (0 + i))) [none, some (.scr (ns.map .int)), some (.int at_)] st [] = .ok ((placeV ns at_).map .str) st:=by
  rw [compD_map (fun ρ => ∃ a, ρ = [a, some (.scr (ns.map .int)), some (.int at_)]) (fun d => match d with | .int i => .str (letter (drawnV ns (at_ + 1 + i) 3).toNat) | _ => .non) trivial _ _ _ ⟨_, rfl⟩ (by simp [small]; omega)]
  ·simp [placeV, List.map_map, Function.comp_def]
  ·rintro x hx ρ ⟨a, rfl⟩
   obtain ⟨i, _, rfl⟩:=List.mem_map.mp hx
   refine ⟨_, rfl, ⟨_, rfl⟩, ?_⟩
   have e3:=drawn_eq ns hl (at_ + 1 + (0 + (i : Int))) 3 (by decide) st
   have e4:=ix_abc (drawnV ns (at_ + 1 + (0 + (i : Int))) 3) st (drawn_lo _ _ _ (by decide)) (drawn_hi _ _ _ (by decide))
   simp only [Int.zero_add] at e3 e4
   unfold Ez_law_place_1
   simp [e3, e4]
 have h3 : rngOk (drawnV ns at_ 4) = true:=rngOk_of (by omega) (by omega)
 unfold Fz_law_place gz_law_place
 simp only [Int.zero_add] at e2
 simp [e1, e2, h3, capEv, tuple_lst, dRng1]
 rfl
noncomputable def up : Str := ".."
noncomputable def stay : Str := "."
theorem getL {st : Sto} {xs : List D} {i : Nat} (h : st[i]? = some (.lst xs)) : itemsOf st (.res i) = some xs:=by simp [itemsOf, seqL, h]
theorem len_res {st : Sto} {xs : List D} {i : Nat} (h : st[i]? = some (.lst xs)) : lenD [.res i] st = .ok (.int xs.length) st:=by simp [lenD, getL h]
theorem app_res {ρ : Ev} {st : Sto} {j i : Nat} {xs : List D} {f : DE} {d : D} (hj : ρ[j]? = some (some (.res i))) (h : st[i]? = some (.lst xs)) (hf : f ρ st = .ok d st) (hx : xs.length < small) : dAppend (dVar j) f ρ st = .ok .non (st.set i (.lst (xs ++ [d]))):=by
 unfold dAppend
 simp only [z_var, hj, z_bind_ok, h, hf, if_pos hx]
theorem set_at {st : Sto} {i : Nat} {s s' : S} (h : st[i]? = some s) : (st.set i s')[i]? = some s':=by
 rw [List.getElem?_set_self (List.getElem?_eq_some_iff.mp h).1]
theorem at_last (st : Sto) (s : S) : (st ++ [s])[st.length]? = some s:=by simp
theorem seq_nx {g g' : DS} {ρ ρ' : Ev} {st st' : Sto} (h : g ρ st = .nx ρ' st') : sSeq g g' ρ st = g' ρ' st':=by simp [h]
theorem len_lst (xs : List D) (st : Sto) : lenD [.lst xs] st = .ok (.int xs.length) st:=rfl
noncomputable abbrev Row:=List Str × Int
noncomputable def rowD (r : Row) : D:=.tup [pl r.1, .int r.2]
noncomputable def bk (m : Int) (i : Nat) (s : Int) : List (Str × D) := [("most", .int m), ("rows", .res i), ("spot", .int s)]
theorem bk_most (m : Int) (i : Nat) (s : Int) : (bk m i s).lookup ("most" : Str) = some (.int m) := rfl
theorem bk_rows (m : Int) (i : Nat) (s : Int) : (bk m i s).lookup ("rows" : Str) = some (.res i) := rfl
theorem bk_spot (m : Int) (i : Nat) (s : Int) : (bk m i s).lookup ("spot" : Str) = some (.int s) := rfl
theorem bk_now (m : Int) (i : Nat) (s : Int) : (bk m i s).lookup ("now" : Str) = none := rfl
theorem bk_entries (m : Int) (i : Nat) (s : Int) : (bk m i s).lookup ("entries" : Str) = none := rfl
theorem bk_number (m : Int) (i : Nat) (s : Int) : (bk m i s).lookup ("number" : Str) = none := rfl
theorem bk_visit (m : Int) (i : Nat) (s : Int) : (bk m i s).lookup ("visit" : Str) = none := rfl
theorem bk_can_go (m : Int) (i : Nat) (s : Int) : (bk m i s).lookup ("can_go" : Str) = none := rfl
theorem bk_place_at (m : Int) (i : Nat) (s : Int) : (bk m i s).lookup ("place_at" : Str) = none := rfl
theorem bk_go (m : Int) (i : Nat) (s : Int) : (bk m i s).lookup ("go" : Str) = none := rfl
theorem bk_mark (m : Int) (i : Nat) (s : Int) : (bk m i s).lookup ("mark" : Str) = none := rfl
theorem bk_put_rows (m : Int) (i j : Nat) (s : Int) : putFD ("rows" : Str) (.res j) (bk m i s) = bk m j s := rfl
theorem bk_put_spot (m : Int) (i : Nat) (s t : Int) : putFD ("spot" : Str) (.int t) (bk m i s) = bk m i t := rfl
theorem bk_len (m : Int) (i : Nat) (s : Int) : (bk m i s).length < 900:=by show 3 < 900; decide
structure BookAt (cv : Nat → Addr) (st : Sto) (b i : Nat) (m : Int) (rows : List Row) (s : Nat) : Prop where
 ob : st[b]? = some (.ins (cv 0) (bk m i s))
 rw : st[i]? = some (.lst (rows.map rowD))
 lt : s < rows.length
 le : rows.length ≤ 100
structure Chg (st st' : Sto) (b i i' : Nat) : Prop where
 fr : ∀ j x, st[j]? = some x → j ≠ b → j ≠ i → st'[j]? = some x
 nw : i' = i ∨ st.length ≤ i'
 le : st.length ≤ st'.length
section
variable {cv : Nat → Addr} {st : Sto} {b i : Nat} {m : Int} {rows : List Row} {s : Nat}
theorem BookAt.ne (B : BookAt cv st b i m rows s) : b ≠ i:=by
 intro e
 have h1:=B.ob
 rw [e, B.rw] at h1
 cases h1
theorem BookAt.ins (B : BookAt cv st b i m rows s) : insAt (cv 0) st (.res b) = some (b, bk m i s):=by
 simp [insAt, B.ob]
theorem BookAt.items (B : BookAt cv st b i m rows s) : itemsOf st (.res i) = some (rows.map rowD):=getL B.rw
theorem BookAt.ix (B : BookAt cv st b i m rows s) {k : Int} {j : Nat} {r : Row} (hk : k = j) (hr : rows[j]? = some r) : ixD (.res i) (.int k) st = .ok (rowD r) st:=by
 subst hk
 have e : L2.atI (rows.map rowD) (j : Int) = some (rowD r):=atI_nat (by rw [List.getElem?_map, hr]; rfl)
 simp [ixD, B.items, e]
theorem row0 (r : Row) (st : Sto) : ixD (rowD r) (.int 0) st = .ok (pl r.1) st:=rfl
theorem BookAt.now (B : BookAt cv st b i m rows s) {r : Row} (hr : rows[s]? = some r) : FzBook_now cv [.res b] st = .ok (pl r.1) st:=by
 have e1:=B.ix (k:=(s : Int)) rfl hr
 unfold FzBook_now gzBook_now
 simp [z_fld, B.ins, bk_rows, bk_spot, e1, row0]
theorem BookAt.number (B : BookAt cv st b i m rows s) : FzBook_number cv [.res b] st = .ok (.int s) st:=by
 unfold FzBook_number gzBook_number
 simp [z_fld, B.ins, bk_spot]
theorem BookAt.len (B : BookAt cv st b i m rows s) : lenD [.res i] st = .ok (.int rows.length) st:=by
 have:=len_res B.rw
 rw [List.length_map] at this
 exact this
theorem BookAt.entries (B : BookAt cv st b i m rows s) : FzBook_entries cv [.res b] st = .ok (.lst (rows.map fun r => pl r.1)) st:=by
 have e1 : compD (fun st => itemsOf st (.res i) = some (rows.map rowD)) (tgName 0) dTrue EzBook_entries_1 (rows.map rowD) [none] st [] = .ok (rows.map fun r => pl r.1) st:=by
  rw [compD_map (fun ρ => ∃ a, ρ = [a]) (fun d => match d with | .tup (x :: _) => x | _ => .non) B.items _ _ _ ⟨_, rfl⟩ (by have:=B.le; simp; exact small_ge (by omega))]
  ·simp [List.map_map, Function.comp_def, rowD]
  ·rintro x hx ρ ⟨a, rfl⟩
   obtain ⟨r, _, rfl⟩:=List.mem_map.mp hx
   refine ⟨_, rfl, ⟨_, rfl⟩, ?_⟩
   unfold EzBook_entries_1
   simp [row0]
   rfl
 unfold FzBook_entries gzBook_entries
 simp [z_fld, B.ins, bk_rows, B.items, capEv, e1]
theorem BookAt.can_go (B : BookAt cv st b i m rows s) (k : Int) : FzBook_can_go cv [.res b, .int k] st = .ok (.bl (decide (0 ≤ (s : Int) + k ∧ (s : Int) + k < rows.length))) st:=by
 unfold FzBook_can_go gzBook_can_go
 by_cases h1 : 0 ≤ (s : Int) + k
 ·by_cases h2 : (s : Int) + k < rows.length
  ·simp [z_fld, B.ins, bk_spot, bk_rows, leX, leD, cmpD, ltD, B.len, h1, h2]
  ·simp [z_fld, B.ins, bk_spot, bk_rows, leX, leD, cmpD, ltD, B.len, h1, h2]
 ·simp [z_fld, B.ins, bk_spot, bk_rows, leX, leD, cmpD, ltD, B.len, h1]
theorem BookAt.place_at (B : BookAt cv st b i m rows s) {k : Int} {j : Nat} {r : Row} (hk : (s : Int) + k = j) (hr : rows[j]? = some r) : FzBook_place_at cv [.res b, .int k] st = .ok (pl r.1) st:=by
 have hj:=(List.getElem?_eq_some_iff.mp hr).1
 have e1:=B.ix hk hr
 have e2:=B.can_go k
 rw [decide_eq_true ⟨by omega, by omega⟩] at e2
 unfold FzBook_place_at gzBook_place_at
 simp [z_meth, z_fld, B.ins, bk_can_go, bk_rows, bk_spot, e1, e2, row0]
theorem BookAt.set_spot (B : BookAt cv st b i m rows s) {j : Nat} (hj : j < rows.length) : BookAt cv (st.set b (.ins (cv 0) (bk m i j))) b i m rows j:=by
 have hb : b < st.length:=(List.getElem?_eq_some_iff.mp B.ob).1
 exact ⟨by rw [List.getElem?_set_self hb], by rw [List.getElem?_set_ne B.ne]; exact B.rw, hj, B.le⟩
theorem chg_b (st : Sto) (b i : Nat) (x : S) : Chg st (st.set b x) b i i:=⟨fun j y h h1 _ => by rw [List.getElem?_set_ne (Ne.symm h1)]; exact h, .inl rfl, by simp⟩
theorem chg_i (st : Sto) (b i : Nat) (x : S) : Chg st (st.set i x) b i i:=⟨fun j y h _ h1 => by rw [List.getElem?_set_ne (Ne.symm h1)]; exact h, .inl rfl, by simp⟩
theorem BookAt.go (B : BookAt cv st b i m rows s) {k : Int} {j : Nat} {r : Row} (hk : (s : Int) + k = j) (hr : rows[j]? = some r) : ∃ st', FzBook_go cv [.res b, .int k] st = .ok (pl r.1) st' ∧ BookAt cv st' b i m rows j ∧ Chg st st' b i i:=by
 have hj:=(List.getElem?_eq_some_iff.mp hr).1
 have e1:=B.place_at hk hr
 refine ⟨st.set b (.ins (cv 0) (bk m i j)), ?_, B.set_spot hj, chg_b _ _ _ _⟩
 unfold FzBook_go gzBook_go
 simp [z_meth, z_sFldAdd, B.ins, bk_place_at, bk_spot, e1, bk_put_spot, bk_len, hk]
noncomputable def visR (m : Int) (rows : List Row) (s : Nat) (p : List Str) : List Row:=if ((rows.take (s + 1) ++ [(p, 0)]).length : Int) > m then (rows.take (s + 1) ++ [(p, 0)]).drop 1 else rows.take (s + 1) ++ [(p, 0)]
theorem BookAt.mark (B : BookAt cv st b i m rows s) {r : Row} (hr : rows[s]? = some r) (n : Int) : ∃ st', FzBook_mark cv [.res b, .int n] st = .ok .non st' ∧ BookAt cv st' b i m (rows.set s (r.1, n)) s ∧ Chg st st' b i i:=by
 have hi : i < st.length:=(List.getElem?_eq_some_iff.mp B.rw).1
 have hx : ixN (rows.map rowD).length (s : Int) = some s:=by
  have:=B.lt
  unfold ixN
  rw [List.length_map, if_pos (by omega), if_pos (by omega)]
  simp
 have e1:=B.now hr
 refine ⟨st.set i (.lst ((rows.map rowD).set s (rowD (r.1, n)))), ?_, ⟨?_, ?_, by rw [List.length_set]; exact B.lt, by rw [List.length_set]; exact B.le⟩, chg_i _ _ _ _⟩
 ·unfold FzBook_mark gzBook_mark
  have q : (2 : Nat) ≤ small:=by decide
  simp only [List.length_map] at hx
  simp [z_sSetIx, z_meth, z_fld, B.ins, bk_now, bk_rows, bk_spot, B.rw, q, hx, e1]
  rfl
 ·rw [List.getElem?_set_ne (Ne.symm B.ne)]; exact B.ob
 ·rw [List.getElem?_set_self hi, List.map_set]
end
theorem run_nx {N n : Nat} {g : DS} {ds : List D} {st st' : Sto} {ρ : Ev} (hl : ds.length = n) (h : g (ds.map some ++ List.replicate (N - n) none) st = .nx ρ st') : runF N n g ds st = .ok .non st':=by
 rw [z_runF, if_pos hl, h]
theorem run_rt {N n : Nat} {g : DS} {ds : List D} {st st' : Sto} {d : D} (hl : ds.length = n) (h : g (ds.map some ++ List.replicate (N - n) none) st = .rt d st') : runF N n g ds st = .ok d st':=by
 rw [z_runF, if_pos hl, h]
section
variable {cv : Nat → Addr} {st : Sto} {b i : Nat} {m : Int} {rows : List Row} {s : Nat}
theorem BookAt.app (B : BookAt cv st b i m rows s) (t : Sto) : BookAt cv (st ++ t) b i m rows s :=
 ⟨by rw [List.getElem?_append_left (List.getElem?_eq_some_iff.mp B.ob).1]; exact B.ob, by rw [List.getElem?_append_left (List.getElem?_eq_some_iff.mp B.rw).1]; exact B.rw, B.lt, B.le⟩
theorem visit_tail (B : BookAt cv st b i m rows s) {j : Nat} {R : List Row} (p : Option D) (hj : st[j]? = some (.lst (R.map rowD))) (h0 : 0 < R.length) (h1 : R.length ≤ 100) :
  ∃ st', sSeq (sFldS (cv 0) "rows" (dVar 0) (dVar 2)) (sFldS (cv 0) "spot" (dVar 0) (dBin subD (dCall lenD (dCons (dVar 2) dNil)) (dC (.int 1)))) [some (.res b), p, some (.res j)] st = .nx [some (.res b), p, some (.res j)] st' ∧
   BookAt cv st' b j m R (R.length - 1) ∧ (∀ k x, st[k]? = some x → k ≠ b → st'[k]? = some x) ∧ st'.length = st.length:=by
 have hb : b < st.length:=(List.getElem?_eq_some_iff.mp B.ob).1
 have hbj : b ≠ j:=by
  intro e
  have h1:=B.ob
  rw [e, hj] at h1
  cases h1
 have B1 : BookAt cv (st.set b (.ins (cv 0) (bk m j s))) b j m R (R.length - 1) → True:=fun _ => trivial
 have hj1 : (st.set b (.ins (cv 0) (bk m j s)))[j]? = some (.lst (R.map rowD)):=by rw [List.getElem?_set_ne hbj]; exact hj
 have hb1 : (st.set b (.ins (cv 0) (bk m j s)))[b]? = some (.ins (cv 0) (bk m j s)):=List.getElem?_set_self hb
 have i1 : insAt (cv 0) (st.set b (.ins (cv 0) (bk m j s))) (.res b) = some (b, bk m j s):=by simp [insAt, hb1]
 have l1:=len_res hj1
 rw [List.length_map] at l1
 have es : ((R.length : Int) - 1) = ((R.length - 1 : Nat) : Int):=by omega
 refine ⟨(st.set b (.ins (cv 0) (bk m j s))).set b (.ins (cv 0) (bk m j ((R.length - 1 : Nat) : Int))), ?_, ⟨?_, ?_, by omega, h1⟩, fun k x hk hkb => ?_, by simp⟩
 ·simp [z_sFldS, B.ins, bk_len, bk_put_rows, i1, l1, bk_put_spot, subD_int, es]
 ·rw [List.getElem?_set_self (by rw [List.length_set]; exact hb)]
 ·rw [List.getElem?_set_ne hbj]; exact hj1
 ·rw [List.getElem?_set_ne (Ne.symm hkb), List.getElem?_set_ne (Ne.symm hkb)]; exact hk
theorem BookAt.visit (B : BookAt cv st b i m rows s) (p : List Str) (hm : 1 ≤ m) (hl : rows.length ≤ 99) : ∃ st' i', FzBook_visit cv [.res b, pl p] st = .ok .non st' ∧ BookAt cv st' b i' m (visR m rows s p) ((visR m rows s p).length - 1) ∧ Chg st st' b i i':=by
 generalize hR : rows.take (s + 1) ++ [(p, (0 : Int))] = R
 have hRl : R.length = s + 2:=by
  have:=B.lt
  rw [← hR, List.length_append, List.length_take]
  simp
  omega
 obtain ⟨T, hT⟩ : ∃ T, T = (rows.take (s + 1)).map rowD:=⟨_, rfl⟩
 obtain ⟨T2, hT2⟩ : ∃ T2, T2 = R.map rowD:=⟨_, rfl⟩
 obtain ⟨T3, hT3⟩ : ∃ T3, T3 = (R.drop 1).map rowD:=⟨_, rfl⟩
 have e1 : cutF (.res i) none (some ((s : Int) + 1)) st = .ok T st:=by
  have e : ((s : Int) + 1) = ((s + 1 : Nat) : Int):=by omega
  rw [e, hT]
  simp only [cutF, seqL, B.rw, cutL_to, List.map_take]
 have e2 : catL (.lst T) (.lst [rowD (p, 0)]) st = .ok T2 st:=by
  have h : T.length + [rowD (p, 0)].length ≤ small:=by
   have:=B.lt
   rw [hT, List.length_map, List.length_take]
   exact small_ge (by simp; omega)
  simp only [catL, ownL, if_pos h]
  rw [hT2, ← hR, List.map_append, ← hT]
  rfl
 have B1:=B.app [.lst T2]
 have hb : b < st.length:=(List.getElem?_eq_some_iff.mp B.ob).1
 have hj1 : (st ++ [S.lst T2])[st.length]? = some (.lst T2):=at_last _ _
 have l1:=len_res hj1
 have l1' : lenD [.res st.length] (st ++ [S.lst T2]) = .ok (.int R.length) (st ++ [S.lst T2]):=by rw [l1, hT2, List.length_map]
 have q2 : (2 : Nat) ≤ small:=by decide
 have q1 : (1 : Nat) ≤ small:=by decide
 have e0 : D.tup [pl p, .int 0] = rowD (p, 0):=rfl
 have hlt:=B.lt
 have h1 : sSetF 2 (dBinF catL (dF (dSl cutF (dFld (cv 0) "rows" (dVar 0)) dNoPart (dPart (dBin addD (dFld (cv 0) "spot" (dVar 0)) (dC (.int 1)))))) (dF (dLst (dCons (dTup (dCons (dVar 1) (dCons (dC (.int 0)) dNil))) dNil)))) [some (.res b), some (pl p), none] st = .nx [some (.res b), some (pl p), some (.res st.length)] (st ++ [S.lst T2]) := by
  simp [z_fld, B.ins, bk_rows, bk_spot, e1, q2, q1, e0, e2]
 by_cases hc : m < (R.length : Int)
 ·have hv : visR m rows s p = R.drop 1:=by
   unfold visR
   rw [hR, if_pos hc]
  have hdl : (R.drop 1).length = s + 1:=by rw [List.length_drop, hRl]; omega
  have hj2 : (st ++ [S.lst T2] ++ [S.lst T3])[(st ++ [S.lst T2]).length]? = some (.lst ((R.drop 1).map rowD)):=by rw [← hT3]; exact at_last _ _
  obtain ⟨st', t1, t2, t3, t4⟩:=visit_tail (B1.app [.lst T3]) (some (pl p)) hj2 (by omega) (by omega)
  rw [hv]
  refine ⟨st', _, ?_, t2, ⟨fun k x hk h1 _ => t3 k x ?_ h1, .inr (by simp), by rw [t4]; simp⟩⟩
  ·have e3 : cutF (.res st.length) (some 1) none (st ++ [S.lst T2]) = .ok T3 (st ++ [S.lst T2]):=by
    have:=cutL_from (R.map rowD) 1
    rw [← hT2] at this
    simp only [cutF, seqL, hj1]
    rw [show (some (1 : Int)) = some ((1 : Nat) : Int) from rfl, this, hT2, hT3, List.map_drop]
   have h2 : sIf (dB (dBin gtD (dCall lenD (dCons (dVar 2) dNil)) (dFld (cv 0) "most" (dVar 0)))) (sSetF 2 (dSl cutF (dVar 2) (dPart (dC (.int 1))) dNoPart)) sNext [some (.res b), some (pl p), some (.res st.length)] (st ++ [S.lst T2]) = .nx [some (.res b), some (pl p), some (.res (st ++ [S.lst T2]).length)] (st ++ [S.lst T2] ++ [S.lst T3]) := by
    rw [z_sIf]
    simp only [z_B, z_bin, z_call, z_cons, z_nil, z_var, List.getElem?_cons_zero, List.getElem?_cons_succ, z_bind_ok, l1', z_fld, B1.ins, bk_most, gtD, cmpD, decide_eq_true hc, z_asB, z_to_ok, if_true, z_sSetF, z_sl, z_part, z_C, z_asInt, z_noPart, e3]
    rfl
   refine run_nx rfl (ρ:=[some (.res b), some (pl p), some (.res (st ++ [S.lst T2]).length)]) ?_
   show gzBook_visit cv [some (.res b), some (pl p), none] st = _
   unfold gzBook_visit
   rw [seq_nx h1, seq_nx h2]
   exact t1
  ·rw [List.getElem?_append_left (by rw [List.length_append]; have:=(List.getElem?_eq_some_iff.mp hk).1; simp; omega), List.getElem?_append_left (List.getElem?_eq_some_iff.mp hk).1]
   exact hk
 ·have hv : visR m rows s p = R:=by
   unfold visR
   rw [hR, if_neg hc]
  rw [hT2] at hj1
  obtain ⟨st', t1, t2, t3, t4⟩:=visit_tail B1 (some (pl p)) (R:=R) (by rw [hT2]; exact hj1) (by omega) (by omega)
  rw [hv]
  refine ⟨st', _, ?_, t2, ⟨fun k x hk h1 _ => t3 k x ?_ h1, .inr (Nat.le_refl _), by rw [t4]; simp⟩⟩
  ·have h2 : sIf (dB (dBin gtD (dCall lenD (dCons (dVar 2) dNil)) (dFld (cv 0) "most" (dVar 0)))) (sSetF 2 (dSl cutF (dVar 2) (dPart (dC (.int 1))) dNoPart)) sNext [some (.res b), some (pl p), some (.res st.length)] (st ++ [S.lst T2]) = .nx [some (.res b), some (pl p), some (.res st.length)] (st ++ [S.lst T2]) := by
    rw [z_sIf]
    simp only [z_B, z_bin, z_call, z_cons, z_nil, z_var, List.getElem?_cons_zero, List.getElem?_cons_succ, z_bind_ok, l1', z_fld, B1.ins, bk_most, gtD, cmpD, decide_eq_false hc, z_asB, z_to_ok, Bool.false_eq_true, if_false]
    rfl
   refine run_nx rfl (ρ:=[some (.res b), some (pl p), some (.res st.length)]) ?_
   show gzBook_visit cv [some (.res b), some (pl p), none] st = _
   unfold gzBook_visit
   rw [seq_nx h1, seq_nx h2]
   exact t1
  ·rw [List.getElem?_append_left (List.getElem?_eq_some_iff.mp hk).1]
   exact hk
theorem make_book (p : List Str) (m : Int) (st : Sto) : FzBook___init__ cv [.res st.length, pl p, .int m] (st ++ [.ins (cv 0) []]) = .ok .non (st ++ [.ins (cv 0) (bk m (st.length + 1) 0), .lst [rowD (p, 0)]]):=by
 have q2 : (2 : Nat) ≤ small:=by decide
 have q1 : (1 : Nat) ≤ small:=by decide
 have i1 : ∀ fs, insAt (cv 0) (st ++ [.ins (cv 0) fs]) (.res st.length) = some (st.length, fs):=fun fs => by simp [insAt]
 have i2 : ∀ fs x, insAt (cv 0) (st ++ [.ins (cv 0) fs, x]) (.res st.length) = some (st.length, fs):=fun fs x => by
  simp [insAt]
 have p1 : putFD ("most" : Str) (.int m) [] = [(("most" : Str), D.int m)] := rfl
 have p2 : putFD ("rows" : Str) (.res (st.length + 1)) [(("most" : Str), D.int m)] = [(("most" : Str), D.int m), (("rows" : Str), D.res (st.length + 1))] := rfl
 have p3 : putFD ("spot" : Str) (.int 0) [(("most" : Str), D.int m), (("rows" : Str), D.res (st.length + 1))] = bk m (st.length + 1) 0 := rfl
 unfold FzBook___init__ gzBook___init__
 simp [z_sFldS, z_sFldF, i1, i2, p1, p2, p3, q1, q2]
 rfl
theorem book_new (p : List Str) (m : Int) (st : Sto) : BookAt cv (st ++ [.ins (cv 0) (bk m (st.length + 1) 0), .lst [rowD (p, 0)]]) st.length (st.length + 1) m [(p, 0)] 0 :=
 ⟨by simp, by simp, Nat.zero_lt_one, by show 1 ≤ 100; decide⟩
theorem visR_len (m : Int) (rows : List Row) (s : Nat) (p : List Str) (hs : s < rows.length) : (visR m rows s p).length = if m < (s : Int) + 2 then s + 1 else s + 2:=by
 have h : (rows.take (s + 1) ++ [(p, (0 : Int))]).length = s + 2:=by
  rw [List.length_append, List.length_take]
  simp
  omega
 unfold visR
 rw [h]
 by_cases hc : m < (s : Int) + 2
 ·rw [if_pos (by omega), if_pos hc, List.length_drop, h]
  omega
 ·rw [if_neg (by omega), if_neg hc, h]
theorem visR_last (m : Int) (rows : List Row) (s : Nat) (p : List Str) (hs : s < rows.length) : (visR m rows s p)[(visR m rows s p).length - 1]? = some (p, 0):=by
 have h : (rows.take (s + 1)).length = s + 1:=by rw [List.length_take]; omega
 rw [visR_len m rows s p hs]
 unfold visR
 by_cases hc : m < (s : Int) + 2
 ·rw [if_pos hc, if_pos (by rw [List.length_append, h]; simp; omega), List.getElem?_drop, List.getElem?_append_right (by omega), h, show 1 + (s + 1 - 1) - (s + 1) = 0 by omega]
  rfl
 ·rw [if_neg hc, if_neg (by rw [List.length_append, h]; simp; omega), List.getElem?_append_right (by omega), h]
  simp
end
noncomputable abbrev R0 : Row:=([], 0)
noncomputable def pick (rows : List Row) (sp : List Nat) : List Row:=sp.map fun j => rows.getD j R0
theorem enum_rows (rows : List Row) : enumL 0 (rows.map rowD) = (List.range rows.length).map fun (j : Nat) => D.tup [.int (j : Int), rowD (rows.getD j R0)]:=by
 apply List.ext_getElem?
 intro j
 rw [enumL_get, List.getElem?_map, List.getElem?_map]
 by_cases h : j < rows.length
 ·rw [List.getElem?_range h, List.getElem?_eq_getElem h]
  simp [List.getD_eq_getElem?_getD, List.getElem?_eq_getElem h]
 ·rw [List.getElem?_eq_none (by omega), List.getElem?_eq_none (by rw [List.length_range]; omega)]
  rfl
theorem get_D {rows : List Row} {j : Nat} (h : j < rows.length) : rows[j]? = some (rows.getD j R0):=by
 simp [List.getD_eq_getElem?_getD, List.getElem?_eq_getElem h]
theorem bk_keep (m : Int) (i : Nat) (s : Int) : (bk m i s).lookup ("keep_only" : Str) = none := rfl
theorem bk_drop (m : Int) (i : Nat) (s : Int) : (bk m i s).lookup ("drop" : Str) = none := rfl
theorem bk_nearest (m : Int) (i : Nat) (s : Int) : (bk m i s).lookup ("nearest" : Str) = none := rfl
noncomputable def nats (sp : List Nat) : List D:=sp.map fun (j : Nat) => D.int (j : Int)
section
variable {cv : Nat → Addr} {st : Sto} {b i : Nat} {m : Int} {rows : List Row} {s : Nat}
theorem BookAt.keep_only (B : BookAt cv st b i m rows s) (sp : List Nat) (hsp : ∀ j ∈ sp, j < rows.length) (hl : sp.length ≤ 100) (h2 : (sp.filter fun j => decide (j < s)).length < sp.length) :
  ∃ st' i', FzBook_keep_only cv [.res b, .lst (nats sp)] st = .ok (.int ((rows.length : Int) - sp.length)) st' ∧ BookAt cv st' b i' m (pick rows sp) ((sp.filter fun j => decide (j < s)).length) ∧ Chg st st' b i i':=by
 have hb : b < st.length:=(List.getElem?_eq_some_iff.mp B.ob).1
 have e1 : lenD [.lst (nats sp)] st = .ok (.int sp.length) st:=by rw [len_lst, nats, List.length_map]
 have c1 : compD (fun _ => True) (tgName 0) (CzBook_keep_only_1 cv) EzBook_keep_only_1 (nats sp) [none, some (.res b)] st [] = .ok (nats (sp.filter fun j => decide (j < s))) st:=by
  rw [compD_filter (fun ρ => ∃ a, ρ = [a, some (.res b)]) (fun d => match d with | .int j => decide (j < (s : Int)) | _ => false) (fun d => d) trivial _ _ _ ⟨_, rfl⟩ (by simp [nats]; exact small_ge (by omega))]
  ·simp only [List.nil_append, List.map_id', nats, List.filter_map]
   congr 3
   funext j
   simp
  ·rintro x hx ρ ⟨a, rfl⟩
   obtain ⟨j, _, rfl⟩:=List.mem_map.mp hx
   refine ⟨_, rfl, ⟨_, rfl⟩, ?_, fun _ => rfl⟩
   unfold CzBook_keep_only_1
   simp [z_fld, B.ins, bk_spot, ltD, cmpD]
 have c2 : compD (fun _ => True) (tgName 0) dTrue (EzBook_keep_only_2 cv) (nats sp) [none, some (.res b)] st [] = .ok ((pick rows sp).map rowD) st:=by
  rw [compD_map (fun ρ => ∃ a, ρ = [a, some (.res b)]) (fun d => match d with | .int j => rowD (rows.getD j.toNat R0) | _ => .non) trivial _ _ _ ⟨_, rfl⟩ (by simp [nats]; exact small_ge (by omega))]
  ·simp [nats, pick, List.map_map, Function.comp_def]
  ·rintro x hx ρ ⟨a, rfl⟩
   obtain ⟨j, hj, rfl⟩:=List.mem_map.mp hx
   refine ⟨_, rfl, ⟨_, rfl⟩, ?_⟩
   have q:=B.ix (k:=(j : Int)) (j:=j) rfl (get_D (hsp j hj))
   unfold EzBook_keep_only_2
   simp [z_fld, B.ins, bk_rows, q]
 have it : ∀ st : Sto, itemsOf st (.lst (nats sp)) = some (nats sp):=fun _ => rfl
 have e2 : lenD [.lst (nats (sp.filter fun j => decide (j < s)))] st = .ok (.int ((sp.filter fun j => decide (j < s)).length : Nat)) st:=by rw [len_lst, nats, List.length_map]
 have B1:=B.app [.lst ((pick rows sp).map rowD)]
 have hj1 : (st ++ [S.lst ((pick rows sp).map rowD)])[st.length]? = some (.lst ((pick rows sp).map rowD)):=at_last _ _
 have hbj : b ≠ st.length:=by omega
 have hb1 : b < (st ++ [S.lst ((pick rows sp).map rowD)]).length:=by rw [List.length_append]; omega
 generalize hfl : (sp.filter fun j => decide (j < s)).length = fl at *
 have i2 : insAt (cv 0) ((st ++ [S.lst ((pick rows sp).map rowD)]).set b (.ins (cv 0) (bk m st.length s))) (.res b) = some (b, bk m st.length s):=by
  simp [insAt, List.getElem?_set_self hb1]
 refine ⟨((st ++ [S.lst ((pick rows sp).map rowD)]).set b (.ins (cv 0) (bk m st.length s))).set b (.ins (cv 0) (bk m st.length fl)), st.length, ?_, ⟨?_, ?_, by simp [pick]; exact h2, by simp [pick]; exact hl⟩, ⟨fun k x hk h1 _ => ?_, .inr (Nat.le_refl _), by simp⟩⟩
 ·unfold FzBook_keep_only gzBook_keep_only
  simp [z_fld, z_sFldF, z_sFldS, B.ins, bk_rows, B.len, e1, subD_int, it, capEv, c1, e2, c2, B1.ins, bk_len, bk_put_rows, i2, bk_put_spot]
 ·rw [List.getElem?_set_self (by rw [List.length_set]; exact hb1)]
 ·rw [List.getElem?_set_ne hbj, List.getElem?_set_ne hbj]; exact hj1
 ·rw [List.getElem?_set_ne (Ne.symm h1), List.getElem?_set_ne (Ne.symm h1), List.getElem?_append_left (List.getElem?_eq_some_iff.mp hk).1]
  exact hk
theorem BookAt.seq (B : BookAt cv st b i m rows s) : seqL st (.res i) = some (rows.map rowD):=by simp [seqL, B.rw]
theorem filter_lt_len (p : Nat → Bool) (n s : Nat) (j : Nat) (hj : j < n) (hs : s ≤ j) (hp : p j = true) : (((List.range n).filter p).filter fun j => decide (j < s)).length < ((List.range n).filter p).length:=by
 have h1:=List.length_filter_le (fun j => decide (j < s)) ((List.range n).filter p)
 refine Nat.lt_of_le_of_ne h1 fun e => ?_
 have:=List.length_filter_eq_length_iff.mp e j (List.mem_filter.mpr ⟨List.mem_range.mpr hj, hp⟩)
 simp at this
 omega
end
theorem neD_int (x y : Int) (st : Sto) : neD (.int x) (.int y) st = .ok (.bl (!decide (x = y))) st:=by
 rw [neD_nice rfl rfl]
 congr 3
 exact decide_eq_decide.mpr (by rw [D.int.injEq])
theorem loop_off {chk : Sto → Prop} {t : TgD} {g : DS} (P : Nat → Ev → Sto → Prop) (hc : ∀ j ρ st, P j ρ st → chk st) : ∀ (xs : List D) (n : Nat), (∀ j x, xs[j]? = some x → ∀ ρ st, P (n + j) ρ st → ∃ ρ1 ρ2 st2, t x ρ = some ρ1 ∧ g ρ1 st = .nx ρ2 st2 ∧ P (n + j + 1) ρ2 st2) →
  ∀ ρ st, P n ρ st → ∃ ρ2 st2, loopD chk t g xs ρ st = .nx ρ2 st2 ∧ P (n + xs.length) ρ2 st2
 | [], n, _, ρ, st, h => ⟨ρ, st, loop_nil (hc n ρ st h), h⟩
 | x :: xs, n, hx, ρ, st, h => by
  obtain ⟨ρ1, ρ2, st2, e1, e2, h2⟩:=hx 0 x rfl ρ st h
  obtain ⟨ρ3, st3, e3, h3⟩:=loop_off P hc xs (n + 1) (fun j y hy ρ st hp => by
   have q : n + 1 + j = n + (j + 1):=by omega
   rw [q] at hp
   obtain ⟨r1, r2, s2, k1, k2, k3⟩:=hx (j + 1) y (by simpa using hy) ρ st hp
   exact ⟨r1, r2, s2, k1, k2, by rw [q]; exact k3⟩) ρ2 st2 h2
  refine ⟨ρ3, st3, (loop_nx (hc n ρ st h) e1 e2).trans e3, ?_⟩
  have q : n + (x :: xs).length = n + 1 + xs.length:=by simp; omega
  rw [q]
  exact h3
theorem loop_rng {chk : Sto → Prop} {t : TgD} {g : DS} {f : Nat → D} (P : Nat → Ev → Sto → Prop) (hc : ∀ j ρ st, P j ρ st → chk st) (n : Nat) (step : ∀ j, j < n → ∀ ρ st, P j ρ st → ∃ ρ1 ρ2 st2, t (f j) ρ = some ρ1 ∧ g ρ1 st = .nx ρ2 st2 ∧ P (j + 1) ρ2 st2) (ρ : Ev) (st : Sto) (h : P 0 ρ st) :
  ∃ ρ2 st2, loopD chk t g ((List.range n).map f) ρ st = .nx ρ2 st2 ∧ P n ρ2 st2:=by
 obtain ⟨ρ2, st2, e, h2⟩:=loop_off P hc ((List.range n).map f) 0 (fun j x hx ρ st hp => by
  rw [Nat.zero_add] at hp ⊢
  have hj : j < n:=by
   have:=(List.getElem?_eq_some_iff.mp hx).1
   simpa using this
  rw [List.getElem?_map, List.getElem?_range hj] at hx
  simp only [Option.map_some, Option.some.injEq] at hx
  rw [← hx]
  exact step j hj ρ st hp) ρ st h
 refine ⟨ρ2, st2, e, ?_⟩
 simpa using h2
structure BD (cv : Nat → Addr) (st : Sto) (b i u : Nat) (m : Int) (rows : List Row) (s : Nat) (ds : List D) : Prop where
 bk : BookAt cv st b i m rows s
 ub : u ≠ b
 ui : u ≠ i
 du : st[u]? = some (.lst ds)
section
variable {cv : Nat → Addr} {st st' : Sto} {b i i' u : Nat} {m : Int} {rows rows' : List Row} {s s' : Nat} {ds : List D}
theorem BD.step (X : BD cv st b i u m rows s ds) (C : Chg st st' b i i') (B : BookAt cv st' b i' m rows' s') : BD cv st' b i' u m rows' s' ds:=by
 refine ⟨B, X.ub, ?_, C.fr _ _ X.du X.ub X.ui⟩
 have hu : u < st.length:=(List.getElem?_eq_some_iff.mp X.du).1
 rcases C.nw with h | h
 ·rw [h]; exact X.ui
 ·omega
end
theorem seq_go {g g' : DS} {ρ ρ' : Ev} {st st' : Sto} (h : g ρ st = .nx ρ' st') (h2 : ∃ st2, g' ρ' st' = .rt (.bl true) st2) : ∃ st2, sSeq g g' ρ st = .rt (.bl true) st2:=by
 obtain ⟨st2, e⟩:=h2
 exact ⟨st2, (seq_nx h).trans e⟩
theorem sif_no {t : DT} {g : DS} {ρ : Ev} {st st' : Sto} (h : t ρ st = .ok false st') : sIf t g sNext ρ st = .nx ρ st':=by simp [h]
theorem ne_same {a : D} (h : nice depth a = true) (st : Sto) : neD a a st = .ok (.bl false) st:=by
 rw [neD_nice h h]
 simp
theorem tst_ne {f f' : DE} {ρ : Ev} {st st1 st2 : Sto} {a : D} (h : nice depth a = true) (h1 : f ρ st = .ok a st1) (h2 : f' ρ st1 = .ok a st2) : dB (dBin neD f f') ρ st = .ok false st2:=by
 simp [h1, h2, ne_same h]
theorem tst_or {t t' : DT} {ρ : Ev} {st st1 st2 : Sto} (h : t ρ st = .ok false st1) (h' : t' ρ st1 = .ok false st2) : dOr t t' ρ st = .ok false st2:=by simp [h, h']
theorem compD_fm {α : Type} (g : α → D) (p : α → Bool) (h : α → D) {chk : Sto → Prop} {t : TgD} {cond : DT} {fe : DE} {st : Sto} (IE : Ev → Prop) (hc : chk st) : ∀ (xs : List α) (ρ : Ev) (acc : List D), IE ρ → acc.length + xs.length ≤ small →
  (∀ x ∈ xs, ∀ ρ, IE ρ → ∃ ρ1, t (g x) ρ = some ρ1 ∧ IE ρ1 ∧ cond ρ1 st = .ok (p x) st ∧ (p x = true → fe ρ1 st = .ok (h x) st)) → compD chk t cond fe (xs.map g) ρ st acc = .ok (acc ++ (xs.filter p).map h) st
 | [], ρ, acc, _, _, _ => by simp [compD, hc]
 | x :: xs, ρ, acc, hI, hl, hx => by
  obtain ⟨ρ1, e1, h1, e2, e3⟩:=hx x List.mem_cons_self ρ hI
  rw [List.map_cons]
  unfold compD
  rw [if_pos ⟨hc, by simp at hl; omega⟩, e1]
  dsimp only
  rw [e2]
  cases hp : p x with
  | true =>
   dsimp only
   rw [e3 hp]
   dsimp only
   rw [compD_fm g p h IE hc xs ρ1 (acc ++ [h x]) h1 (by simp at hl ⊢; omega) fun y hy => hx y (List.mem_cons_of_mem _ hy)]
   simp [hp]
  | false =>
   dsimp only
   rw [compD_fm g p h IE hc xs ρ1 acc h1 (by simp at hl ⊢; omega) fun y hy => hx y (List.mem_cons_of_mem _ hy)]
   simp [hp]
theorem compD_mm {α : Type} (g : α → D) (h : α → D) {chk : Sto → Prop} {t : TgD} {fe : DE} {st : Sto} (IE : Ev → Prop) (hc : chk st) (xs : List α) (ρ : Ev) (acc : List D) (hI : IE ρ) (hl : acc.length + xs.length ≤ small)
  (hx : ∀ x ∈ xs, ∀ ρ, IE ρ → ∃ ρ1, t (g x) ρ = some ρ1 ∧ IE ρ1 ∧ fe ρ1 st = .ok (h x) st) : compD chk t dTrue fe (xs.map g) ρ st acc = .ok (acc ++ xs.map h) st:=by
 rw [compD_fm g (fun _ => true) h IE hc xs ρ acc hI hl fun x hm ρ hi => ?_]
 ·rw [List.filter_eq_self.mpr fun _ _ => rfl]
 ·obtain ⟨ρ1, e1, e2, e3⟩:=hx x hm ρ hi
  exact ⟨ρ1, e1, e2, rfl, fun _ => e3⟩
theorem ix_ents (es : List (List Str)) {k : Int} {j : Nat} {e : List Str} (hk : k = j) (hr : es[j]? = some e) (st : Sto) : ixD (.lst (es.map pl)) (.int k) st = .ok (pl e) st:=by
 subst hk
 have e : L2.atI (es.map pl) (j : Int) = some (pl e):=atI_nat (by rw [List.getElem?_map, hr]; rfl)
 simp [ixD, itemsOf, seqL, e]
theorem len_ents (es : List (List Str)) (st : Sto) : lenD [.lst (es.map pl)] st = .ok (.int es.length) st:=by
 simp [lenD, itemsOf, seqL]
noncomputable def ents (rows : List Row) : List (List Str):=rows.map (·.1)
theorem ents_get {rows : List Row} {j : Nat} {r : Row} (h : rows[j]? = some r) : (ents rows)[j]? = some r.1:=by simp [ents, h]
theorem ents_len (rows : List Row) : (ents rows).length = rows.length:=by simp [ents]
theorem cutF_to (a : List (List Str)) (n : Nat) (st : Sto) {k : Int} (hk : k = n) : cutF (.lst (a.map pl)) none (some k) st = .ok ((a.take n).map pl) st:=by
 subst hk
 simp [cutF, seqL, cutL_to, List.map_take]
structure StoK (st st' : Sto) : Prop where
 fr : ∀ (j : Nat) (x : S), st[j]? = some x → st'[j]? = some x
 le : st.length ≤ st'.length
theorem StoK.refl (st : Sto) : StoK st st:=⟨fun _ _ h => h, Nat.le_refl _⟩
theorem StoK.trans {a b c : Sto} (x : StoK a b) (y : StoK b c) : StoK a c:=⟨fun j z h => y.fr j z (x.fr j z h), Nat.le_trans x.le y.le⟩
theorem StoK.app (st t : Sto) : StoK st (st ++ t):=⟨fun j x h => by rw [List.getElem?_append_left (List.getElem?_eq_some_iff.mp h).1]; exact h, by simp⟩
theorem StoK.set {a b : Sto} (x : StoK a b) {r : Nat} (hr : a.length ≤ r) (y : S) : StoK a (b.set r y):=⟨fun j z h => by
 have hj : j < a.length:=(List.getElem?_eq_some_iff.mp h).1
 rw [List.getElem?_set_ne (by omega)]
 exact x.fr j z h, by rw [List.length_set]; exact x.le⟩
open HT in
theorem fold_spec : ∀ (ns : List Int) (m : Int), ns.foldl stepA m ∈ m :: ns ∧ (∀ k ∈ m :: ns, absI (ns.foldl stepA m) ≤ absI k) ∧ ((m :: ns).Pairwise (· < ·) → ∀ k ∈ m :: ns, absI k = absI (ns.foldl stepA m) → ns.foldl stepA m ≤ k)
 | [], m => ⟨by simp, by simp, fun _ k hk _ => by simp at hk; rw [hk]; exact Int.le_refl _⟩
 | n :: ns, m => by
  rw [List.foldl_cons]
  by_cases hb : absI n < absI m
  ·have e : stepA m n = n:=by unfold stepA; rw [if_pos hb]
   rw [e]
   obtain ⟨h1, h2, h3⟩:=fold_spec ns n
   have h0:=h2 n List.mem_cons_self
   refine ⟨List.mem_cons_of_mem _ h1, fun k hk => ?_, fun hp k hk he => ?_⟩
   ·rcases List.mem_cons.mp hk with rfl | hk
    ·omega
    ·exact h2 k hk
   ·rcases List.mem_cons.mp hk with rfl | hk
    ·omega
    ·exact h3 (List.pairwise_cons.mp hp).2 k hk he
  ·have e : stepA m n = m:=by unfold stepA; rw [if_neg hb]
   rw [e]
   obtain ⟨h1, h2, h3⟩:=fold_spec ns m
   have h0:=h2 m List.mem_cons_self
   have hsub : ∀ {P : Int → Prop}, (∀ k ∈ m :: ns, P k) → P n → ∀ k ∈ m :: n :: ns, P k:=fun hP hn k hk => by
    rcases List.mem_cons.mp hk with rfl | hk
    ·exact hP _ List.mem_cons_self
    ·rcases List.mem_cons.mp hk with rfl | hk
     ·exact hn
     ·exact hP k (List.mem_cons_of_mem _ hk)
   refine ⟨?_, hsub h2 (by omega), fun hp => ?_⟩
   ·rcases List.mem_cons.mp h1 with h | h
    ·rw [h]; exact List.mem_cons_self
    ·exact List.mem_cons_of_mem _ (List.mem_cons_of_mem _ h)
   ·have hp1:=List.pairwise_cons.mp hp
    have hp' : (m :: ns).Pairwise (· < ·):=List.pairwise_cons.mpr ⟨fun k hk => hp1.1 k (List.mem_cons_of_mem _ hk), (List.pairwise_cons.mp hp1.2).2⟩
    refine hsub (h3 hp') fun he => ?_
    have h4:=h3 hp' m List.mem_cons_self (by omega)
    have h5:=hp1.1 n List.mem_cons_self
    omega
noncomputable def ways (rows : List Row) (s : Nat) (p : List Str) : List Int:=((List.range rows.length).filter fun j => decide ((rows.getD j R0).1 = p)).map fun (j : Nat) => (j : Int) - s
theorem ways_mem {rows : List Row} {s : Nat} {p : List Str} {k : Int} : k ∈ ways rows s p ↔ ∃ j : Nat, j < rows.length ∧ (rows.getD j R0).1 = p ∧ k = (j : Int) - s:=by
 unfold ways
 rw [List.mem_map]
 constructor
 ·rintro ⟨j, hj, rfl⟩
  have:=List.mem_filter.mp hj
  exact ⟨j, List.mem_range.mp this.1, by simpa using this.2, rfl⟩
 ·rintro ⟨j, hj, hp, rfl⟩
  exact ⟨j, List.mem_filter.mpr ⟨List.mem_range.mpr hj, by simpa using hp⟩, rfl⟩
theorem ways_sorted (rows : List Row) (s : Nat) (p : List Str) : (ways rows s p).Pairwise (· < ·):=by
 unfold ways
 rw [List.pairwise_map]
 refine List.Pairwise.filter _ ?_
 exact List.pairwise_lt_range.imp fun h => by omega
theorem near_none {ns : List Int} (h : HT.minAbs ns = none) : ns = []:=by
 cases ns with
 | nil => rfl
 | cons _ _ => cases h
theorem near_some {ns : List Int} {m : Int} (h : HT.minAbs ns = some m) (hp : ns.Pairwise (· < ·)) : m ∈ ns ∧ (∀ k ∈ ns, HT.absI m ≤ HT.absI k) ∧ ∀ k ∈ ns, HT.absI k = HT.absI m → m ≤ k:=by
 cases ns with
 | nil => cases h
 | cons n ns =>
  obtain ⟨h1, h2, h3⟩:=fold_spec ns n
  cases h
  exact ⟨h1, h2, h3 hp⟩
theorem ints_map : ∀ ns : List Int, intsOf (ns.map D.int) = some ns
 | [] => rfl
 | n :: ns => by simp [intsOf, ints_map ns]
theorem BookAt.nearest {cv : Nat → Addr} {st : Sto} {b i : Nat} {m : Int} {rows : List Row} {s : Nat} (B : BookAt cv st b i m rows s) (p : List Str) : FzBook_nearest cv [.res b, pl p] st = .ok (minD (HT.minAbs (ways rows s p))) st:=by
 have hle:=B.le
 have c1 : compD (fun st => seqL st (.res i) = some (rows.map rowD)) (tgTup [0, 1]) CzBook_nearest_1 (EzBook_nearest_1 cv) (enumL 0 (rows.map rowD)) [none, none, some (.res b), some (pl p)] st [] = .ok ((ways rows s p).map .int) st:=by
  rw [enum_rows, compD_filter (fun ρ => ∃ a a', ρ = [a, a', some (.res b), some (pl p)]) (fun d => match d with | .tup (.int j :: _) => decide ((rows.getD j.toNat R0).1 = p) | _ => false) (fun d => match d with | .tup (.int j :: _) => .int (j - s) | _ => .non) (by simp [seqL, B.rw]) _ _ _ ⟨_, _, rfl⟩ (by simp; exact small_ge (by omega))]
  ·simp only [List.nil_append, ways, List.filter_map, List.map_map, Function.comp_def]
   simp
  ·rintro x hx ρ ⟨a, a', rfl⟩
   obtain ⟨j, hj, rfl⟩:=List.mem_map.mp hx
   refine ⟨_, rfl, ⟨_, _, rfl⟩, ?_, fun _ => ?_⟩
   ·show CzBook_nearest_1 [some (.int (j : Int)), some (rowD (rows.getD j R0)), some (.res b), some (pl p)] st = .ok (decide ((rows.getD j R0).1 = p)) st
    have q:=eqD_pl (rows.getD j R0).1 p st
    unfold CzBook_nearest_1
    simp [row0, q, -List.getD_eq_getElem?_getD]
   ·show EzBook_nearest_1 cv [some (.int (j : Int)), some (rowD (rows.getD j R0)), some (.res b), some (pl p)] st = .ok (.int ((j : Int) - s)) st
    unfold EzBook_nearest_1
    simp [z_fld, B.ins, bk_spot, subD_int]
 have sq : seqL st (.res i) = some (rows.map rowD):=by simp [seqL, B.rw]
 have iw:=ints_map (ways rows s p)
 have sl : ∀ (xs : List D) (st : Sto), seqL st (.lst xs) = some xs:=fun _ _ => rfl
 unfold FzBook_nearest gzBook_nearest
 simp [z_fld, B.ins, bk_rows, dEnum, sq, capEv, c1, dMinAbs, sl, iw]
noncomputable def ud (a b : List Str) : Bool:=decide (a.take b.length = b)
theorem under_ud (a b : List Str) (st : Sto) : Fzis_under [pl a, pl b] st = .ok (.bl (ud a b)) st:=by
 have e1:=len_pl b st
 have e2:=cut_pl a none (some (b.length : Int)) st
 rw [cutL_to] at e2
 have e3:=eqD_pl (a.take b.length) b st
 unfold Fzis_under gzis_under ud
 simp [e1, e2, e3]
noncomputable def keepD (rows : List Row) (s : Nat) (o : List Str) (j : Nat) : Bool:=decide (j = s) || !ud (rows.getD j R0).1 o
noncomputable def dropSp (rows : List Row) (s : Nat) (o : List Str) : List Nat:=(List.range rows.length).filter (keepD rows s o)
theorem BookAt.drop {cv : Nat → Addr} {st : Sto} {b i : Nat} {m : Int} {rows : List Row} {s : Nat} (B : BookAt cv st b i m rows s) (o : List Str) : ∃ st' i', FzBook_drop cv [.res b, pl o] st = .ok (.int ((rows.length : Int) - (dropSp rows s o).length)) st' ∧ BookAt cv st' b i' m (pick rows (dropSp rows s o)) (((dropSp rows s o).filter fun j => decide (j < s)).length) ∧ Chg st st' b i i':=by
 have hlt:=B.lt
 have hle:=B.le
 have hk : keepD rows s o s = true:=by unfold keepD; rw [decide_eq_true rfl]; rfl
 have hsp : ∀ j ∈ dropSp rows s o, j < rows.length:=fun j hj => List.mem_range.mp (List.mem_filter.mp hj).1
 have hl : (dropSp rows s o).length ≤ 100:=Nat.le_trans (List.length_filter_le _ _) (by rw [List.length_range]; exact hle)
 obtain ⟨st', i', e1, B', C'⟩:=B.keep_only (dropSp rows s o) hsp hl (filter_lt_len (keepD rows s o) rows.length s s hlt (Nat.le_refl _) hk)
 refine ⟨st', i', ?_, B', C'⟩
 have c1 : compD (fun st => seqL st (.res i) = some (rows.map rowD)) (tgTup [0, 1]) (CzBook_drop_1 cv) EzBook_drop_1 (enumL 0 (rows.map rowD)) [none, none, some (.res b), some (pl o)] st [] = .ok (nats (dropSp rows s o)) st:=by
  rw [enum_rows, compD_filter (fun ρ => ∃ a a', ρ = [a, a', some (.res b), some (pl o)]) (fun d => match d with | .tup (.int j :: _) => keepD rows s o j.toNat | _ => false) (fun d => match d with | .tup (.int j :: _) => .int j | _ => .non) B.seq _ _ _ ⟨_, _, rfl⟩ (by simp; exact small_ge (by omega))]
  ·simp only [List.nil_append, nats, dropSp, List.filter_map, List.map_map, Function.comp_def]
   simp
  ·rintro x hx ρ ⟨a, a', rfl⟩
   obtain ⟨j, hj, rfl⟩:=List.mem_map.mp hx
   rw [List.mem_range] at hj
   refine ⟨_, rfl, ⟨_, _, rfl⟩, ?_, fun _ => rfl⟩
   show CzBook_drop_1 cv [some (.int (j : Int)), some (rowD (rows.getD j R0)), some (.res b), some (pl o)] st = .ok (keepD rows s o j) st
   have q1:=eqD_int (j : Int) (s : Int) st
   have q2:=under_ud (rows.getD j R0).1 o st
   unfold CzBook_drop_1 keepD
   by_cases h1 : j = s
   ·rw [decide_eq_true (by omega)] at q1
    rw [decide_eq_true h1]
    simp [z_fld, B.ins, bk_spot, q1]
   ·rw [decide_eq_false (by omega)] at q1
    rw [decide_eq_false h1, Bool.false_or]
    simp [z_fld, B.ins, bk_spot, q1, row0, q2, -List.getD_eq_getElem?_getD]
 unfold FzBook_drop gzBook_drop
 simp [z_fld, z_meth, B.ins, bk_rows, bk_keep, dEnum, B.seq, capEv, c1, e1]
theorem cut2 (a : List Str) (st : Sto) : cutT (pl a) none (some 2) st = .ok (pl (a.take 2)) st:=by
 have:=cut_pl a none (some ((2 : Nat) : Int)) st
 rw [cutL_to] at this
 exact this
noncomputable def fillS (ns : List Int) (at_ m : Int) (R : List Row) (k : Nat) : List Row:=(visR m R (R.length - 1) ((placeV ns (at_ + 2 + 6 * (k : Int))).take 2)).set ((visR m R (R.length - 1) ((placeV ns (at_ + 2 + 6 * (k : Int))).take 2)).length - 1) ((placeV ns (at_ + 2 + 6 * (k : Int))).take 2, (k : Int) + 1)
noncomputable def fillN (ns : List Int) (at_ m : Int) (R : List Row) : Nat → List Row
 | 0 => R
 | k + 1 => fillS ns at_ m (fillN ns at_ m R k) k
noncomputable def fillT (ns : List Int) (at_ : Int) (R : List Row) : Nat:=R.length - 1 - (drawnV ns (at_ + 1) (((R.length - 1 : Nat) : Int) + 1)).toNat
theorem Chg.trans {st st1 st2 : Sto} {b i i1 i2 : Nat} (x : Chg st st1 b i i1) (y : Chg st1 st2 b i1 i2) : Chg st st2 b i i2:=by
 have h1:=x.le
 have h2:=y.le
 refine ⟨fun j z hz hb hi => y.fr j z (x.fr j z hz hb hi) hb ?_, ?_, by omega⟩
 ·have hj : j < st.length:=(List.getElem?_eq_some_iff.mp hz).1
  rcases x.nw with e | e
  ·rw [e]; exact hi
  ·omega
 ·rcases y.nw with e | e
  ·rw [e]; exact x.nw
  ·exact .inr (by omega)
theorem Chg.refl (st : Sto) (b i : Nat) : Chg st st b i i:=⟨fun _ _ h _ _ => h, .inl rfl, Nat.le_refl _⟩
theorem fill_turn2 {cv : Nat → Addr} (ns : List Int) (hl : ns.length ≤ 63) (at_ : Int) {st : Sto} {b i : Nat} {m : Int} {rows : List Row} (hm : 1 ≤ m) (hm9 : m ≤ 9) (B : BookAt cv st b i m rows (rows.length - 1)) (hr : (rows.length : Int) ≤ m) (k : Nat) (x : Option D) :
  ∃ st' i', Bz_law_filled_1 cv [some (.scr (ns.map .int)), some (.int at_), some (.res b), some (.int k), x] st = .nx [some (.scr (ns.map .int)), some (.int at_), some (.res b), some (.int k), x] st' ∧ BookAt cv st' b i' m (fillS ns at_ m rows k) ((fillS ns at_ m rows k).length - 1) ∧ ((fillS ns at_ m rows k).length : Int) ≤ m ∧ Chg st st' b i i':=by
 unfold fillS
 have e1:=place_eq ns hl (at_ + 2 + 6 * (k : Int)) st
 have e2:=mul2_int 6 (k : Int) st (mulOk_l _ _ (by decide) (by decide))
 obtain ⟨st1, i1, e3, B1, C1⟩:=B.visit ((placeV ns (at_ + 2 + 6 * (k : Int))).take 2) hm (by omega)
 have hv:=visR_len m rows (rows.length - 1) ((placeV ns (at_ + 2 + 6 * (k : Int))).take 2) B.lt
 have hla:=visR_last m rows (rows.length - 1) ((placeV ns (at_ + 2 + 6 * (k : Int))).take 2) B.lt
 generalize hR : visR m rows (rows.length - 1) ((placeV ns (at_ + 2 + 6 * (k : Int))).take 2) = R at *
 obtain ⟨st2, e4, B2, C2⟩:=B1.mark hla ((k : Int) + 1)
 have hlt:=B.lt
 refine ⟨st2, i1, ?_, ?_, ?_, C1.trans C2⟩
 ·unfold Bz_law_filled_1
  simp [z_meth, B.ins, bk_visit, e2, e1, cut2, e3, B1.ins, bk_mark, e4]
 ·rw [List.length_set]
  exact B2
 ·rw [List.length_set, hv]
  split <;> omega
theorem filled_eq2 {cv : Nat → Addr} (ns : List Int) (hl : ns.length ≤ 63) (at_ : Int) {st : Sto} {b i : Nat} {m : Int} {rows : List Row} (hm : 1 ≤ m) (hm9 : m ≤ 9) (B : BookAt cv st b i m rows (rows.length - 1)) (hr : (rows.length : Int) ≤ m) :
  ∃ st' i', Fz_law_filled cv [.scr (ns.map .int), .int at_, .res b] st = .ok (.res b) st' ∧ BookAt cv st' b i' m (fillN ns at_ m rows (drawnV ns at_ 8).toNat) (fillT ns at_ (fillN ns at_ m rows (drawnV ns at_ 8).toNat)) ∧
   ((fillN ns at_ m rows (drawnV ns at_ 8).toNat).length : Int) ≤ m ∧ Chg st st' b i i':=by
 have d0:=drawn_lo ns at_ 8 (by decide)
 have d1:=drawn_hi ns at_ 8 (by decide)
 have e1:=drawn_eq ns hl at_ 8 (by decide) st
 have h3 : rngOk (drawnV ns at_ 8) = true:=rngOk_of (by omega) (by omega)
 obtain ⟨ρ2, st2, e2, ⟨k2, i2, rfl, B2, hr2, C2⟩⟩:=loop_rng (chk:=fun _ => True) (t:=tgName 3) (g:=Bz_law_filled_1 cv) (f:=fun (i : Nat) => D.int (0 + i))
  (fun j ρ st' => ∃ k i', ρ = [some (.scr (ns.map .int)), some (.int at_), some (.res b), k, none] ∧ BookAt cv st' b i' m (fillN ns at_ m rows j) ((fillN ns at_ m rows j).length - 1) ∧ ((fillN ns at_ m rows j).length : Int) ≤ m ∧ Chg st st' b i i') (fun _ _ _ _ => trivial)
  (drawnV ns at_ 8).toNat (by
   rintro j hj ρ st1 ⟨k, i1, rfl, B1, hr1, C1⟩
   obtain ⟨st', i', e, B', hr', C'⟩:=fill_turn2 ns hl at_ hm hm9 B1 hr1 j none
   have ez : (D.int (0 + (j : Int))) = D.int (j : Int):=by rw [Int.zero_add]
   exact ⟨_, _, st', by rw [ez]; rfl, e, some (.int j), i', rfl, B', hr', C1.trans C'⟩) [some (.scr (ns.map .int)), some (.int at_), some (.res b), none, none] st ⟨none, i, rfl, B, hr, Chg.refl _ _ _⟩
 generalize fillN ns at_ m rows (drawnV ns at_ 8).toNat = rows2 at *
 have hlt:=B2.lt
 have n2:=B2.number
 have c0:=drawn_lo ns (at_ + 1) (((rows2.length - 1 : Nat) : Int) + 1) (by omega)
 have c1:=drawn_hi ns (at_ + 1) (((rows2.length - 1 : Nat) : Int) + 1) (by omega)
 have e3:=drawn_eq ns hl (at_ + 1) (((rows2.length - 1 : Nat) : Int) + 1) (by omega) st2
 unfold fillT
 generalize hd : drawnV ns (at_ + 1) (((rows2.length - 1 : Nat) : Int) + 1) = d at *
 have hj : rows2.length - 1 - d.toNat < rows2.length:=by omega
 obtain ⟨st3, e4, B3, C3⟩:=B2.go (k:=0 - d) (j:=rows2.length - 1 - d.toNat) (by omega) (List.getElem?_eq_getElem hj)
 refine ⟨st3, i2, ?_, B3, hr2, C2.trans C3⟩
 unfold Fz_law_filled gz_law_filled
 simp only [Int.zero_add] at e2
 simp [e1, dRng1, h3, e2, z_meth, B2.ins, bk_number, n2, e3, bk_go, subD_int]
 simp only [Int.zero_sub] at e4
 rw [e4]
 rfl
noncomputable def LW (rows : List Row) : Prop:=∀ r ∈ rows, ∀ w ∈ r.1, w.length = 1
theorem LW.set {rows : List Row} (h : LW rows) {p : List Str} (hp : ∀ w ∈ p, w.length = 1) (j : Nat) (n : Int) : LW (rows.set j (p, n)):=by
 intro r hr
 rcases List.mem_or_eq_of_mem_set hr with e | e
 ·exact h r e
 ·rw [e]; exact hp
theorem nice_place (p : List Str) : nice depth (pl p) = true:=nice_pl 48 p
theorem keyT_pl (p : List Str) : keyT (pl p) = some (p.map Sum.inr):=by
 show keyDs (p.map D.str) = _
 induction p with
 | nil => rfl
 | cons x p ih =>
  show (match keyD (.str x), keyDs (p.map D.str) with | some k, some ks => some (k :: ks) | _, _ => none) = _
  rw [ih]
  rfl
theorem keyT_inj {p q : List Str} : keyT (pl p) = keyT (pl q) ↔ p = q:=by
 rw [keyT_pl, keyT_pl, Option.some.injEq]
 constructor
 ·intro h
  induction p generalizing q with
  | nil =>
   cases q with
   | nil => rfl
   | cons y q => cases h
  | cons x p ih =>
   cases q with
   | nil => cases h
   | cons y q =>
    rw [List.map_cons, List.map_cons] at h
    injection h with h1 h2
    injection h1 with h1
    rw [h1, ih h2]
 ·intro h; rw [h]
noncomputable def dpl (f : List Str → D) (ks : List (List Str)) : List (D × D):=ks.map fun p => (pl p, f p)
theorem val_dpl (f : List Str → D) (p : List Str) : ∀ ks : List (List Str), valD keyT (dpl f ks) (pl p) = if p ∈ ks then some (f p) else none
 | [] => by simp [dpl, valD]
 | k :: ks => by
  show (if keyT (pl k) = keyT (pl p) then some (f k) else valD keyT (dpl f ks) (pl p)) = _
  rw [val_dpl f p ks]
  by_cases h : k = p
  ·subst h
   simp
  ·rw [if_neg (fun z => h (keyT_inj.mp z))]
   have h' : ¬ p = k:=fun z => h z.symm
   simp [h']
theorem has_dpl (f : List Str → D) (ks : List (List Str)) (p : List Str) : hasD keyT (dpl f ks) (pl p) = decide (p ∈ ks):=by
 unfold hasD dpl
 rw [List.any_map]
 induction ks with
 | nil => simp
 | cons k ks ih =>
  rw [List.any_cons, ih]
  by_cases h : k = p
  ·subst h
   simp
  ·have h' : ¬ p = k:=fun z => h z.symm
   have h2 : ¬ keyT (pl k) = keyT (pl p):=fun z => h (keyT_inj.mp z)
   simp [h', h2]
theorem put_dpl (f : List Str → D) (ks : List (List Str)) (p : List Str) (v : D) : putD keyT (dpl f ks) (pl p) v = dpl (fun q => if q = p then v else f q) (if p ∈ ks then ks else ks ++ [p]):=by
 unfold putD
 rw [has_dpl]
 by_cases h : p ∈ ks
 ·rw [if_pos (decide_eq_true h), if_pos h]
  unfold dpl
  rw [List.map_map]
  refine List.map_congr_left fun q _ => ?_
  show (if keyT (pl q) = keyT (pl p) then (pl q, v) else (pl q, f q)) = (pl q, if q = p then v else f q)
  by_cases e : q = p
  ·rw [if_pos (keyT_inj.mpr e), if_pos e]
  ·rw [if_neg (fun z => e (keyT_inj.mp z)), if_neg e]
 ·rw [if_neg (by simpa using h), if_neg h]
  unfold dpl
  rw [List.map_append]
  congr 1
  ·refine List.map_congr_left fun q hq => ?_
   have : ¬ q = p:=fun z => h (z ▸ hq)
   show (pl q, f q) = (pl q, if q = p then v else f q)
   rw [if_neg this]
  ·show [(pl p, v)] = [(pl p, if p = p then v else f p)]
   rw [if_pos rfl]
noncomputable def onceV : List (List Str) → List (List Str) → List (List Str)
 | acc, [] => acc
 | acc, p :: ps => onceV (if p ∈ acc then acc else acc ++ [p]) ps
theorem onceV_len : ∀ (ps acc : List (List Str)), (onceV acc ps).length ≤ acc.length + ps.length
 | [], acc => Nat.le_refl _
 | p :: ps, acc => by
  unfold onceV
  have:=onceV_len ps (if p ∈ acc then acc else acc ++ [p])
  have h2 : (if p ∈ acc then acc else acc ++ [p]).length ≤ acc.length + 1:=by split <;> simp
  simp only [List.length_cons]
  omega
theorem last_loop {chk : Sto → Prop} (hchk : ∀ st, chk st) (c0 : Option D) (r : Nat) (st0 : Sto) (hr : st0.length ≤ r) : ∀ (ps : List (List Str)) (e : Option D) (acc : List (List Str)) (f : List Str → D) (st : Sto), (∀ p ∈ acc, f p = .bl true) → acc.length + ps.length ≤ 100 → st[r]? = some (.dtt (dpl f acc)) → StoK st0 st →
  ∃ e' f' st', loopD chk (tgName 2) Bzlast_first_1 (ps.map pl) [c0, some (.res r), e] st = .nx [c0, some (.res r), e'] st' ∧ st'[r]? = some (.dtt (dpl f' (onceV acc ps))) ∧ StoK st0 st'
 | [], e, acc, f, st, _, _, h, hk => ⟨e, f, st, loop_nil (hchk st), h, hk⟩
 | p :: ps, e, acc, f, st, hf, hl, h, hk => by
  have ht : tgName 2 (pl p) [c0, some (.res r), e] = some [c0, some (.res r), some (pl p)]:=rfl
  have hput : dPutAt st (.res r) (pl p) (.bl true) = some (st.set r (.dtt (dpl (fun q => if q = p then .bl true else f q) (if p ∈ acc then acc else acc ++ [p])))):=by
   have hs : (dpl f acc).length < small:=by
    unfold dpl
    rw [List.length_map]
    exact Nat.lt_of_lt_of_le (by simp at hl; omega) (small_ge (n:=100) (by omega))
   unfold dPutAt
   simp only [h]
   rw [if_pos ⟨by rw [keyT_pl]; rfl, hs⟩, put_dpl]
  have hb : Bzlast_first_1 [c0, some (.res r), some (pl p)] st = .nx [c0, some (.res r), some (pl p)] (st.set r (.dtt (dpl (fun q => if q = p then .bl true else f q) (if p ∈ acc then acc else acc ++ [p])))):=by
   unfold Bzlast_first_1
   rw [z_sPutD]
   simp [hput]
  have hlen : (if p ∈ acc then acc else acc ++ [p]).length ≤ acc.length + 1:=by split <;> simp
  obtain ⟨e', f', st', e1, e2, e3⟩:=last_loop hchk c0 r st0 hr ps (some (pl p)) (if p ∈ acc then acc else acc ++ [p]) (fun q => if q = p then .bl true else f q) _ (fun q hq => by
   by_cases z : q = p
   ·rw [if_pos z]
   ·rw [if_neg z]
    refine hf q ?_
    split at hq
    ·exact hq
    ·rcases List.mem_append.mp hq with hq | hq
     ·exact hq
     ·exact absurd (List.mem_singleton.mp hq) z) (by simp only [List.length_cons] at hl; omega) (set_at h) (hk.set hr _)
  refine ⟨e', f', st', ?_, e2, e3⟩
  rw [List.map_cons, loop_nx (hchk st) ht hb]
  exact e1
theorem last_first_eq (ps : List (List Str)) (hl : ps.length ≤ 100) (st : Sto) : ∃ st', Fzlast_first [.lst (ps.map pl)] st = .ok (.lst ((onceV [] ps.reverse).map pl)) st' ∧ StoK st st':=by
 obtain ⟨e', f', st', e1, e2, e3⟩:=last_loop (chk:=fun st => seqL st (.lst (ps.map pl)) = some (ps.map pl)) (fun _ => rfl) (some (.lst (ps.map pl))) st.length st (Nat.le_refl _) ps.reverse none [] (fun _ => .non) (st ++ [.dtt []]) (fun p hp => by cases hp) (by simp; omega) (at_last _ _) (StoK.app _ _)
 refine ⟨st', ?_, e3⟩
 have hsq : ∀ st : Sto, seqL st (.lst (ps.map pl)) = some (ps.map pl):=fun _ => rfl
 have hk : (dpl f' (onceV [] ps.reverse)).map (·.1) = (onceV [] ps.reverse).map pl:=by
  unfold dpl
  rw [List.map_map]
  rfl
 have hlist : listTF [.res st.length] st' = .ok ((onceV [] ps.reverse).map pl) st':=by
  unfold listTF
  dsimp only
  rw [e2]
  dsimp only
  rw [hk]
 rw [List.map_reverse] at e1
 have hd : dRevd (dVar 0) [some (.lst (ps.map pl)), some (.res st.length), none] (st ++ [.dtt []]) = .ok ((ps.map pl).reverse, fun st => seqL st (.lst (ps.map pl)) = some (ps.map pl)) (st ++ [.dtt []]):=rfl
 refine run_rt rfl ?_
 show gzlast_first [some (.lst (ps.map pl)), none, none] st = _
 unfold gzlast_first
 have h0 : sSet 1 dNewT [some (.lst (ps.map pl)), none, none] st = .nx [some (.lst (ps.map pl)), some (.res st.length), none] (st ++ [.dtt []]):=rfl
 rw [seq_nx h0]
 rw [seq_nx (ρ':=[some (.lst (ps.map pl)), some (.res st.length), e']) (st':=st') (by rw [z_sFor, hd, z_to_ok]; exact e1)]
 generalize (onceV [] ps.reverse).map pl = L at *
 simp [hlist]
theorem once_mem : ∀ (ps acc : List (List Str)) (p : List Str), p ∈ onceV acc ps ↔ p ∈ acc ∨ p ∈ ps
 | [], acc, p => by simp [onceV]
 | q :: ps, acc, p => by
  unfold onceV
  rw [once_mem ps]
  by_cases h : q ∈ acc
  ·rw [if_pos h, List.mem_cons]
   constructor
   ·rintro (h1 | h1)
    ·exact .inl h1
    ·exact .inr (.inr h1)
   ·rintro (h1 | h1 | h1)
    ·exact .inl h1
    ·exact .inl (h1 ▸ h)
    ·exact .inr h1
  ·rw [if_neg h, List.mem_append, List.mem_singleton, List.mem_cons]
   constructor
   ·rintro ((h1 | h1) | h1)
    ·exact .inl h1
    ·exact .inr (.inl h1)
    ·exact .inr (.inr h1)
   ·rintro (h1 | h1 | h1)
    ·exact .inl (.inl h1)
    ·exact .inl (.inr h1)
    ·exact .inr h1
theorem counts_loop {chk : Sto → Prop} (hchk : ∀ st, chk st) (c0 : Option D) (r : Nat) (st0 : Sto) (hr : st0.length ≤ r) : ∀ (ps : List (List Str)) (e : Option D) (acc : List (List Str)) (f : List Str → Int) (st : Sto), (∀ p ∈ acc, 1 ≤ f p) → acc.length + ps.length ≤ 100 → st[r]? = some (.dtt (dpl (fun p => .int (f p)) acc)) → StoK st0 st →
  ∃ (e' : Option D) (f' : List Str → Int) (st' : Sto), loopD chk (tgName 2) Bzcounts_1 (ps.map pl) [c0, some (.res r), e] st = .nx [c0, some (.res r), e'] st' ∧ st'[r]? = some (.dtt (dpl (fun p => .int (f' p)) (onceV acc ps))) ∧ (∀ p ∈ onceV acc ps, 1 ≤ f' p) ∧ StoK st0 st'
 | [], e, acc, f, st, hf, _, h, hk => ⟨e, f, st, loop_nil (hchk st), h, hf, hk⟩
 | p :: ps, e, acc, f, st, hf, hl, h, hk => by
  have ht : tgName 2 (pl p) [c0, some (.res r), e] = some [c0, some (.res r), some (pl p)]:=rfl
  have hat : dAt st (.res r) (pl p) = some (if p ∈ acc then some (.int (f p)) else none):=by
   unfold dAt
   simp only [h]
   rw [if_pos (by rw [keyT_pl]; rfl), val_dpl]
  have hisd : isDct st (.res r) = true:=by
   unfold isDct
   simp only [h]
  obtain ⟨n, hn0, hn⟩ : ∃ n : Int, 0 ≤ n ∧ (if p ∈ acc then some (D.int (f p)) else none).getD (.int 0) = .int n:=by
   by_cases hp : p ∈ acc
   ·rw [if_pos hp]
    exact ⟨f p, by have:=hf p hp; omega, rfl⟩
   ·rw [if_neg hp]
    exact ⟨0, Int.le_refl _, rfl⟩
  have hput : dPutAt st (.res r) (pl p) (.int (n + 1)) = some (st.set r (.dtt (dpl (fun q => .int (if q = p then n + 1 else f q)) (if p ∈ acc then acc else acc ++ [p])))):=by
   have hs : (dpl (fun p => .int (f p)) acc).length < small:=by
    unfold dpl
    rw [List.length_map]
    exact Nat.lt_of_lt_of_le (by simp at hl; omega) (small_ge (n:=100) (by omega))
   unfold dPutAt
   simp only [h]
   rw [if_pos ⟨by rw [keyT_pl]; rfl, hs⟩, put_dpl]
   have : (fun q => if q = p then D.int (n + 1) else D.int (f q)) = fun q => D.int (if q = p then n + 1 else f q):=by
    funext q
    split <;> rfl
   rw [this]
  have hget : dGet2 (dVar 1) (dVar 2) (dC (.int 0)) [c0, some (.res r), some (pl p)] st = .ok (.int n) st:=by
   rw [z_dGet2]
   simp only [z_var, z_C, List.getElem?_cons_zero, List.getElem?_cons_succ, z_bind_ok, hisd, if_true, hat]
   rw [hn]
  have hb : Bzcounts_1 [c0, some (.res r), some (pl p)] st = .nx [c0, some (.res r), some (pl p)] (st.set r (.dtt (dpl (fun q => .int (if q = p then n + 1 else f q)) (if p ∈ acc then acc else acc ++ [p])))):=by
   unfold Bzcounts_1
   rw [z_sPutD]
   simp [hget, addD_int, hput]
  have hlen : (if p ∈ acc then acc else acc ++ [p]).length ≤ acc.length + 1:=by split <;> simp
  obtain ⟨e', f', st', e1, e2, e3, e4⟩:=counts_loop hchk c0 r st0 hr ps (some (pl p)) (if p ∈ acc then acc else acc ++ [p]) (fun q => if q = p then n + 1 else f q) _ (fun q hq => by
   by_cases z : q = p
   ·rw [if_pos z]; omega
   ·rw [if_neg z]
    refine hf q ?_
    split at hq
    ·exact hq
    ·rcases List.mem_append.mp hq with hq | hq
     ·exact hq
     ·exact absurd (List.mem_singleton.mp hq) z) (by simp only [List.length_cons] at hl; omega) (set_at h) (hk.set hr _)
  refine ⟨e', f', st', ?_, e2, e3, e4⟩
  rw [List.map_cons, loop_nx (hchk st) ht hb]
  exact e1
theorem counts_eq (ps : List (List Str)) (hl : ps.length ≤ 100) (st : Sto) : ∃ st' r, Fzcounts [.lst (ps.map pl)] st = .ok (.res r) st' ∧ StoK st st' ∧ ∀ p ∈ ps, ∃ n : Int, 1 ≤ n ∧ dAt st' (.res r) (pl p) = some (some (.int n)):=by
 obtain ⟨e', f', st', e1, e2, e3, e4⟩:=counts_loop (chk:=fun st => itemsOf st (.lst (ps.map pl)) = some (ps.map pl)) (fun _ => rfl) (some (.lst (ps.map pl))) st.length st (Nat.le_refl _) ps none [] (fun _ => 0) (st ++ [.dtt []]) (fun p hp => by cases hp) (by simp; omega) (at_last _ _) (StoK.app _ _)
 refine ⟨st', st.length, ?_, e4, fun p hp => ?_⟩
 ·refine run_rt rfl ?_
  show gzcounts [some (.lst (ps.map pl)), none, none] st = _
  unfold gzcounts
  have h0 : sSet 1 dNewT [some (.lst (ps.map pl)), none, none] st = .nx [some (.lst (ps.map pl)), some (.res st.length), none] (st ++ [.dtt []]):=rfl
  have hd : dSeq (dVar 0) [some (.lst (ps.map pl)), some (.res st.length), none] (st ++ [.dtt []]) = .ok (ps.map pl, fun st => itemsOf st (.lst (ps.map pl)) = some (ps.map pl)) (st ++ [.dtt []]):=rfl
  rw [seq_nx h0, seq_nx (ρ':=[some (.lst (ps.map pl)), some (.res st.length), e']) (st':=st') (by rw [z_sFor, hd, z_to_ok]; exact e1)]
  simp
 ·have hm : p ∈ onceV [] ps:=(once_mem ps [] p).mpr (.inr hp)
  refine ⟨f' p, e3 p hm, ?_⟩
  unfold dAt
  simp only [e2]
  rw [if_pos (by rw [keyT_pl]; rfl), val_dpl, if_pos hm]
theorem inN_pl (st : Sto) (b : List Str) : ∀ gs : List (List Str), inN st depth (pl b) (gs.map pl) = some (decide (b ∈ gs))
 | [] => by simp [inN]
 | g :: gs => by
  rw [List.map_cons]
  unfold inN
  rw [inN_pl st b gs, eqN_nice st depth _ _ (nice_place g) (nice_place b)]
  have e : pl g = pl b → g = b:=fun h => by
   have h' : g.map D.str = b.map D.str:=by
    have:=congrArg (fun d => match d with | D.tup xs => xs | _ => []) h
    exact this
   exact str_inj.mp h'
  by_cases h1 : g = b
  ·subst h1
   simp
  ·have h2 : ¬ b = g:=fun h => h1 h.symm
   simp [h2]
   exact fun h => absurd (e h) h1
open Classical in
theorem eqs_pl (st : Sto) (b : List Str) : ∀ gs : List (List Str), eqsOf st (pl b) (gs.map pl) = some (gs.map fun g => decide (g = b))
 | [] => rfl
 | g :: gs => by
  rw [List.map_cons]
  unfold eqsOf
  rw [eqs_pl st b gs, eqN_nice st depth _ _ (nice_place g) (nice_place b)]
  have e : (pl g = pl b) = (g = b):=propext ⟨fun h => by
   have h' : g.map D.str = b.map D.str:=by
    have:=congrArg (fun d => match d with | D.tup xs => xs | _ => []) h
    exact this
   exact str_inj.mp h', fun h => by rw [h]⟩
  simp only [e, List.map_cons]
theorem idx_pl (b : List Str) : ∀ gs : List (List Str), b ∈ gs → (gs.map fun g => decide (g = b)).idxOf true < gs.length ∧ gs[(gs.map fun g => decide (g = b)).idxOf true]? = some b
 | [], h => by cases h
 | g :: gs, h => by
  by_cases e : g = b
  ·subst e
   simp
  ·have hm : b ∈ gs:=by
    rcases List.mem_cons.mp h with h | h
    ·exact absurd h.symm e
    ·exact h
   obtain ⟨h1, h2⟩:=idx_pl b gs hm
   rw [List.map_cons, List.idxOf_cons, decide_eq_false e]
   simp only [show (false == true) = false from rfl, cond_false, List.length_cons]
   exact ⟨by omega, by simpa using h2⟩
theorem trail_loop {chk : Sto → Prop} (hchk : ∀ st, chk st) (c0 : Option D) (st0 : Sto) : ∀ (ps : List (List Str)) (r : Nat) (e : Option D) (T : List (List Str)) (st : Sto), st0.length ≤ r → T.length + ps.length ≤ 100 → st[r]? = some (.lst (T.map pl)) → StoK st0 st →
  ∃ (r' : Nat) (e' : Option D) (T' : List (List Str)) (st' : Sto), loopD chk (tgName 2) Bztrail_1 (ps.map pl) [c0, some (.res r), e] st = .nx [c0, some (.res r'), e'] st' ∧ st'[r']? = some (.lst (T'.map pl)) ∧ (T'.getLast? = (T ++ ps).getLast? ∨ ps = []) ∧ (ps = [] → T' = T) ∧ StoK st0 st'
 | [], r, e, T, st, _, _, h, hk => ⟨r, e, T, st, loop_nil (hchk st), h, .inr rfl, fun _ => rfl, hk⟩
 | p :: ps, r, e, T, st, hr, hl, h, hk => by
  have ht : tgName 2 (pl p) [c0, some (.res r), e] = some [c0, some (.res r), some (pl p)]:=rfl
  have hit:=getL h
  have hin : inD (pl p) (.res r) st = .ok (.bl (decide (p ∈ T))) st:=by
   unfold inD
   rw [hit]
   dsimp only
   rw [inN_pl]
  have step : ∃ (r1 : Nat) (T1 : List (List Str)) (st1 : Sto), Bztrail_1 [c0, some (.res r), some (pl p)] st = .nx [c0, some (.res r1), some (pl p)] st1 ∧ st1[r1]? = some (.lst (T1.map pl)) ∧ T1.getLast? = some p ∧ T1.length ≤ T.length + 1 ∧ st0.length ≤ r1 ∧ StoK st0 st1:=by
   by_cases hm : p ∈ T
   ·rw [decide_eq_true hm] at hin
    obtain ⟨h1, h2⟩:=idx_pl p T hm
    have hix : indexD (.res r) [pl p] st = .ok (.int ((T.map fun g => decide (g = p)).idxOf true : Nat)) st:=by
     have hs : seqL st (.res r) = some (T.map pl):=by simp [seqL, h]
     unfold indexD
     simp only [hs]
     have:=eqs_pl st p T
     have hd : (T.map fun g => decide (g = p)) = (T.map fun g => decide (g = p)):=rfl
     rw [show eqsOf st (pl p) (T.map pl) = some (T.map fun g => decide (g = p)) by rw [this]]
     dsimp only
     rw [if_pos (by rw [List.length_map]; exact h1)]
    generalize (T.map fun g => decide (g = p)).idxOf true = k at h1 h2 hix
    have hcut : cutF (.res r) none (some ((k : Int) + 1)) st = .ok ((T.take (k + 1)).map pl) st:=by
     have e : ((k : Int) + 1) = ((k + 1 : Nat) : Int):=by omega
     rw [e]
     simp only [cutF, seqL, h, cutL_to, List.map_take]
    refine ⟨st.length, T.take (k + 1), st ++ [.lst ((T.take (k + 1)).map pl)], ?_, at_last _ _, ?_, by rw [List.length_take]; omega, hk.le, hk.trans (StoK.app _ _)⟩
    ·have hs : seqL st (.res r) = some (T.map pl):=by simp [seqL, h]
     generalize (T.take (k + 1)).map pl = TT at *
     unfold Bztrail_1
     simp [hin, hs, hix, addD_int, hcut]
    ·rw [List.getLast?_eq_getElem?, List.length_take, show min (k + 1) T.length - 1 = k by omega, List.getElem?_take_of_lt (by omega)]
     exact h2
   ·rw [decide_eq_false hm] at hin
    have ha:=app_res (ρ:=[c0, some (.res r), some (pl p)]) (j:=1) (f:=dVar 2) (d:=pl p) rfl h rfl (by rw [List.length_map]; exact Nat.lt_of_lt_of_le (by simp at hl; omega) (small_ge (n:=100) (by omega)))
    refine ⟨r, T ++ [p], st.set r (.lst (T.map pl ++ [pl p])), ?_, ?_, by simp, by simp, hr, hk.set hr _⟩
    ·unfold Bztrail_1
     simp [hin, ha]
    ·rw [set_at h, List.map_append]
     rfl
  obtain ⟨r1, T1, st1, hb, g1, g2, g3, g4, g5⟩:=step
  obtain ⟨r', e', T', st', e1, e2, e3, e4, e5⟩:=trail_loop hchk c0 st0 ps r1 (some (pl p)) T1 st1 g4 (by simp only [List.length_cons] at hl; omega) g1 g5
  refine ⟨r', e', T', st', ?_, e2, .inl ?_, fun z => (by cases z), e5⟩
  ·rw [List.map_cons, loop_nx (hchk st) ht hb]
   exact e1
  ·by_cases hps : ps = []
   ·rw [e4 hps, g2, hps]
    simp
   ·rcases e3 with e3 | e3
    ·rw [e3]
     rw [List.getLast?_append, List.getLast?_append]
     have : ps.getLast?.isSome = true:=by simpa using hps
     obtain ⟨z, hz⟩:=Option.isSome_iff_exists.mp this
     rw [hz, List.getLast?_cons, hz]
     rfl
    ·exact absurd e3 hps
theorem trail_eq (ps : List (List Str)) (h0 : ps ≠ []) (hl : ps.length ≤ 100) (st : Sto) : ∃ (st' : Sto) (r : Nat) (T : List (List Str)), Fztrail [.lst (ps.map pl)] st = .ok (.res r) st' ∧ st'[r]? = some (.lst (T.map pl)) ∧ T.getLast? = ps.getLast? ∧ StoK st st':=by
 obtain ⟨r', e', T', st', e1, e2, e3, _, e5⟩:=trail_loop (chk:=fun st => itemsOf st (.lst (ps.map pl)) = some (ps.map pl)) (fun _ => rfl) (some (.lst (ps.map pl))) st ps st.length none [] (st ++ [.lst []]) (Nat.le_refl _) (by simp; omega) (at_last _ _) (StoK.app _ _)
 refine ⟨st', r', T', ?_, e2, ?_, e5⟩
 ·refine run_rt rfl ?_
  show gztrail [some (.lst (ps.map pl)), none, none] st = _
  unfold gztrail
  have q0 : (0 : Nat) ≤ small:=by decide
  have h1 : sSetF 1 (dLst dNil) [some (.lst (ps.map pl)), none, none] st = .nx [some (.lst (ps.map pl)), some (.res st.length), none] (st ++ [.lst []]):=by
   generalize ps.map pl = L at *
   simp [q0]
  have hd : dSeq (dVar 0) [some (.lst (ps.map pl)), some (.res st.length), none] (st ++ [.lst []]) = .ok (ps.map pl, fun st => itemsOf st (.lst (ps.map pl)) = some (ps.map pl)) (st ++ [.lst []]):=rfl
  rw [seq_nx h1, seq_nx (ρ':=[some (.lst (ps.map pl)), some (.res r'), e']) (st':=st') (by rw [z_sFor, hd, z_to_ok]; exact e1)]
  simp
 ·rcases e3 with e3 | e3
  ·simpa using e3
  ·exact absurd e3 h0
theorem isunder_eq (a b : List Str) (st : Sto) : Fzis_under [pl a, pl b] st = .ok (.bl (decide (a.take b.length = b))) st:=by
 have e1:=len_pl b st
 have e2:=cut_pl a none (some (b.length : Int)) st
 rw [cutL_to] at e2
 have e3:=eqD_pl (a.take b.length) b st
 unfold Fzis_under gzis_under
 simp [e1, e2, e3]
noncomputable def undC (ps : List (List Str)) (o : List Str) : Nat:=(ps.filter fun p => decide (p.take o.length = o)).length
theorem under_eq (ps : List (List Str)) (hl : ps.length ≤ 100) (o : List Str) (st : Sto) : Fzunder [.lst (ps.map pl), pl o] st = .ok (.int (undC ps o)) st:=by
 have e1 : compD (fun _ => True) (tgName 0) Czunder_1 Ezunder_1 (ps.map pl) [none, some (pl o)] st [] = .ok ((ps.filter fun p => decide (p.take o.length = o)).map pl) st:=by
  rw [compD_fm pl (fun p => decide (p.take o.length = o)) pl (fun ρ => ∃ a, ρ = [a, some (pl o)]) trivial ps _ [] ⟨_, rfl⟩ (by simp; exact small_ge (by omega))]
  ·simp
  ·rintro p hm ρ ⟨a, rfl⟩
   refine ⟨_, rfl, ⟨_, rfl⟩, ?_, fun _ => ?_⟩
   ·have q:=isunder_eq p o st
    unfold Czunder_1
    simp [q]
   ·unfold Ezunder_1
    simp
 have e2 : lenD [.lst ((ps.filter fun p => decide (p.take o.length = o)).map pl)] st = .ok (.int (undC ps o)) st:=by
  simp [lenD, itemsOf, seqL, undC]
 have hi : ∀ st : Sto, itemsOf st (.lst (ps.map pl)) = some (ps.map pl):=fun _ => rfl
 generalize hG : (ps.filter fun p => decide (p.take o.length = o)).map pl = G at *
 unfold Fzunder gzunder
 generalize ps.map pl = L at *
 simp [hi, capEv, e1, e2]
theorem recent_eq (ps : List (List Str)) (hl : ps.length ≤ 20) (st : Sto) : ∃ st', Fzrecent [.lst (ps.map pl), .int 20] st = .ok (.lst ((onceV [] ps.reverse).map pl)) st' ∧ StoK st st':=by
 obtain ⟨st', e, k⟩:=last_first_eq ps (by omega) st
 have hol:=onceV_len ps.reverse []
 rw [List.length_reverse, List.length_nil] at hol
 have em : max2D [.int 20, .int 0] st' = .ok (.int 20) st':=rfl
 have ec : cutF (.lst ((onceV [] ps.reverse).map pl)) none (some 20) st' = .ok ((onceV [] ps.reverse).map pl) st':=by
  have e1 : cutL ((onceV [] ps.reverse).map pl) none (some ((20 : Nat) : Int)) = (onceV [] ps.reverse).map pl:=by
   rw [cutL_to, List.take_of_length_le (by rw [List.length_map]; omega)]
  have e2 : cutL ((onceV [] ps.reverse).map pl) none (some 20) = (onceV [] ps.reverse).map pl:=e1
  simp only [cutF, seqL, e2]
 refine ⟨st', ?_, k⟩
 have ea : Fzat_most [.lst ((onceV [] ps.reverse).map pl), .int 20] st' = .ok (.lst ((onceV [] ps.reverse).map pl)) st':=by
  generalize (onceV [] ps.reverse).map pl = L at *
  unfold Fzat_most gzat_most
  simp [em, ec]
 generalize (onceV [] ps.reverse).map pl = L at *
 generalize ps.map pl = M at *
 unfold Fzrecent gzrecent
 simp [e, ea]
theorem once_rise (L : List (List Str)) : ∀ (rest pre acc : List (List Str)), L = pre ++ rest → (∀ p ∈ acc, L.idxOf p < pre.length) → (∀ p ∈ pre, p ∈ acc) → acc.Pairwise (fun a b => L.idxOf a < L.idxOf b) → (onceV acc rest).Pairwise (fun a b => L.idxOf a < L.idxOf b)
 | [], pre, acc, _, _, _, h => h
 | q :: rest, pre, acc, hL, h1, h2, h3 => by
  unfold onceV
  have hL' : L = (pre ++ [q]) ++ rest:=by rw [hL]; simp
  by_cases hq : q ∈ acc
  ·rw [if_pos hq]
   refine once_rise L rest (pre ++ [q]) acc hL' (fun p hp => ?_) (fun p hp => ?_) h3
   ·have:=h1 p hp
    simp
    omega
   ·rcases List.mem_append.mp hp with hp | hp
    ·exact h2 p hp
    ·rw [List.mem_singleton.mp hp]; exact hq
  ·rw [if_neg hq]
   have hnp : q ∉ pre:=fun z => hq (h2 q z)
   have hi : L.idxOf q = pre.length:=by
    rw [hL, List.idxOf_append, if_neg hnp, List.idxOf_cons_self]
    omega
   refine once_rise L rest (pre ++ [q]) (acc ++ [q]) hL' (fun p hp => ?_) (fun p hp => ?_) ?_
   ·rcases List.mem_append.mp hp with hp | hp
    ·have:=h1 p hp
     simp
     omega
    ·rw [List.mem_singleton.mp hp, hi]
     simp
   ·rcases List.mem_append.mp hp with hp | hp
    ·exact List.mem_append.mpr (.inl (h2 p hp))
    ·exact List.mem_append.mpr (.inr hp)
   ·refine List.pairwise_append.mpr ⟨h3, List.pairwise_singleton _ _, fun a ha b hb => ?_⟩
    rw [List.mem_singleton.mp hb, hi]
    exact h1 a ha
theorem once_pre : ∀ (ps acc : List (List Str)), ∃ more, onceV acc ps = acc ++ more
 | [], acc => ⟨[], by simp [onceV]⟩
 | p :: ps, acc => by
  unfold onceV
  obtain ⟨more, e⟩:=once_pre ps (if p ∈ acc then acc else acc ++ [p])
  rw [e]
  split
  ·exact ⟨more, rfl⟩
  ·exact ⟨[p] ++ more, by simp⟩
theorem near_last {rows : List Row} {p : List Str} (hp : p ∈ ents rows) : HT.minAbs (ways rows (rows.length - 1) p) = some (0 - ((ents rows).reverse.idxOf p : Int)):=by
 have hm : p ∈ (ents rows).reverse:=by simpa using hp
 have hlt : (ents rows).reverse.idxOf p < (ents rows).reverse.length:=List.idxOf_lt_length_of_mem hm
 have hln : (ents rows).reverse.length = rows.length:=by simp [ents]
 obtain ⟨i, hi⟩ : ∃ i, i = (ents rows).reverse.idxOf p:=⟨_, rfl⟩
 rw [← hi]
 rw [← hi] at hlt
 have hget : ∀ j, j < rows.length → (rows.getD j R0).1 = (ents rows).getD j []:=fun j hj => by
  simp [ents, List.getD_eq_getElem?_getD, List.getElem?_eq_getElem hj]
 have hrev : ∀ j, j < rows.length → (ents rows).reverse.getD (rows.length - 1 - j) [] = (ents rows).getD j []:=fun j hj => by
  have hl : (ents rows).length = rows.length:=ents_len rows
  rw [List.getD_eq_getElem?_getD, List.getD_eq_getElem?_getD, List.getElem?_reverse (by omega), hl, show rows.length - 1 - (rows.length - 1 - j) = j by omega]
 have hat : (ents rows).reverse.getD i [] = p:=by
  rw [hi, List.getD_eq_getElem?_getD, List.getElem?_eq_getElem (by rw [← hi]; exact hlt)]
  exact List.getElem_idxOf (by rw [← hi]; exact hlt)
 have k0 : (0 - (i : Int)) ∈ ways rows (rows.length - 1) p:=by
  refine ways_mem.mpr ⟨rows.length - 1 - i, by omega, ?_, by omega⟩
  rw [hget _ (by omega), ← hrev _ (by omega), show rows.length - 1 - (rows.length - 1 - i) = i by omega]
  exact hat
 have kall : ∀ k ∈ ways rows (rows.length - 1) p, k ≤ 0 - (i : Int):=by
  intro k hk
  obtain ⟨j, hj, e1, e2⟩:=ways_mem.mp hk
  rw [hget j hj, ← hrev j hj] at e1
  have hle : i ≤ rows.length - 1 - j:=by
   rw [hi]
   by_cases hc : rows.length - 1 - j < (ents rows).reverse.idxOf p
   ·exfalso
    have h2:=List.not_of_lt_findIdx (p:=(· == p)) (xs:=(ents rows).reverse) hc
    rw [List.getD_eq_getElem?_getD, List.getElem?_eq_getElem (by omega)] at e1
    simp only [Option.getD_some] at e1
    simp [e1] at h2
   ·omega
  omega
 cases hm2 : HT.minAbs (ways rows (rows.length - 1) p) with
 | none =>
  rw [near_none hm2] at k0
  cases k0
 | some m =>
  obtain ⟨h1, h2, h3⟩:=near_some hm2 (ways_sorted rows _ p)
  have h4:=kall m h1
  have h5:=h2 _ k0
  congr 1
  unfold HT.absI at h5
  split at h5 <;> split at h5 <;> omega
noncomputable def EB (ns : List Int) (b : Nat) (es : List (List Str)) (s : Int) (c4 c5 c6 c7 : Option D) : Ev:=[some (.scr (ns.map .int)), some (.res b), some (.lst (es.map pl)), some (.int s), c4, c5, c6, c7]
section
variable {cv : Nat → Addr} {st : Sto} {b i : Nat} {m : Int} {rows : List Row} {s : Nat} (ns : List Int)
theorem BookAt.keptK {st' : Sto} (B : BookAt cv st b i m rows s) (k : StoK st st') : BookAt cv st' b i m rows s:=⟨k.fr _ _ B.ob, k.fr _ _ B.rw, B.lt, B.le⟩
theorem p4_eq (B : BookAt cv st b i m rows s) (c4 c5 c6 c7 : Option D) : ∃ st', Pzlaw_p4 cv (EB ns b (ents rows) s c4 c5 c6 c7) st = .nx (EB ns b (ents rows) s c4 c5 c6 c7) st' ∧ StoK st st':=by
 have hs:=B.lt
 have hle:=B.le
 obtain ⟨r, hr⟩ : ∃ r, rows[s]? = some r:=⟨_, List.getElem?_eq_getElem hs⟩
 have hc:=cutF_to (ents rows) (s + 1) st (k:=(s : Int) + 1) (by omega)
 have hel : ((ents rows).take (s + 1)).length = s + 1:=by rw [List.length_take, ents_len]; omega
 obtain ⟨st1, r1, T, e1, h1, hT, k1⟩:=trail_eq ((ents rows).take (s + 1)) (fun z => by rw [z] at hel; cases hel) (by omega) st
 have hlast : ((ents rows).take (s + 1)).getLast? = some r.1:=by
  rw [List.getLast?_eq_getElem?, hel, show s + 1 - 1 = s by omega, List.getElem?_take_of_lt (by omega)]
  exact ents_get hr
 rw [hlast] at hT
 have hTl : 0 < T.length:=by
  cases T with
  | nil => cases hT
  | cons x xs => simp
 have e2 : ixD (.res r1) (.int (-1)) st1 = .ok (pl r.1) st1:=by
  have hi : L2.atI (T.map pl) (-1) = some (pl r.1):=by
   unfold L2.atI L2.ixN
   rw [if_neg (by omega), if_pos (by rw [List.length_map]; omega)]
   rw [List.getLast?_eq_getElem?] at hT
   have e : ((-1 : Int) + ((T.map pl).length : Int)).toNat = T.length - 1:=by rw [List.length_map]; omega
   simp only [Option.bind_some]
   rw [e, List.getElem?_map, hT]
   rfl
  simp [ixD, getL h1, hi]
 have B1:=B.keptK k1
 have e3:=B1.now hr
 obtain ⟨st2, r2, e4, k2, hcn⟩:=counts_eq (ents rows) (by rw [ents_len]; omega) st1
 have B2:=B1.keptK k2
 have e5:=B2.now hr
 obtain ⟨n, hn, e6⟩:=hcn r.1 (List.mem_of_getElem? (ents_get hr))
 refine ⟨st2, ?_, k1.trans k2⟩
 unfold Pzlaw_p4
 refine sif_no (tst_or (st1:=st1) (tst_ne (nice_place r.1) (st1:=st1) ?_ ?_) ?_)
 ·generalize (ents rows).take (s + 1) = TT at *
  unfold EB
  simp [-List.map_map, addD_int, hc, e1, e2]
 ·unfold EB
  simp [-List.map_map, z_meth, B1.ins, bk_now, e3]
 ·have hlt : ltD (.int n) (.int 1) st2 = .ok (.bl false) st2:=by
   simp [ltD, cmpD]
   omega
  unfold EB
  simp [-List.map_map, z_getDd, e4, z_meth, B2.ins, bk_now, e5, e6, hlt]
end
theorem ddZ_id : ∀ {F : List Int}, F.Nodup → ddZ F = F
 | [], _ => rfl
 | x :: F, h => by
  obtain ⟨h1, h2⟩:=List.nodup_cons.mp h
  unfold ddZ
  rw [ddZ_id h2, if_neg h1]
theorem setI_id {F : List Int} (h : F.Pairwise (· < ·)) (hl : F.length < 64) (st : Sto) : setIF [.lst (F.map .int)] st = .ok (F.map .int) st:=by
 have hn : F.Nodup:=h.imp fun {a b} h e => by omega
 have e : srtZ (ddZ F) = F:=by
  rw [ddZ_id hn]
  exact (srtZ_uniq (.refl _) (h.imp fun {a b} h => decide_eq_true h)).symm
 simp only [setIF, seqL, intsZ_map, if_pos hl, e]
noncomputable def farV (rows : List Row) : List Int:=(onceV [] (ents rows).reverse).map fun p => ((ents rows).reverse.idxOf p : Int)
theorem farV_rise (rows : List Row) : (farV rows).Pairwise (· < ·):=by
 unfold farV
 refine List.pairwise_map.mpr ?_
 refine (once_rise (ents rows).reverse (ents rows).reverse [] [] rfl (fun p hp => by cases hp) (fun p hp => by cases hp) .nil).imp fun {a b} h => by omega
theorem farV_len (rows : List Row) : (farV rows).length ≤ rows.length:=by
 unfold farV
 have:=onceV_len (ents rows).reverse []
 rw [List.length_reverse, List.length_nil, ents_len] at this
 rw [List.length_map]
 omega
theorem farV_head {rows : List Row} (h : rows ≠ []) : (farV rows)[0]? = some 0:=by
 unfold farV
 have he : (ents rows).reverse ≠ []:=by simpa [ents] using h
 obtain ⟨q, L, e⟩:=List.exists_cons_of_ne_nil he
 obtain ⟨more, e2⟩:=once_pre L [q]
 have e3 : onceV [] (q :: L) = q :: more:=by
  show onceV (if q ∈ ([] : List (List Str)) then [] else [] ++ [q]) L = _
  simpa using e2
 rw [e, e3]
 simp
section
variable {cv : Nat → Addr} {st : Sto} {b i : Nat} {m : Int} {rows : List Row} (ns : List Int)
theorem p11_eq (B : BookAt cv st b i m rows (rows.length - 1)) (hl : rows.length ≤ 9) (s : Int) (c4 c5 c6 c7 : Option D) : ∃ st', Pzlaw_p11 cv (EB ns b (ents rows) s c4 c5 c6 c7) st = .nx (EB ns b (ents rows) s c4 c5 c6 (some (.lst ((farV rows).map .int)))) st' ∧ StoK st st':=by
 obtain ⟨st1, e1, k1⟩:=recent_eq (ents rows) (by rw [ents_len]; omega) st
 have B1:=B.keptK k1
 have hol:=onceV_len (ents rows).reverse []
 rw [List.length_reverse, List.length_nil, ents_len] at hol
 obtain ⟨RC, hRC⟩ : ∃ RC, RC = onceV [] (ents rows).reverse:=⟨_, rfl⟩
 have e2 : compD (fun _ => True) (tgName 0) dTrue (Ezlaw_1 cv) (RC.map pl) [none, some (.res b)] st1 [] = .ok (RC.map fun p => D.int ((ents rows).reverse.idxOf p : Int)) st1:=by
  rw [compD_mm pl (fun p => D.int ((ents rows).reverse.idxOf p : Int)) (fun ρ => ∃ a, ρ = [a, some (.res b)]) trivial RC _ [] ⟨_, rfl⟩ (by simp; rw [hRC]; exact small_ge (by omega))]
  ·simp
  ·rintro p hm ρ ⟨a, rfl⟩
   refine ⟨_, rfl, ⟨_, rfl⟩, ?_⟩
   have hp : p ∈ ents rows:=by
    rw [hRC] at hm
    have:=(once_mem _ [] p).mp hm
    simpa using this
   have e3:=B1.nearest p
   rw [near_last hp] at e3
   unfold Ezlaw_1
   simp [z_meth, B1.ins, bk_nearest, e3, minD, subD_int]
 have e4 : RC.map (fun p => D.int ((ents rows).reverse.idxOf p : Int)) = (farV rows).map .int:=by
  unfold farV
  rw [← hRC, List.map_map]
  rfl
 rw [e4] at e2
 rw [← hRC] at e1
 have hi : ∀ st : Sto, itemsOf st (.lst (RC.map pl)) = some (RC.map pl):=fun _ => rfl
 refine ⟨st1, ?_, k1⟩
 unfold Pzlaw_p11 EB
 generalize (farV rows).map D.int = FF at *
 generalize RC.map pl = RR at *
 generalize (ents rows).map pl = EE at *
 simp [e1, hi, capEv, e2]
theorem p12_eq (h0 : rows ≠ []) (hl : rows.length ≤ 9) (s : Int) (c4 c5 c6 : Option D) : Pzlaw_p12 (EB ns b (ents rows) s c4 c5 c6 (some (.lst ((farV rows).map .int)))) st = .nx (EB ns b (ents rows) s c4 c5 c6 (some (.lst ((farV rows).map .int)))) st:=by
 have e1:=setI_id (farV_rise rows) (by have:=farV_len rows; omega) st
 have e2 : ixD (.lst ((farV rows).map D.int)) (.int 0) st = .ok (.int 0) st:=by
  have e : L2.atI ((farV rows).map D.int) ((0 : Nat) : Int) = some (.int 0):=atI_nat (by rw [List.getElem?_map, farV_head h0]; rfl)
  have e' : L2.atI ((farV rows).map D.int) 0 = some (.int 0):=e
  simp [ixD, itemsOf, seqL, e']
 have hn : nice depth (.lst ((farV rows).map D.int)) = true:=by
  show nice (49 + 1) _ = true
  unfold nice
  rw [niceL_all]
  intro y hy
  obtain ⟨k, _, rfl⟩:=List.mem_map.mp hy
  rfl
 have hz : neD (.int 0) (.int 0) st = .ok (.bl false) st:=rfl
 unfold Pzlaw_p12
 refine sif_no (tst_or (st1:=st) (tst_ne hn (st1:=st) rfl ?_) ?_)
 ·unfold EB
  generalize (farV rows).map D.int = FF at *
  simp [-List.map_map, e1]
 ·unfold EB
  generalize (farV rows).map D.int = FF at *
  simp [-List.map_map, e2, hz]
end
section
variable {cv : Nat → Addr} {st : Sto} {b : Nat} {rows : List Row} (ns : List Int)
theorem p13_eq (hl : rows.length ≤ 9) (s : Int) (c4 c5 c6 : Option D) : ∃ st', Pzlaw_p13 (EB ns b (ents rows) s c4 c5 c6 (some (.lst ((farV rows).map .int)))) st = .rt (.bl true) st':=by
 obtain ⟨st1, e1, k1⟩:=recent_eq (ents rows) (by rw [ents_len]; omega) st
 obtain ⟨RC, hRC⟩ : ∃ RC, RC = onceV [] (ents rows).reverse:=⟨_, rfl⟩
 have hol:=onceV_len (ents rows).reverse []
 rw [List.length_reverse, List.length_nil, ents_len, ← hRC] at hol
 have hel:=ents_len rows
 have e4 : (farV rows).map D.int = RC.map (fun p => D.int ((ents rows).reverse.idxOf p : Int)):=by
  unfold farV
  rw [← hRC, List.map_map]
  rfl
 have e2 : compD (fun _ => True) (tgName 0) dTrue Ezlaw_2 ((farV rows).map .int) [none, some (.lst ((ents rows).map pl))] st [] = .ok (RC.map pl) st:=by
  rw [e4, compD_mm (fun p => D.int ((ents rows).reverse.idxOf p : Int)) pl (fun ρ => ∃ a, ρ = [a, some (.lst ((ents rows).map pl))]) trivial RC _ [] ⟨_, rfl⟩ (by simp; exact small_ge (by omega))]
  ·simp
  ·rintro p hm ρ ⟨a, rfl⟩
   refine ⟨_, rfl, ⟨_, rfl⟩, ?_⟩
   have hp : p ∈ (ents rows).reverse:=by
    rw [hRC] at hm
    have:=(once_mem _ [] p).mp hm
    simpa using this
   have hlt:=List.idxOf_lt_length_of_mem hp
   rw [List.length_reverse, hel] at hlt
   have hat : (ents rows)[rows.length - 1 - (ents rows).reverse.idxOf p]? = some p:=by
    have h1 : (ents rows).reverse[(ents rows).reverse.idxOf p]? = some p:=by
     rw [List.getElem?_eq_getElem (by rw [List.length_reverse, hel]; exact hlt)]
     exact congrArg some (List.getElem_idxOf (by rw [List.length_reverse, hel]; exact hlt))
    rw [List.getElem?_reverse (by omega), hel] at h1
    exact h1
   have e5:=len_ents (ents rows) st
   rw [hel] at e5
   have e6:=ix_ents (ents rows) (k:=(rows.length : Int) - 1 - ((ents rows).reverse.idxOf p : Int)) (j:=rows.length - 1 - (ents rows).reverse.idxOf p) (by omega) hat st
   unfold Ezlaw_2
   generalize (ents rows).map pl = EE at *
   simp [e5, subD_int, e6]
 rw [← hRC] at e1
 have hn : nice depth (.lst (RC.map pl)) = true:=by
  show nice (49 + 1) _ = true
  unfold nice
  rw [niceL_all]
  intro y hy
  obtain ⟨k, _, rfl⟩:=List.mem_map.mp hy
  exact nice_pl 47 k
 have heq : eqD (.lst (RC.map pl)) (.lst (RC.map pl)) st1 = .ok (.bl true) st1:=by
  rw [eqD_nice hn hn]
  simp
 have hi : ∀ st : Sto, itemsOf st (.lst ((farV rows).map D.int)) = some ((farV rows).map D.int):=fun _ => rfl
 refine ⟨st1, ?_⟩
 unfold Pzlaw_p13 EB
 generalize (farV rows).map D.int = FF at *
 generalize RC.map pl = RR at *
 generalize (ents rows).map pl = EE at *
 simp [hi, capEv, e2, e1, heq]
end
theorem cnt_one (U : Nat → Bool) (s : Nat) : ∀ n : Nat, ((List.range n).filter fun j => decide (j = s) && U j).length = if s < n ∧ U s = true then 1 else 0
 | 0 => by simp
 | n + 1 => by
  rw [List.range_succ, List.filter_append, List.length_append, cnt_one U s n]
  by_cases h : n = s
  ·subst h
   by_cases hu : U n = true
   ·simp [hu]
   ·have : U n = false:=by simpa using hu
    simp [this]
  ·have h1 : ([n].filter fun j => decide (j = s) && U j).length = 0:=by simp [h]
   rw [h1]
   by_cases hu : U s = true
   ·by_cases h2 : s < n
    ·rw [if_pos ⟨h2, hu⟩, if_pos ⟨by omega, hu⟩]
    ·rw [if_neg (fun z => h2 z.1), if_neg (fun z => by omega)]
   ·rw [if_neg (fun z => hu z.2), if_neg (fun z => hu z.2)]
theorem cnt_split {α : Type} (P Q : α → Bool) : ∀ l : List α, (l.filter P).length = (l.filter fun x => Q x && P x).length + (l.filter fun x => !Q x && P x).length
 | [] => rfl
 | x :: l => by
  have ih:=cnt_split P Q l
  cases hp : P x <;> cases hq : Q x <;> simp [hp, hq, ih] <;> omega
theorem cnt_not {α : Type} (P : α → Bool) : ∀ l : List α, l.length = (l.filter P).length + (l.filter fun x => !P x).length
 | [] => rfl
 | x :: l => by
  have ih:=cnt_not P l
  cases hp : P x <;> simp [hp] <;> omega
theorem und_range (rows : List Row) (o : List Str) : undC (ents rows) o = ((List.range rows.length).filter fun j => ud (rows.getD j R0).1 o).length:=by
 have e : ents rows = (List.range rows.length).map fun j => (rows.getD j R0).1:=by
  refine List.ext_getElem (by simp [ents]) fun j h1 h2 => ?_
  have hj : j < rows.length:=by simpa using h2
  simp [ents, List.getD_eq_getElem?_getD, List.getElem?_eq_getElem hj]
 unfold undC
 rw [e, List.filter_map, List.length_map]
 congr 1
theorem drop_count (rows : List Row) (s : Nat) (o : List Str) (hs : s < rows.length) : (rows.length : Int) - (dropSp rows s o).length = (undC (ents rows) o : Int) - (if ud (rows.getD s R0).1 o = true then 1 else 0):=by
 have h1:=cnt_not (keepD rows s o) (List.range rows.length)
 rw [List.length_range] at h1
 have h2:=cnt_split (fun j => ud (rows.getD j R0).1 o) (fun j => decide (j = s)) (List.range rows.length)
 have h3:=cnt_one (fun j => ud (rows.getD j R0).1 o) s rows.length
 have h4 : ((List.range rows.length).filter fun x => !keepD rows s o x) = (List.range rows.length).filter fun x => !decide (x = s) && ud (rows.getD x R0).1 o:=by
  refine List.filter_congr fun x _ => ?_
  unfold keepD
  cases decide (x = s) <;> cases ud (rows.getD x R0).1 o <;> rfl
 rw [h4] at h1
 have h5:=und_range rows o
 unfold dropSp
 rw [h5, h2, h3]
 by_cases hu : ud (rows.getD s R0).1 o = true
 ·rw [if_pos ⟨hs, hu⟩, if_pos hu]
  omega
 ·rw [if_neg (fun z => hu z.2), if_neg hu]
  omega
theorem drop_left (rows : List Row) (s : Nat) (o : List Str) (hs : s < rows.length) : undC (ents (pick rows (dropSp rows s o))) o = if ud (rows.getD s R0).1 o = true then 1 else 0:=by
 have e : ents (pick rows (dropSp rows s o)) = (dropSp rows s o).map fun j => (rows.getD j R0).1:=by
  simp [ents, pick, List.map_map, Function.comp_def]
 unfold undC
 rw [e, List.filter_map, List.length_map]
 unfold dropSp
 rw [List.filter_filter]
 have h3:=cnt_one (fun j => ud (rows.getD j R0).1 o) s rows.length
 have h4 : ((List.range rows.length).filter fun a => ((fun p => decide (List.take o.length p = o)) ∘ fun j => (rows.getD j R0).1) a && keepD rows s o a) = (List.range rows.length).filter fun j => decide (j = s) && ud (rows.getD j R0).1 o:=by
  refine List.filter_congr fun x _ => ?_
  show (ud (rows.getD x R0).1 o && keepD rows s o x) = _
  unfold keepD
  cases decide (x = s) <;> cases ud (rows.getD x R0).1 o <;> rfl
 rw [h4, h3]
 by_cases hu : ud (rows.getD s R0).1 o = true
 ·rw [if_pos ⟨hs, hu⟩, if_pos hu]
 ·rw [if_neg (fun z => hu z.2), if_neg hu]
theorem law_true (cv : Nat → Addr) (ns : List Int) (hl : ns.length ≤ 63) : ∃ st, Fzlaw cv [.scr (ns.map .int)] [] = .ok (.bl true) st:=by
 have MK : ∀ st : Sto, ∃ st' b i, (dCall (Fz_law_filled cv) (dCons (dVar 0) (dCons (dC (.int 10)) (dCons (dMake (cv 0) (FzBook___init__ cv) (dCons (dCall Fz_law_place (dCons (dVar 0) (dCons (dC (.int 0)) dNil))) (dCons (dC (.int 9)) dNil))) dNil))) : DE) = (dCall (Fz_law_filled cv) (dCons (dVar 0) (dCons (dC (.int 10)) (dCons (dMake (cv 0) (FzBook___init__ cv) (dCons (dCall Fz_law_place (dCons (dVar 0) (dCons (dC (.int 0)) dNil))) (dCons (dC (.int 9)) dNil))) dNil)))) ∧
   (∀ ρ : Ev, ρ[0]? = some (some (.scr (ns.map .int))) → (dCall (Fz_law_filled cv) (dCons (dVar 0) (dCons (dC (.int 10)) (dCons (dMake (cv 0) (FzBook___init__ cv) (dCons (dCall Fz_law_place (dCons (dVar 0) (dCons (dC (.int 0)) dNil))) (dCons (dC (.int 9)) dNil))) dNil))) : DE) ρ st = .ok (.res b) st') ∧
   BookAt cv st' b i 9 (fillN ns 10 9 [(placeV ns 0, 0)] (drawnV ns 10 8).toNat) (fillT ns 10 (fillN ns 10 9 [(placeV ns 0, 0)] (drawnV ns 10 8).toNat)) ∧ ((fillN ns 10 9 [(placeV ns 0, 0)] (drawnV ns 10 8).toNat).length : Int) ≤ 9:=by
  intro st
  obtain ⟨st1, i1, f1, B, hr, _⟩:=filled_eq2 (cv:=cv) ns hl 10 (st:=st ++ [.ins (cv 0) (bk 9 (st.length + 1) 0), .lst [rowD (placeV ns 0, 0)]]) (rows:=[(placeV ns 0, 0)]) (m:=9) (by decide) (by decide) (book_new (placeV ns 0) 9 st) (by simp)
  have e1:=make_book (cv:=cv) (placeV ns 0) 9 st
  refine ⟨st1, st.length, i1, rfl, fun ρ h0 => ?_, B, hr⟩
  have ep:=place_eq ns hl 0 st
  simp [h0, ep, z_make, e1, asNon, f1]
 have hg : ∃ st, gzlaw cv [some (.scr (ns.map .int)), none, none, none, none, none, none, none] [] = .rt (.bl true) st:=by
  obtain ⟨st1, b, i, _, f1, B, hr⟩:=MK []
  generalize hR : fillN ns 10 9 [(placeV ns 0, 0)] (drawnV ns 10 8).toNat = rows at *
  generalize hS : fillT ns 10 rows = s at *
  have hs:=B.lt
  have hr9 : rows.length ≤ 9:=by omega
  unfold gzlaw
  refine seq_go (ρ':=[some (.scr (ns.map .int)), some (.res b), none, none, none, none, none, none]) (st':=st1) ?_ ?_
  ·unfold Pzlaw_p1
   rw [z_sSet, f1 _ rfl]
   rfl
  have en:=B.entries
  have hen : (rows.map fun r => pl r.1) = (ents rows).map pl:=by simp [ents]
  rw [hen] at en
  refine seq_go (ρ':=[some (.scr (ns.map .int)), some (.res b), some (.lst ((ents rows).map pl)), none, none, none, none, none]) (st':=st1) ?_ ?_
  ·unfold Pzlaw_p2
   generalize (ents rows).map pl = EE at *
   simp [z_meth, B.ins, bk_entries, en]
  have enu:=B.number
  refine seq_go (ρ':=EB ns b (ents rows) s none none none none) (st':=st1) ?_ ?_
  ·unfold Pzlaw_p3 EB
   generalize (ents rows).map pl = EE at *
   simp [z_meth, B.ins, bk_number, enu]
  obtain ⟨st2, e4, k2⟩:=p4_eq (cv:=cv) ns B none none none none
  refine seq_go e4 ?_
  have B2:=B.keptK k2
  have pe:=place_eq ns hl 80 st2
  have hc : cutT (pl (placeV ns 80)) none (some 1) st2 = .ok (pl ((placeV ns 80).take 1)) st2:=by
   have hc:=cut_pl (placeV ns 80) none (some ((1 : Nat) : Int)) st2
   rw [cutL_to] at hc
   exact hc
  generalize (placeV ns 80).take 1 = o at hc
  refine seq_go (ρ':=EB ns b (ents rows) s (some (pl o)) none none none) (st':=st2) ?_ ?_
  ·unfold Pzlaw_p5 EB
   generalize (ents rows).map pl = EE at *
   simp [pe, hc]
  have e6:=under_eq (ents rows) (by rw [ents_len]; omega) o st2
  refine seq_go (ρ':=EB ns b (ents rows) s (some (pl o)) (some (.int (undC (ents rows) o))) none none) (st':=st2) ?_ ?_
  ·unfold Pzlaw_p6 EB
   generalize (ents rows).map pl = EE at *
   simp [e6]
  have e7a:=B2.now (get_D hs)
  have e7b:=len_pl o st2
  have e7c:=cut_pl (rows.getD s R0).1 none (some (o.length : Int)) st2
  rw [cutL_to] at e7c
  have e7d:=eqD_pl ((rows.getD s R0).1.take o.length) o st2
  obtain ⟨u, hu⟩ : ∃ u, u = ud (rows.getD s R0).1 o:=⟨_, rfl⟩
  have e7e : eqD (pl ((rows.getD s R0).1.take o.length)) (pl o) st2 = .ok (.bl u) st2:=by rw [e7d, hu]; rfl
  generalize (rows.getD s R0).1.take o.length = ct at e7c e7e
  have hdc:=drop_count rows s o hs
  have hdl:=drop_left rows s o hs
  rw [← hu] at hdc hdl
  refine seq_go (ρ':=EB ns b (ents rows) s (some (pl o)) (some (.int (undC (ents rows) o))) (some (.bl u)) none) (st':=st2) ?_ ?_
  ·unfold Pzlaw_p7 EB
   generalize (ents rows).map pl = EE at *
   generalize (rows.getD s R0).1 = nw at *
   simp [z_meth, B2.ins, bk_now, e7a, e7b, e7c, e7e]
  obtain ⟨st3, i3, e8a, B3, _⟩:=B2.drop o
  rw [hdc] at e8a
  have en3:=B3.entries
  have hen3 : ((pick rows (dropSp rows s o)).map fun r => pl r.1) = (ents (pick rows (dropSp rows s o))).map pl:=by simp [ents]
  rw [hen3] at en3
  have e8b:=under_eq (ents (pick rows (dropSp rows s o))) (by rw [ents_len]; exact B3.le) o st3
  rw [hdl] at e8b
  have hiu : ∀ st : Sto, intD [.bl u] st = .ok (.int (if u = true then 1 else 0)) st:=fun st => by cases u <;> rfl
  refine seq_go (ρ':=EB ns b (ents rows) s (some (pl o)) (some (.int (undC (ents rows) o))) (some (.bl u)) none) (st':=st3) ?_ ?_
  ·unfold Pzlaw_p8
   have hn1:=neD_int ((undC (ents rows) o : Int) - (if u = true then 1 else 0)) ((undC (ents rows) o : Int) - (if u = true then 1 else 0)) st3
   rw [decide_eq_true rfl] at hn1
   have hn2:=neD_int (if u = true then 1 else 0) (if u = true then 1 else 0) st3
   rw [decide_eq_true rfl] at hn2
   have e8c : Fzunder [.lst ((ents (pick rows (dropSp rows s o))).map pl), pl o] st3 = .ok (.int (if u = true then 1 else 0)) st3:=by
    rw [e8b]
    cases u <;> rfl
   have ebd:=bk_drop
   generalize (ents (pick rows (dropSp rows s o))).map pl = E3 at *
   generalize (ents rows).map pl = EE at *
   generalize ((undC (ents rows) o : Int)) = uc at *
   refine sif_no (tst_or (st1:=st3) ?_ ?_)
   ·unfold EB
    simp [z_meth, B2.ins, bk_drop, e8a, hiu, subD_int, hn1]
   ·unfold EB
    simp [z_meth, B3.ins, bk_entries, en3, e8c, hiu, hn2]
  obtain ⟨st4, b4, i4, _, f4, B4, _⟩:=MK st3
  refine seq_go (ρ':=EB ns b4 (ents rows) s (some (pl o)) (some (.int (undC (ents rows) o))) (some (.bl u)) none) (st':=st4) ?_ ?_
  ·unfold Pzlaw_p9
   rw [z_sSet, f4 _ rfl]
   rfl
  obtain ⟨r5, hr5⟩ : ∃ r, rows[rows.length - 1]? = some r:=⟨_, List.getElem?_eq_getElem (by omega)⟩
  obtain ⟨st5, e10, B5, _⟩:=B4.go (k:=(rows.length : Int) - 1 - s) (j:=rows.length - 1) (by omega) hr5
  have le:=len_ents (ents rows) st4
  rw [ents_len] at le
  refine seq_go (ρ':=EB ns b4 (ents rows) s (some (pl o)) (some (.int (undC (ents rows) o))) (some (.bl u)) none) (st':=st5) ?_ ?_
  ·unfold Pzlaw_p10 EB
   generalize (ents rows).map pl = EE at *
   simp [le, subD_int, z_meth, B4.ins, bk_go, e10]
  obtain ⟨st6, e11, k6⟩:=p11_eq (cv:=cv) ns B5 hr9 s (some (pl o)) (some (.int (undC (ents rows) o))) (some (.bl u)) none
  refine seq_go e11 (seq_go (p12_eq ns (fun z => by rw [z] at hs; simp at hs) hr9 s _ _ _) (p13_eq ns hr9 s _ _ _))
 obtain ⟨st, e⟩:=hg
 exact ⟨st, by unfold Fzlaw; simp [e]⟩
end K62
end
section
set_option maxHeartbeats 2000000
namespace K62
open PySem L2 DL
theorem all_mk {l : PySem.W.OpenLaw} {w : World} {K : PySem.W.Frag} {h : Heap} {mg : Str → Option Value} {fa f0 f1 f2 f3 f4 f5 f6 f7 f8 f9 f10 f11 f12 f13 f14 f15 f16 f17 f18 f19 f20 f21 f22 f23 C_Book : Addr} (X : K.In h) (G : h.Ns mainGlobals mg) (hfa : mg "law" = some (.ref fa))
  {od0 an0 : Option Addr} {sl0 : Array (Option Value)} {oc0 kV0 dc0 pm0 cd0 ct0 : Value}
  {od1 an1 : Option Addr} {sl1 : Array (Option Value)} {oc1 kV1 dc1 pm1 cd1 ct1 : Value}
  {od2 an2 : Option Addr} {sl2 : Array (Option Value)} {oc2 kV2 dc2 pm2 cd2 ct2 : Value}
  {od3 an3 : Option Addr} {sl3 : Array (Option Value)} {oc3 kV3 dc3 pm3 cd3 ct3 : Value}
  {od4 an4 : Option Addr} {sl4 : Array (Option Value)} {oc4 kV4 dc4 pm4 cd4 ct4 : Value}
  {od5 an5 : Option Addr} {sl5 : Array (Option Value)} {oc5 kV5 dc5 pm5 cd5 ct5 : Value}
  {od6 an6 : Option Addr} {sl6 : Array (Option Value)} {oc6 kV6 dc6 pm6 cd6 ct6 : Value}
  {od7 an7 : Option Addr} {sl7 : Array (Option Value)} {oc7 kV7 dc7 pm7 cd7 ct7 : Value}
  {od8 an8 : Option Addr} {sl8 : Array (Option Value)} {oc8 kV8 dc8 pm8 cd8 ct8 : Value}
  {od9 an9 : Option Addr} {sl9 : Array (Option Value)} {oc9 kV9 dc9 pm9 cd9 ct9 : Value}
  {od10 an10 : Option Addr} {sl10 : Array (Option Value)} {oc10 kV10 dc10 pm10 cd10 ct10 : Value}
  {od11 an11 : Option Addr} {sl11 : Array (Option Value)} {oc11 kV11 dc11 pm11 cd11 ct11 : Value}
  {od12 an12 : Option Addr} {sl12 : Array (Option Value)} {oc12 kV12 dc12 pm12 cd12 ct12 : Value}
  {od13 an13 : Option Addr} {sl13 : Array (Option Value)} {oc13 kV13 dc13 pm13 cd13 ct13 : Value}
  {od14 an14 : Option Addr} {sl14 : Array (Option Value)} {oc14 kV14 dc14 pm14 cd14 ct14 : Value}
  {od15 an15 : Option Addr} {sl15 : Array (Option Value)} {oc15 kV15 dc15 pm15 cd15 ct15 : Value}
  {od16 an16 : Option Addr} {sl16 : Array (Option Value)} {oc16 kV16 dc16 pm16 cd16 ct16 : Value}
  {od17 an17 : Option Addr} {sl17 : Array (Option Value)} {oc17 kV17 dc17 pm17 cd17 ct17 : Value}
  {od18 an18 : Option Addr} {sl18 : Array (Option Value)} {oc18 kV18 dc18 pm18 cd18 ct18 : Value}
  {od19 an19 : Option Addr} {sl19 : Array (Option Value)} {oc19 kV19 dc19 pm19 cd19 ct19 : Value}
  {od20 an20 : Option Addr} {sl20 : Array (Option Value)} {oc20 kV20 dc20 pm20 cd20 ct20 : Value}
  {od21 an21 : Option Addr} {sl21 : Array (Option Value)} {oc21 kV21 dc21 pm21 cd21 ct21 : Value}
  {od22 an22 : Option Addr} {sl22 : Array (Option Value)} {oc22 kV22 dc22 pm22 cd22 ct22 : Value}
  {od23 an23 : Option Addr} {sl23 : Array (Option Value)} {oc23 kV23 dc23 pm23 cd23 ct23 : Value}
  (a_Book : PySem.W.nsIn K mainGlobals "Book" = some (some (.ref C_Book)))
  (a0 : PySem.W.nsIn K mainGlobals "_law_cell" = some (some (.ref f0))) (l0 : K.lookup f0 = some ⟨oc0, od0, .func (PySem.W.fnOf "_law_cell" "_law_cell" (defArgs sz_law_cell) (defBody sz_law_cell) (defScope sz_law_cell) .none kV0 dc0 pm0 an0 cd0 ct0), sl0⟩) (c0 : PySem.W.codeIn K cd0 "_law_cell" = true) (k0 : PySem.W.keepIn K (.ref f0) = true)
  (a1 : PySem.W.nsIn K mainGlobals "_law_drawn" = some (some (.ref f1))) (l1 : K.lookup f1 = some ⟨oc1, od1, .func (PySem.W.fnOf "_law_drawn" "_law_drawn" (defArgs sz_law_drawn) (defBody sz_law_drawn) (defScope sz_law_drawn) .none kV1 dc1 pm1 an1 cd1 ct1), sl1⟩) (c1 : PySem.W.codeIn K cd1 "_law_drawn" = true) (k1 : PySem.W.keepIn K (.ref f1) = true)
  (a2 : PySem.W.nsIn K mainGlobals "_law_place" = some (some (.ref f2))) (l2 : K.lookup f2 = some ⟨oc2, od2, .func (PySem.W.fnOf "_law_place" "_law_place" (defArgs sz_law_place) (defBody sz_law_place) (defScope sz_law_place) .none kV2 dc2 pm2 an2 cd2 ct2), sl2⟩) (c2 : PySem.W.codeIn K cd2 "_law_place" = true) (k2 : PySem.W.keepIn K (.ref f2) = true)
  (a3 : PySem.W.findIn K (.ref C_Book) "__init__" = some (some (.ref f3))) (i3 : PySem.W.isFn K (.ref f3) = true) (l3 : K.lookup f3 = some ⟨oc3, od3, .func (PySem.W.fnOf "__init__" "Book.__init__" (defArgs szBook___init__) (defBody szBook___init__) (defScope szBook___init__) .none kV3 dc3 pm3 an3 cd3 ct3), sl3⟩) (c3 : PySem.W.codeIn K cd3 "Book.__init__" = true) (k3 : PySem.W.keepIn K (.ref f3) = true)
  (a4 : PySem.W.findIn K (.ref C_Book) "visit" = some (some (.ref f4))) (i4 : PySem.W.isFn K (.ref f4) = true) (l4 : K.lookup f4 = some ⟨oc4, od4, .func (PySem.W.fnOf "visit" "Book.visit" (defArgs szBook_visit) (defBody szBook_visit) (defScope szBook_visit) .none kV4 dc4 pm4 an4 cd4 ct4), sl4⟩) (c4 : PySem.W.codeIn K cd4 "Book.visit" = true) (k4 : PySem.W.keepIn K (.ref f4) = true)
  (a5 : PySem.W.findIn K (.ref C_Book) "now" = some (some (.ref f5))) (i5 : PySem.W.isFn K (.ref f5) = true) (l5 : K.lookup f5 = some ⟨oc5, od5, .func (PySem.W.fnOf "now" "Book.now" (defArgs szBook_now) (defBody szBook_now) (defScope szBook_now) .none kV5 dc5 pm5 an5 cd5 ct5), sl5⟩) (c5 : PySem.W.codeIn K cd5 "Book.now" = true) (k5 : PySem.W.keepIn K (.ref f5) = true)
  (a6 : PySem.W.findIn K (.ref C_Book) "mark" = some (some (.ref f6))) (i6 : PySem.W.isFn K (.ref f6) = true) (l6 : K.lookup f6 = some ⟨oc6, od6, .func (PySem.W.fnOf "mark" "Book.mark" (defArgs szBook_mark) (defBody szBook_mark) (defScope szBook_mark) .none kV6 dc6 pm6 an6 cd6 ct6), sl6⟩) (c6 : PySem.W.codeIn K cd6 "Book.mark" = true) (k6 : PySem.W.keepIn K (.ref f6) = true)
  (a7 : PySem.W.findIn K (.ref C_Book) "number" = some (some (.ref f7))) (i7 : PySem.W.isFn K (.ref f7) = true) (l7 : K.lookup f7 = some ⟨oc7, od7, .func (PySem.W.fnOf "number" "Book.number" (defArgs szBook_number) (defBody szBook_number) (defScope szBook_number) .none kV7 dc7 pm7 an7 cd7 ct7), sl7⟩) (c7 : PySem.W.codeIn K cd7 "Book.number" = true) (k7 : PySem.W.keepIn K (.ref f7) = true)
  (a8 : PySem.W.findIn K (.ref C_Book) "can_go" = some (some (.ref f8))) (i8 : PySem.W.isFn K (.ref f8) = true) (l8 : K.lookup f8 = some ⟨oc8, od8, .func (PySem.W.fnOf "can_go" "Book.can_go" (defArgs szBook_can_go) (defBody szBook_can_go) (defScope szBook_can_go) .none kV8 dc8 pm8 an8 cd8 ct8), sl8⟩) (c8 : PySem.W.codeIn K cd8 "Book.can_go" = true) (k8 : PySem.W.keepIn K (.ref f8) = true)
  (a9 : PySem.W.findIn K (.ref C_Book) "place_at" = some (some (.ref f9))) (i9 : PySem.W.isFn K (.ref f9) = true) (l9 : K.lookup f9 = some ⟨oc9, od9, .func (PySem.W.fnOf "place_at" "Book.place_at" (defArgs szBook_place_at) (defBody szBook_place_at) (defScope szBook_place_at) .none kV9 dc9 pm9 an9 cd9 ct9), sl9⟩) (c9 : PySem.W.codeIn K cd9 "Book.place_at" = true) (k9 : PySem.W.keepIn K (.ref f9) = true)
  (a10 : PySem.W.findIn K (.ref C_Book) "go" = some (some (.ref f10))) (i10 : PySem.W.isFn K (.ref f10) = true) (l10 : K.lookup f10 = some ⟨oc10, od10, .func (PySem.W.fnOf "go" "Book.go" (defArgs szBook_go) (defBody szBook_go) (defScope szBook_go) .none kV10 dc10 pm10 an10 cd10 ct10), sl10⟩) (c10 : PySem.W.codeIn K cd10 "Book.go" = true) (k10 : PySem.W.keepIn K (.ref f10) = true)
  (a11 : PySem.W.nsIn K mainGlobals "_law_filled" = some (some (.ref f11))) (l11 : K.lookup f11 = some ⟨oc11, od11, .func (PySem.W.fnOf "_law_filled" "_law_filled" (defArgs sz_law_filled) (defBody sz_law_filled) (defScope sz_law_filled) .none kV11 dc11 pm11 an11 cd11 ct11), sl11⟩) (c11 : PySem.W.codeIn K cd11 "_law_filled" = true) (k11 : PySem.W.keepIn K (.ref f11) = true)
  (a12 : PySem.W.findIn K (.ref C_Book) "entries" = some (some (.ref f12))) (i12 : PySem.W.isFn K (.ref f12) = true) (l12 : K.lookup f12 = some ⟨oc12, od12, .func (PySem.W.fnOf "entries" "Book.entries" (defArgs szBook_entries) (defBody szBook_entries) (defScope szBook_entries) .none kV12 dc12 pm12 an12 cd12 ct12), sl12⟩) (c12 : PySem.W.codeIn K cd12 "Book.entries" = true) (k12 : PySem.W.keepIn K (.ref f12) = true)
  (a13 : PySem.W.nsIn K mainGlobals "trail" = some (some (.ref f13))) (l13 : K.lookup f13 = some ⟨oc13, od13, .func (PySem.W.fnOf "trail" "trail" (defArgs sztrail) (defBody sztrail) (defScope sztrail) .none kV13 dc13 pm13 an13 cd13 ct13), sl13⟩) (c13 : PySem.W.codeIn K cd13 "trail" = true) (k13 : PySem.W.keepIn K (.ref f13) = true)
  (a14 : PySem.W.nsIn K mainGlobals "counts" = some (some (.ref f14))) (l14 : K.lookup f14 = some ⟨oc14, od14, .func (PySem.W.fnOf "counts" "counts" (defArgs szcounts) (defBody szcounts) (defScope szcounts) .none kV14 dc14 pm14 an14 cd14 ct14), sl14⟩) (c14 : PySem.W.codeIn K cd14 "counts" = true) (k14 : PySem.W.keepIn K (.ref f14) = true)
  (a15 : PySem.W.nsIn K mainGlobals "is_under" = some (some (.ref f15))) (l15 : K.lookup f15 = some ⟨oc15, od15, .func (PySem.W.fnOf "is_under" "is_under" (defArgs szis_under) (defBody szis_under) (defScope szis_under) .none kV15 dc15 pm15 an15 cd15 ct15), sl15⟩) (c15 : PySem.W.codeIn K cd15 "is_under" = true) (k15 : PySem.W.keepIn K (.ref f15) = true)
  (a16 : PySem.W.nsIn K mainGlobals "under" = some (some (.ref f16))) (l16 : K.lookup f16 = some ⟨oc16, od16, .func (PySem.W.fnOf "under" "under" (defArgs szunder) (defBody szunder) (defScope szunder) .none kV16 dc16 pm16 an16 cd16 ct16), sl16⟩) (c16 : PySem.W.codeIn K cd16 "under" = true) (k16 : PySem.W.keepIn K (.ref f16) = true)
  (a17 : PySem.W.findIn K (.ref C_Book) "keep_only" = some (some (.ref f17))) (i17 : PySem.W.isFn K (.ref f17) = true) (l17 : K.lookup f17 = some ⟨oc17, od17, .func (PySem.W.fnOf "keep_only" "Book.keep_only" (defArgs szBook_keep_only) (defBody szBook_keep_only) (defScope szBook_keep_only) .none kV17 dc17 pm17 an17 cd17 ct17), sl17⟩) (c17 : PySem.W.codeIn K cd17 "Book.keep_only" = true) (k17 : PySem.W.keepIn K (.ref f17) = true)
  (a18 : PySem.W.findIn K (.ref C_Book) "drop" = some (some (.ref f18))) (i18 : PySem.W.isFn K (.ref f18) = true) (l18 : K.lookup f18 = some ⟨oc18, od18, .func (PySem.W.fnOf "drop" "Book.drop" (defArgs szBook_drop) (defBody szBook_drop) (defScope szBook_drop) .none kV18 dc18 pm18 an18 cd18 ct18), sl18⟩) (c18 : PySem.W.codeIn K cd18 "Book.drop" = true) (k18 : PySem.W.keepIn K (.ref f18) = true)
  (a19 : PySem.W.nsIn K mainGlobals "last_first" = some (some (.ref f19))) (l19 : K.lookup f19 = some ⟨oc19, od19, .func (PySem.W.fnOf "last_first" "last_first" (defArgs szlast_first) (defBody szlast_first) (defScope szlast_first) .none kV19 dc19 pm19 an19 cd19 ct19), sl19⟩) (c19 : PySem.W.codeIn K cd19 "last_first" = true) (k19 : PySem.W.keepIn K (.ref f19) = true)
  (a20 : PySem.W.nsIn K mainGlobals "at_most" = some (some (.ref f20))) (l20 : K.lookup f20 = some ⟨oc20, od20, .func (PySem.W.fnOf "at_most" "at_most" (defArgs szat_most) (defBody szat_most) (defScope szat_most) .none kV20 dc20 pm20 an20 cd20 ct20), sl20⟩) (c20 : PySem.W.codeIn K cd20 "at_most" = true) (k20 : PySem.W.keepIn K (.ref f20) = true)
  (a21 : PySem.W.nsIn K mainGlobals "recent" = some (some (.ref f21))) (l21 : K.lookup f21 = some ⟨oc21, od21, .func (PySem.W.fnOf "recent" "recent" (defArgs szrecent) (defBody szrecent) (defScope szrecent) .none kV21 dc21 pm21 an21 cd21 ct21), sl21⟩) (c21 : PySem.W.codeIn K cd21 "recent" = true) (k21 : PySem.W.keepIn K (.ref f21) = true)
  (a22 : PySem.W.findIn K (.ref C_Book) "nearest" = some (some (.ref f22))) (i22 : PySem.W.isFn K (.ref f22) = true) (l22 : K.lookup f22 = some ⟨oc22, od22, .func (PySem.W.fnOf "nearest" "Book.nearest" (defArgs szBook_nearest) (defBody szBook_nearest) (defScope szBook_nearest) .none kV22 dc22 pm22 an22 cd22 ct22), sl22⟩) (c22 : PySem.W.codeIn K cd22 "Book.nearest" = true) (k22 : PySem.W.keepIn K (.ref f22) = true)
  (a23 : PySem.W.nsIn K mainGlobals "law" = some (some (.ref f23))) (l23 : K.lookup f23 = some ⟨oc23, od23, .func (PySem.W.fnOf "law" "law" (defArgs szlaw) (defBody szlaw) (defScope szlaw) .none kV23 dc23 pm23 an23 cd23 ct23), sl23⟩) (c23 : PySem.W.codeIn K cd23 "law" = true) (k23 : PySem.W.keepIn K (.ref f23) = true)
  (pg_Book : PySem.W.plainGet K C_Book Str.empty = true) (hd_Book : PySem.W.hasDictIn K C_Book = true) (po_Book : PySem.W.plainOver K C_Book = true) (sa_Book : PySem.W.findIn K (.ref C_Book) "__setattr__" = some (some (.builtin "object.__setattr__")))
  (mk_Book : PySem.W.makesIn K C_Book = true) (kc_Book : PySem.W.keepIn K (.ref C_Book) = true)
  (na_Book_most : PySem.W.findIn K (.ref C_Book) "most" = some none)
  (na_Book_rows : PySem.W.findIn K (.ref C_Book) "rows" = some none)
  (na_Book_spot : PySem.W.findIn K (.ref C_Book) "spot" = some none)
  (z_abs : PySem.W.nsIn K mainGlobals "abs" = some none)    (z_enumerate : PySem.W.nsIn K mainGlobals "enumerate" = some none)    (z_int : PySem.W.nsIn K mainGlobals "int" = some none)    (z_len : PySem.W.nsIn K mainGlobals "len" = some none)    (z_list : PySem.W.nsIn K mainGlobals "list" = some none)    (z_max : PySem.W.nsIn K mainGlobals "max" = some none)    (z_min : PySem.W.nsIn K mainGlobals "min" = some none)    (z_range : PySem.W.nsIn K mainGlobals "range" = some none)    (z_reversed : PySem.W.nsIn K mainGlobals "reversed" = some none)    (z_set : PySem.W.nsIn K mainGlobals "set" = some none)    (z_sorted : PySem.W.nsIn K mainGlobals "sorted" = some none)    (z_tuple : PySem.W.nsIn K mainGlobals "tuple" = some none)    {t_NO_MARK : Tok} (v_NO_MARK : PySem.W.nsIn K mainGlobals "NO_MARK" = some (some (.int 0 t_NO_MARK))) :
  ∃ fd : FuncData, (∀ (s : Shared) (v : Value), BindsTo s fd ⟨[v], []⟩ [("_law_script", v)]) ∧ ∀ base : Heap, K.In base → base.Ns mainGlobals mg → FnOk l.prog w K mg base CX0 5 fa fd ["_law_script"] (spA K Fzlaw) := by
 have e:=hfa.symm.trans (PySem.W.mg_of X G a23)
 cases e
 obtain ⟨cv, rfl⟩ : ∃ cv : Nat → Addr, cv 0 = C_Book:=⟨fun n => match n with | 0 => C_Book | _ => 0, rfl⟩
 have b_abs:=PySem.W.mg_none_of X G z_abs
 have b_enumerate:=PySem.W.mg_none_of X G z_enumerate
 have b_int:=PySem.W.mg_none_of X G z_int
 have b_len:=PySem.W.mg_none_of X G z_len
 have b_list:=PySem.W.mg_none_of X G z_list
 have b_max:=PySem.W.mg_none_of X G z_max
 have b_min:=PySem.W.mg_none_of X G z_min
 have b_range:=PySem.W.mg_none_of X G z_range
 have b_reversed:=PySem.W.mg_none_of X G z_reversed
 have b_set:=PySem.W.mg_none_of X G z_set
 have b_sorted:=PySem.W.mg_none_of X G z_sorted
 have b_tuple:=PySem.W.mg_none_of X G z_tuple
 have c_NO_MARK:=PySem.W.mg_of X G v_NO_MARK
 have cl_Book : Cls K (cv 0):=⟨pg_Book, hd_Book, po_Book, sa_Book⟩
 have m_Book:=PySem.W.mg_of X G a_Book
 have na_Book_most : NoAttr K (cv 0) "most" := na_Book_most
 have na_Book_rows : NoAttr K (cv 0) "rows" := na_Book_rows
 have na_Book_spot : NoAttr K (cv 0) "spot" := na_Book_spot
 have F0:=fun_mk (st:=sz_law_cell) l0 c0 k0
 have b0 := F0.binds (ps := ["_law_script", "_law_k"]) fun _ _ _ _ _ _ => by refine us2 ?_; intros; rfl
 have m0:=PySem.W.mg_of X G a0
 have F1:=fun_mk (st:=sz_law_drawn) l1 c1 k1
 have b1 := F1.binds (ps := ["_law_script", "_law_k", "_law_many"]) fun _ _ _ _ _ _ => by refine us3 ?_; intros; rfl
 have m1:=PySem.W.mg_of X G a1
 have F2:=fun_mk (st:=sz_law_place) l2 c2 k2
 have b2 := F2.binds (ps := ["_law_script", "_law_at"]) fun _ _ _ _ _ _ => by refine us2 ?_; intros; rfl
 have m2:=PySem.W.mg_of X G a2
 have F3:=fun_mk (st:=szBook___init__) l3 c3 k3
 have b3 := F3.binds (ps := ["self", "place", "most"]) fun _ _ _ _ _ _ => by refine us3 ?_; intros; rfl
 have F4:=fun_mk (st:=szBook_visit) l4 c4 k4
 have b4 := F4.binds (ps := ["self", "place"]) fun _ _ _ _ _ _ => by refine us2 ?_; intros; rfl
 have F5:=fun_mk (st:=szBook_now) l5 c5 k5
 have b5 := F5.binds (ps := ["self"]) fun _ _ _ _ _ _ => by refine us1 ?_; intros; rfl
 have F6:=fun_mk (st:=szBook_mark) l6 c6 k6
 have b6 := F6.binds (ps := ["self", "number"]) fun _ _ _ _ _ _ => by refine us2 ?_; intros; rfl
 have F7:=fun_mk (st:=szBook_number) l7 c7 k7
 have b7 := F7.binds (ps := ["self"]) fun _ _ _ _ _ _ => by refine us1 ?_; intros; rfl
 have F8:=fun_mk (st:=szBook_can_go) l8 c8 k8
 have b8 := F8.binds (ps := ["self", "by"]) fun _ _ _ _ _ _ => by refine us2 ?_; intros; rfl
 have F9:=fun_mk (st:=szBook_place_at) l9 c9 k9
 have b9 := F9.binds (ps := ["self", "by"]) fun _ _ _ _ _ _ => by refine us2 ?_; intros; rfl
 have F10:=fun_mk (st:=szBook_go) l10 c10 k10
 have b10 := F10.binds (ps := ["self", "by"]) fun _ _ _ _ _ _ => by refine us2 ?_; intros; rfl
 have F11:=fun_mk (st:=sz_law_filled) l11 c11 k11
 have b11 := F11.binds (ps := ["_law_script", "_law_at", "_law_book"]) fun _ _ _ _ _ _ => by refine us3 ?_; intros; rfl
 have m11:=PySem.W.mg_of X G a11
 have F12:=fun_mk (st:=szBook_entries) l12 c12 k12
 have b12 := F12.binds (ps := ["self"]) fun _ _ _ _ _ _ => by refine us1 ?_; intros; rfl
 have F13:=fun_mk (st:=sztrail) l13 c13 k13
 have b13 := F13.binds (ps := ["places"]) fun _ _ _ _ _ _ => by refine us1 ?_; intros; rfl
 have m13:=PySem.W.mg_of X G a13
 have F14:=fun_mk (st:=szcounts) l14 c14 k14
 have b14 := F14.binds (ps := ["places"]) fun _ _ _ _ _ _ => by refine us1 ?_; intros; rfl
 have m14:=PySem.W.mg_of X G a14
 have F15:=fun_mk (st:=szis_under) l15 c15 k15
 have b15 := F15.binds (ps := ["place", "other"]) fun _ _ _ _ _ _ => by refine us2 ?_; intros; rfl
 have m15:=PySem.W.mg_of X G a15
 have F16:=fun_mk (st:=szunder) l16 c16 k16
 have b16 := F16.binds (ps := ["places", "other"]) fun _ _ _ _ _ _ => by refine us2 ?_; intros; rfl
 have m16:=PySem.W.mg_of X G a16
 have F17:=fun_mk (st:=szBook_keep_only) l17 c17 k17
 have b17 := F17.binds (ps := ["self", "spots"]) fun _ _ _ _ _ _ => by refine us2 ?_; intros; rfl
 have F18:=fun_mk (st:=szBook_drop) l18 c18 k18
 have b18 := F18.binds (ps := ["self", "other"]) fun _ _ _ _ _ _ => by refine us2 ?_; intros; rfl
 have F19:=fun_mk (st:=szlast_first) l19 c19 k19
 have b19 := F19.binds (ps := ["places"]) fun _ _ _ _ _ _ => by refine us1 ?_; intros; rfl
 have m19:=PySem.W.mg_of X G a19
 have F20:=fun_mk (st:=szat_most) l20 c20 k20
 have b20 := F20.binds (ps := ["places", "most"]) fun _ _ _ _ _ _ => by refine us2 ?_; intros; rfl
 have m20:=PySem.W.mg_of X G a20
 have F21:=fun_mk (st:=szrecent) l21 c21 k21
 have b21 := F21.binds (ps := ["places", "most"]) fun _ _ _ _ _ _ => by refine us2 ?_; intros; rfl
 have m21:=PySem.W.mg_of X G a21
 have F22:=fun_mk (st:=szBook_nearest) l22 c22 k22
 have b22 := F22.binds (ps := ["self", "place"]) fun _ _ _ _ _ _ => by refine us2 ?_; intros; rfl
 have F23:=fun_mk (st:=szlaw) l23 c23 k23
 have b23 := F23.binds (ps := ["_law_script"]) fun _ _ _ _ _ _ => by refine us1 ?_; intros; rfl
 have m23:=PySem.W.mg_of X G a23
 refine ⟨PySem.W.fnOf "law" "law" (defArgs szlaw) (defBody szlaw) (defScope szlaw) .none kV23 dc23 pm23 an23 cd23 ct23, fun s v => .of_eq rfl, fun base _ _ => ?_⟩
 have h0 : FnAt l.prog w K mg base "_law_cell" 1 Fz_law_cell := okz_law_cell F0 m0 b0 b_len
 have h1 : FnAt l.prog w K mg base "_law_drawn" 2 Fz_law_drawn := okz_law_drawn F1 m1 b1    h0
 have h2 : FnAt l.prog w K mg base "_law_place" 3 Fz_law_place := okz_law_place F2 m2 b2 b_range b_tuple   h1
 have h3 : MkAt l.prog w K mg base "Book" (cv 0) 1 (FzBook___init__ cv) := okzBook___init__ F3 ⟨mk_Book, a3, i3, kc_Book⟩ b3 m_Book  c_NO_MARK cl_Book na_Book_most na_Book_rows na_Book_spot
 have h4 : MtAt l.prog w K mg base (cv 0) "visit" 1 (FzBook_visit cv) := okzBook_visit F4 ⟨a4, i4, k4⟩ b4 b_len c_NO_MARK cl_Book na_Book_most na_Book_rows na_Book_spot
 have h5 : MtAt l.prog w K mg base (cv 0) "now" 1 (FzBook_now cv) := okzBook_now F5 ⟨a5, i5, k5⟩ b5   cl_Book na_Book_rows na_Book_spot
 have h6 : MtAt l.prog w K mg base (cv 0) "mark" 2 (FzBook_mark cv) := okzBook_mark F6 ⟨a6, i6, k6⟩ b6   cl_Book na_Book_rows na_Book_spot h5
 have h7 : MtAt l.prog w K mg base (cv 0) "number" 1 (FzBook_number cv) := okzBook_number F7 ⟨a7, i7, k7⟩ b7   cl_Book na_Book_spot
 have h8 : MtAt l.prog w K mg base (cv 0) "can_go" 1 (FzBook_can_go cv) := okzBook_can_go F8 ⟨a8, i8, k8⟩ b8 b_len  cl_Book na_Book_rows na_Book_spot
 have h9 : MtAt l.prog w K mg base (cv 0) "place_at" 2 (FzBook_place_at cv) := okzBook_place_at F9 ⟨a9, i9, k9⟩ b9   cl_Book na_Book_rows na_Book_spot h8
 have h10 : MtAt l.prog w K mg base (cv 0) "go" 3 (FzBook_go cv) := okzBook_go F10 ⟨a10, i10, k10⟩ b10   cl_Book na_Book_spot h9
 have h11 : FnAt l.prog w K mg base "_law_filled" 4 (Fz_law_filled cv) := okz_law_filled F11 m11 b11 b_range  cl_Book h10 h6 h7 h4 h1 h2
 have h12 : MtAt l.prog w K mg base (cv 0) "entries" 1 (FzBook_entries cv) := okzBook_entries F12 ⟨a12, i12, k12⟩ b12   cl_Book na_Book_rows
 have h13 : FnAt l.prog w K mg base "trail" 1 Fztrail := okztrail F13 m13 b13
 have h14 : FnAt l.prog w K mg base "counts" 1 Fzcounts := okzcounts F14 m14 b14
 have h15 : FnAt l.prog w K mg base "is_under" 1 Fzis_under := okzis_under F15 m15 b15 b_len
 have h16 : FnAt l.prog w K mg base "under" 2 Fzunder := okzunder F16 m16 b16 b_len   h15
 have h17 : MtAt l.prog w K mg base (cv 0) "keep_only" 1 (FzBook_keep_only cv) := okzBook_keep_only F17 ⟨a17, i17, k17⟩ b17 b_len  cl_Book na_Book_rows na_Book_spot
 have h18 : MtAt l.prog w K mg base (cv 0) "drop" 2 (FzBook_drop cv) := okzBook_drop F18 ⟨a18, i18, k18⟩ b18 b_enumerate  cl_Book na_Book_rows na_Book_spot h17 h15
 have h19 : FnAt l.prog w K mg base "last_first" 1 Fzlast_first := okzlast_first F19 m19 b19 b_list b_reversed
 have h20 : FnAt l.prog w K mg base "at_most" 1 Fzat_most := okzat_most F20 m20 b20 b_max
 have h21 : FnAt l.prog w K mg base "recent" 2 Fzrecent := okzrecent F21 m21 b21    h20 h19
 have h22 : MtAt l.prog w K mg base (cv 0) "nearest" 1 (FzBook_nearest cv) := okzBook_nearest F22 ⟨a22, i22, k22⟩ b22 b_abs b_enumerate b_min  cl_Book na_Book_rows na_Book_spot
 exact fnOk_spA (cv:=cv) (okzlaw F23 b_int b_len b_set b_sorted  cl_Book h3 h18 h12 h10 h22 h5 h7 h11 h2 h14 h21 h13 h16)
theorem walk {l : PySem.W.OpenLaw} {q : Program} {loose : List Str} {XP : (Str → Option Value) → Heap → Prop} {YP : World → Heap → Prop} {d : DefRec} {K : Params → PySem.W.Frag} (hn : l.most = some 63) (hdf : d.params.defaults = [])
  (hY : ∀ (w : World) (h : Heap), YP w h → (K w.params).In h)
  (F : ∀ (w : World) (mg : Str → Option Value) (fa : Addr) (h : Heap), (K w.params).In h → h.Ns mainGlobals mg → mg d.name = some (.ref fa) →
   ∃ fd : FuncData, (∀ (s : Shared) (u : Value), BindsTo s fd ⟨[u], []⟩ [("_law_script", u)]) ∧ ∀ base : Heap, (K w.params).In base → base.Ns mainGlobals mg → FnOk l.prog w (K w.params) mg base CX0 5 fa fd ["_law_script"] (spA (K w.params) Fzlaw)) :
  PySem.W.WalkO q loose XP YP l.row.toRowW d [] (fun f vs => PySem.call f vs) :=
 L2.walk_of (n := 63) (k := 5) (x := "_law_script") (CX := fun _ => CX0) (sp := fun w => spA (K w.params) Fzlaw) hn (by decide) hdf ⟨rfl, by decide, by decide⟩ hY F (fun _ H a ns hl ho hS cv => DL.law_sp (law_true cv) H a ns hl ho hS) fun _ _ _ _ _ z => z
end K62
noncomputable def PySem.W.Fast.tw6056707288978253535 : Nat:=0
noncomputable def PySem.W.Fast.tw16750735930470953898 : Nat:=0
noncomputable def PySem.W.Fast.tw9308888254943633313 : Nat:=0
noncomputable def PySem.W.Fast.tw17357851268252398515 : Nat:=0
noncomputable def PySem.W.Fast.tw861502493610598483 : Nat:=0
noncomputable def PySem.W.Fast.tw14678943786356421948 : Nat:=0
noncomputable def PySem.W.Fast.tw4778578598788473003 : Nat:=0
noncomputable def PySem.W.Fast.tw11766270337846329995 : Nat:=0
noncomputable def PySem.W.Fast.tw8411011911512066754 : Nat:=0
noncomputable def PySem.W.Fast.tw615563214671542189 : Nat:=0
noncomputable def PySem.W.Fast.tw7774113678449685934 : Nat:=0
noncomputable def PySem.W.Fast.tw11509211604773734946 : Nat:=0
noncomputable def PySem.W.Fast.tw8997383693586321770 : Nat:=0
noncomputable def PySem.W.Fast.tw8215439957894238634 : Nat:=0
open PySem PySem.W PyProof.Rows
set_option maxHeartbeats 0
open_top hd for PySem.Challenge.rw_cardplaces_k62_whole_books_and_visits
theorem PySem.Challenge.cw_cardplaces_k62_whole_books_and_visits_holds : PySem.Challenge.rw_cardplaces_k62_whole_books_and_visits.Holds := by
 refine hd ?_
 k_fill
 refine K62.walk (l:=PySem.Challenge.rw_cardplaces_k62_whole_books_and_visits) rfl rfl (fun w h Y => PySem.W.kIn_of Y) ?F
 case F =>
  intro w mg fa h KX G hmg
  refine' K62.all_mk KX G hmg ?a_Book ?a0 ?l0 ?c0 ?k0 ?a1 ?l1 ?c1 ?k1 ?a2 ?l2 ?c2 ?k2 ?a3 ?i3 ?l3 ?c3 ?k3 ?a4 ?i4 ?l4 ?c4 ?k4 ?a5 ?i5 ?l5 ?c5 ?k5 ?a6 ?i6 ?l6 ?c6 ?k6 ?a7 ?i7 ?l7 ?c7 ?k7 ?a8 ?i8 ?l8 ?c8 ?k8 ?a9 ?i9 ?l9 ?c9 ?k9 ?a10 ?i10 ?l10 ?c10 ?k10 ?a11 ?l11 ?c11 ?k11 ?a12 ?i12 ?l12 ?c12 ?k12 ?a13 ?l13 ?c13 ?k13 ?a14 ?l14 ?c14 ?k14 ?a15 ?l15 ?c15 ?k15 ?a16 ?l16 ?c16 ?k16 ?a17 ?i17 ?l17 ?c17 ?k17 ?a18 ?i18 ?l18 ?c18 ?k18 ?a19 ?l19 ?c19 ?k19 ?a20 ?l20 ?c20 ?k20 ?a21 ?l21 ?c21 ?k21 ?a22 ?i22 ?l22 ?c22 ?k22 ?a23 ?l23 ?c23 ?k23 ?pg_Book ?hd_Book ?po_Book ?sa_Book ?mk_Book ?kc_Book ?na_Book_most ?na_Book_rows ?na_Book_spot ?z_abs ?z_enumerate ?z_int ?z_len ?z_list ?z_max ?z_min ?z_range ?z_reversed ?z_set ?z_sorted ?z_tuple ?v_NO_MARK
  (case a_Book => k_is)
  (case a0 => k_is)
  (case l0 => k_is)
  (case c0 => k_is)
  (case k0 => k_is)
  (case a1 => k_is)
  (case l1 => k_is)
  (case c1 => k_is)
  (case k1 => k_is)
  (case a2 => k_is)
  (case l2 => k_is)
  (case c2 => k_is)
  (case k2 => k_is)
  (case a3 => k_is)
  (case i3 => k_is)
  (case l3 => k_is)
  (case c3 => k_is)
  (case k3 => k_is)
  (case a4 => k_is)
  (case i4 => k_is)
  (case l4 => k_is)
  (case c4 => k_is)
  (case k4 => k_is)
  (case a5 => k_is)
  (case i5 => k_is)
  (case l5 => k_is)
  (case c5 => k_is)
  (case k5 => k_is)
  (case a6 => k_is)
  (case i6 => k_is)
  (case l6 => k_is)
  (case c6 => k_is)
  (case k6 => k_is)
  (case a7 => k_is)
  (case i7 => k_is)
  (case l7 => k_is)
  (case c7 => k_is)
  (case k7 => k_is)
  (case a8 => k_is)
  (case i8 => k_is)
  (case l8 => k_is)
  (case c8 => k_is)
  (case k8 => k_is)
  (case a9 => k_is)
  (case i9 => k_is)
  (case l9 => k_is)
  (case c9 => k_is)
  (case k9 => k_is)
  (case a10 => k_is)
  (case i10 => k_is)
  (case l10 => k_is)
  (case c10 => k_is)
  (case k10 => k_is)
  (case a11 => k_is)
  (case l11 => k_is)
  (case c11 => k_is)
  (case k11 => k_is)
  (case a12 => k_is)
  (case i12 => k_is)
  (case l12 => k_is)
  (case c12 => k_is)
  (case k12 => k_is)
  (case a13 => k_is)
  (case l13 => k_is)
  (case c13 => k_is)
  (case k13 => k_is)
  (case a14 => k_is)
  (case l14 => k_is)
  (case c14 => k_is)
  (case k14 => k_is)
  (case a15 => k_is)
  (case l15 => k_is)
  (case c15 => k_is)
  (case k15 => k_is)
  (case a16 => k_is)
  (case l16 => k_is)
  (case c16 => k_is)
  (case k16 => k_is)
  (case a17 => k_is)
  (case i17 => k_is)
  (case l17 => k_is)
  (case c17 => k_is)
  (case k17 => k_is)
  (case a18 => k_is)
  (case i18 => k_is)
  (case l18 => k_is)
  (case c18 => k_is)
  (case k18 => k_is)
  (case a19 => k_is)
  (case l19 => k_is)
  (case c19 => k_is)
  (case k19 => k_is)
  (case a20 => k_is)
  (case l20 => k_is)
  (case c20 => k_is)
  (case k20 => k_is)
  (case a21 => k_is)
  (case l21 => k_is)
  (case c21 => k_is)
  (case k21 => k_is)
  (case a22 => k_is)
  (case i22 => k_is)
  (case l22 => k_is)
  (case c22 => k_is)
  (case k22 => k_is)
  (case a23 => k_is)
  (case l23 => k_is)
  (case c23 => k_is)
  (case k23 => k_is)
  (case pg_Book => k_is)
  (case hd_Book => k_is)
  (case po_Book => k_is)
  (case sa_Book => k_is)
  (case mk_Book => k_is)
  (case kc_Book => k_is)
  (case na_Book_most => k_is)
  (case na_Book_rows => k_is)
  (case na_Book_spot => k_is)
  (case z_abs => k_is)
  (case z_enumerate => k_is)
  (case z_int => k_is)
  (case z_len => k_is)
  (case z_list => k_is)
  (case z_max => k_is)
  (case z_min => k_is)
  (case z_range => k_is)
  (case z_reversed => k_is)
  (case z_set => k_is)
  (case z_sorted => k_is)
  (case z_tuple => k_is)
  (case v_NO_MARK => k_is)
end
