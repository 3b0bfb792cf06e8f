import PyProof.Rows.All
import Wide.All
import OpenK.AllK
import Wide.FinOn
import Lean
import PyProof.EqAt
import PyProof.EqKinds
import PyProof.TupleCall
import PyProof.NeKinds
import PyProof.CompFree
import PyProof.CompUse
import PyProof.ZipIter
import PyProof.StrWalks
import PyProof.ListRange
import PyProof.ListMulRoad
import KE.KMinBuiltin
import PyProof.Rows.CallKw2
import KE.KSortTup
import PyProof.StrCalls2
import PyProof.StrLawsChain
import PyProof.StrLawsTight
import PyProof.Rows.StrItems
import KE.KxAffix
import KE.KRevSl
import PyProof.Rows.SetFrom
import PyProof.FactsAll.set_1
import PyProof.FactsAll.set_2
import PyProof.CollectWalk
import PyProof.AttrMissHeap
import KE.KDictOf
import PyProof.Rows.TupMore
import KE.KRevIter
import PyProof.Cells
import PyProof.StrBlock
import PyProof.PureStr
import PyProof.CallStr
import PyProof.AutoIntOps
import PySem.Challenge.RW_cardplaces_k01_known
set_option Elab.async false
set_option linter.all false
set_option maxRecDepth 100000
namespace L2
open PySem PySem.Spec PyProof.Rows
noncomputable abbrev Key:=Sum Int Str
noncomputable def keyIs : Key → Value → Bool
 | .inl k, v => Value.isInt k v
 | .inr x, v => Value.isStrOf x v
noncomputable def keyH (w : World) : Key → Int
 | .inl k => hashInt k
 | .inr x => hashStr w x
theorem keyIs_shape : ∀ {k : Key} {v : Value}, keyIs k v = true → (∃ i t, k = Sum.inl i ∧ v = Value.int i t) ∨ (∃ x t, k = Sum.inr x ∧ v = Value.str x t)
 | .inl i, v, h => by
  obtain ⟨t, e⟩:=Value.isInt_shape (k:=i) (v:=v) h
  exact .inl ⟨i, t, rfl, e⟩
 | .inr x, v, h => by
  obtain ⟨t, e⟩:=Value.isStrOf_shape (x:=x) (v:=v) h
  exact .inr ⟨x, t, rfl, e⟩
theorem key_ll (a b : Int) : decide ((Sum.inl a : Key) = Sum.inl b) = (a == b):=by
 by_cases e : a = b
 ·subst e; simp
 ·have h : ¬ (Sum.inl a : Key) = Sum.inl b:=fun q => e (Sum.inl.inj q)
  rw [decide_eq_false h]
  exact (beq_eq_false_iff_ne.mpr e).symm
theorem key_rr (a b : Str) : decide ((Sum.inr a : Key) = Sum.inr b) = decide (a = b):=by
 by_cases e : a = b
 ·subst e; simp
 ·have h : ¬ (Sum.inr a : Key) = Sum.inr b:=fun q => e (Sum.inr.inj q)
  rw [decide_eq_false h, decide_eq_false e]
theorem key_lr (a : Int) (b : Str) : decide ((Sum.inl a : Key) = Sum.inr b) = false:=decide_eq_false (fun q => nomatch q)
theorem key_rl (a : Str) (b : Int) : decide ((Sum.inr a : Key) = Sum.inl b) = false:=decide_eq_false (fun q => nomatch q)
noncomputable def mixKind (prog : Program) (w : World) : PySem.KeyKind prog w Key where
 is:=keyIs
 hash:=keyH w
 inj:=fun v a b ha hb => by
  rcases keyIs_shape ha with ⟨i, t, rfl, rfl⟩ | ⟨x, t, rfl, rfl⟩
  ·rcases keyIs_shape hb with ⟨j, u, rfl, e⟩ | ⟨y, u, rfl, e⟩
   ·injection e with e1 _; rw [e1]
   ·exact nomatch e
  ·rcases keyIs_shape hb with ⟨j, u, rfl, e⟩ | ⟨y, u, rfl, e⟩
   ·exact nomatch e
   ·injection e with e1 _; rw [e1]
 byValue:=fun k v h => by
  rcases keyIs_shape h with ⟨i, t, rfl, rfl⟩ | ⟨x, t, rfl, rfl⟩ <;> rfl
 pyHash:=fun hv h => by
  rcases keyIs_shape hv with ⟨i, t, rfl, rfl⟩ | ⟨x, t, rfl, rfl⟩
  ·exact wpAny_pyHash_int h
  ·exact wpAny_pyHash_str h
 eqBool:=fun hu hv h => by
  rcases keyIs_shape hu with ⟨i, t, rfl, rfl⟩ | ⟨x, t, rfl, rfl⟩
  ·rcases keyIs_shape hv with ⟨j, u, rfl, rfl⟩ | ⟨y, u, rfl, rfl⟩
   ·rw [key_ll] at h; exact wpAny_eqBool_int h
   ·rw [key_lr] at h; exact SeqAt.EqAt.int_str i t y u _ _ _ _ h
  ·rcases keyIs_shape hv with ⟨j, u, rfl, rfl⟩ | ⟨y, u, rfl, rfl⟩
   ·rw [key_rl] at h; exact SeqAt.EqAt.str_int x t j u _ _ _ _ h
   ·rw [key_rr] at h; exact wpAny_eqBool_str h
 «strs»:=fun k x t v h => by
  rcases keyIs_shape h with ⟨i, u, rfl, e⟩ | ⟨y, u, rfl, e⟩
  ·exact nomatch e
  ·injection e with e1 _
   subst e1
   cases v <;> rfl
end L2
namespace L2
open PySem PySem.Spec PyProof.Rows
inductive V where
 | non | bl (b : Bool) | int (i : Int) | str (x : Str) | byt (b : Array UInt8) | flt (b : UInt64) | ref (a : Addr) | ty (n : String)
 deriving DecidableEq
noncomputable def RelV : V → Value → Prop
 | .non, u => u = Value.none
 | .bl b, u => u = Value.bool b
 | .int i, u => ∃ t, u = Value.int i t
 | .str x, u => ∃ t, u = Value.str x t
 | .byt b, u => ∃ t, u = Value.bytes b t
 | .flt b, u => ∃ t, u = Value.float b t
 | .ref a, u => u = Value.ref a
 | .ty n, u => u = Value.type n
noncomputable abbrev Vals : List V → List Value → Prop:=Paired RelV
theorem Vals.length {xs : List V} {us : List Value} (r : Vals xs us) : xs.length = us.length:=Paired.length r
theorem Vals.get : ∀ {xs : List V} {us : List Value} {i : Nat} {x : V}, Vals xs us → xs[i]? = some x → ∃ u, us[i]? = some u ∧ RelV x u
 | _, _, _, _, .nil, e => by simp at e
 | _, _, 0, _, .cons r _, e => by simp at e; subst e; exact ⟨_, rfl, r⟩
 | _, _, i + 1, x, .cons _ t, e => by
  obtain ⟨u, h1, h2⟩:=Vals.get (i:=i) (x:=x) t (by simpa using e)
  exact ⟨u, by simpa using h1, h2⟩
theorem Vals.append : ∀ {xs ys : List V} {us ws : List Value}, Vals xs us → Vals ys ws → Vals (xs ++ ys) (us ++ ws)
 | _, _, _, _, .nil, s => s
 | _, _, _, _, .cons r t, s => .cons r (Vals.append t s)
theorem Vals.take : ∀ {xs : List V} {us : List Value} (n : Nat), Vals xs us → Vals (xs.take n) (us.take n)
 | _, _, 0, _ => .nil
 | _, _, _ + 1, .nil => .nil
 | _, _, n + 1, .cons r t => .cons r (Vals.take n t)
theorem Vals.drop : ∀ {xs : List V} {us : List Value} (n : Nat), Vals xs us → Vals (xs.drop n) (us.drop n)
 | _, _, 0, r => r
 | _, _, _ + 1, .nil => .nil
 | _, _, n + 1, .cons _ t => Vals.drop n t
noncomputable def RelO : Option V → Option Value → Prop
 | some v, some u => RelV v u
 | none, none => True
 | _, _ => False
noncomputable def KV {κ : Type} : List (κ × V) → List (κ × Value) → Prop:=Paired fun (p : κ × V) (q : κ × Value) => p.1 = q.1 ∧ RelV p.2 q.2
noncomputable def kV : Key → V
 | .inl i => .int i
 | .inr x => .str x
inductive HO where
 /-- a list -/
 | lst (xs : List V)
 /-- a tuple (never changes) -/
 | tup (xs : List V)
 /-- a dict whose keys are ints and texts; one whose keys are tuples of ints and texts (the empty one is both) -/
 | dK (kvs : List (Key × V)) | dT (kvs : List (List Key × V))
 /-- a set of ints: its members, its size -/
 | set (S : Int → Bool) (n : Nat)
 /-- an instance of the class at C, its dict at dx, its attributes -/
 | ins (C dx : Addr) (fs : List (Str × V))
 /-- the dict of the instance at x -/
 | own (x : Addr)
 /-- the dict of an exception -/
 | xd (fs : List (Str × V))
 /-- a bound method, f of x -/
 | met (f x : Addr)
 /-- a range object lo, lo + 1, .. below hi -/
 | rng (lo hi : Int)
 /-- a thing that is known to the object (the script; a dict while a loop walks it): read, never written while it is so -/
 | frz (o : Obj) (u : HO)
 /-- a code object's table -/
 | tbl (ps : Array Value)
 /-- any other thing, by what is true of its one object (a def of one's own: SetO a S n:=HO.ext fun h => ..) -/
 | ext (φ : Heap → Prop)
noncomputable abbrev Hp:=Addr → Option HO
noncomputable def upd (H : Hp) (a : Addr) (o : HO) : Hp:=fun b => if b = a then some o else H b
theorem upd_same {H : Hp} {a : Addr} {o : HO} : upd H a o a = some o:=by unfold upd; rw [if_pos rfl]
theorem upd_ne {H : Hp} {a b : Addr} {o : HO} (h : b ≠ a) : upd H a o b = H b:=by unfold upd; rw [if_neg h]
theorem ne_of_none {H : Hp} {a b : Addr} {o : HO} (h : H a = some o) (h' : H b = none) : a ≠ b:=by
 intro e; subst e; rw [h] at h'; cases h'
section
variable (P : Program) (w : World)
noncomputable def ObjOk (H : Hp) (h : Heap) (a : Addr) : HO → Prop
 | .lst xs => xs.length ≤ sizeLine ∧ ∃ (its : List Value) (n : Nat), Vals xs its ∧ h.get? a = some { cls := .type "list", data := .seq its.toArray n }
 | .tup xs => xs.length ≤ sizeLine ∧ ∃ its : List Value, Vals xs its ∧ IsTup h a its.toArray ∧ ∀ o, h.get? a = some o → o.dict = none
 | .dK kvs => kvs.length ≤ sizeLine ∧ (a == sysModules) = false ∧ ∃ vs, KV kvs vs ∧ h.DictOf (mixKind P w) a vs
 | .dT kvs => kvs.length ≤ sizeLine ∧ (a == sysModules) = false ∧ ∃ xs : List (List Key × Addr × Value),
   Paired (fun (p : List Key × V) (q : List Key × Addr × Value) => p.1 = q.1 ∧ H q.2.1 = some (.tup (p.1.map kV)) ∧ RelV p.2 q.2.2) kvs xs ∧
   ∃ o es ep, h.get? a = some o ∧ o.ExactDict ∧ o.data = .dict es ep ∧ es.toList = xs.map (entryOfKey (tupleKind (mixKind P w))) ∧ (xs.map (·.1)).Nodup
 | .set S n => h.SetOf (intKind P w) a S n
 | .ins C dx fs => H dx = some (.own a) ∧ fs.length ≤ 1000 ∧ dx ≠ a ∧ h.get? a = some (PySem.W.instObj C dx) ∧
   ∃ mA, h.Ns1 dx mA ∧ (∀ f, RelO (fs.lookup f) (mA f)) ∧ PySem.Within mA (fs.map (·.1))
 | .own _ => ∃ o, h.get? a = some o
 | .xd fs => ∃ mA, h.Ns1 a mA ∧ ∀ f, RelO (fs.lookup f) (mA f)
 | .rng lo hi => ∃ t u v, h.get? a = some { cls := .type "range", data := .fields #[.int lo t, .int hi u, .int 1 v] }
 | .frz o u => h.get? a = some o ∧ ObjOk H h a u
 | .tbl ps => h.get? a = some { cls:=.none, data:=.fields ps }
 | .met f x => h.get? a = some (PySem.W.methodObj (.ref f) (.ref x))
 | .ext φ => φ h ∧ (∃ o, h.get? a = some o) ∧ ∀ h1 h2 : Heap, φ h1 → (∀ o, h1.get? a = some o → h2.get? a = some o) → φ h2
noncomputable def HOk (H : Hp) (h : Heap) : Prop:=∀ a o, H a = some o → ObjOk P w H h a o
end
section
variable {P : Program} {w : World} {H H' : Hp} {h h' : Heap} {a : Addr} {o : HO}
theorem ObjOk.lt (x : ObjOk P w H h a o) : a < h.objs.size:=by
 cases o with
 | lst xs => obtain ⟨_, _, _, _, e⟩:=x; exact Heap.lt_size e
 | tup xs => obtain ⟨_, _, _, p, _⟩:=x; exact p.lt
 | dK kvs => obtain ⟨_, _, _, _, o, _, _, e, _⟩:=x; exact Heap.lt_size e
 | dT kvs => obtain ⟨_, _, _, _, o, _, _, e, _⟩:=x; exact Heap.lt_size e
 | set S n => obtain ⟨o, _, _, _, e, _⟩:=x; exact Heap.lt_size e
 | ins C dx fs => obtain ⟨_, _, _, e, _⟩:=x; exact Heap.lt_size e
 | own y => obtain ⟨_, e⟩:=x; exact Heap.lt_size e
 | xd fs => obtain ⟨_, ⟨_, _, _, e, _⟩, _⟩:=x; exact Heap.lt_size e
 | rng lo hi => obtain ⟨_, _, _, e⟩:=x; exact Heap.lt_size e
 | frz ob u => obtain ⟨e, _⟩:=x; exact Heap.lt_size e
 | tbl ps => exact Heap.lt_size (show h.get? a = some _ from x)
 | met f y => exact Heap.lt_size (show h.get? a = some _ from x)
 | ext φ => obtain ⟨_, ⟨_, e⟩, _⟩:=x; exact Heap.lt_size e
theorem Paired.mapP {α β : Type} {F G : α → β → Prop} : ∀ {l₁ : List α} {l₂ : List β}, Paired F l₁ l₂ → (∀ a b, F a b → G a b) → Paired G l₁ l₂
 | _, _, .nil, _ => .nil
 | _, _, .cons r t, f => .cons (f _ _ r) (Paired.mapP t f)
theorem ObjOk.stay (x : ObjOk P w H h a o) (k : ∀ b u, (b = a ∨ H b = some (.own a)) → h.get? b = some u → h'.get? b = some u)
  (ho : ∀ b, H b = some (.own a) → H' b = some (.own a)) (ht : ∀ b xs, H b = some (.tup xs) → H' b = some (.tup xs)) : ObjOk P w H' h' a o:=by
 induction o with
 | lst xs => obtain ⟨z, its, n, r, e⟩:=x; exact ⟨z, its, n, r, k _ _ (.inl rfl) e⟩
 | tup xs => obtain ⟨z, its, r, ⟨ob, e, c⟩, dn⟩:=x; exact ⟨z, its, r, ⟨ob, k _ _ (.inl rfl) e, c⟩, fun o2 e2 => by rw [k _ _ (.inl rfl) e] at e2; cases e2; exact dn _ e⟩
 | dK kvs => obtain ⟨z, y, vs, r, ob, es, ep, e, c⟩:=x; exact ⟨z, y, vs, r, ob, es, ep, k _ _ (.inl rfl) e, c⟩
 | dT kvs =>
  obtain ⟨z, y, xs, r, ob, es, ep, e, c⟩:=x
  exact ⟨z, y, xs, Paired.mapP r fun p q z => ⟨z.1, ht _ _ z.2.1, z.2.2⟩, ob, es, ep, k _ _ (.inl rfl) e, c⟩
 | set S n => obtain ⟨ob, es, ep, t, e, c⟩:=x; exact ⟨ob, es, ep, t, k _ _ (.inl rfl) e, c⟩
 | ins C dx fs =>
  obtain ⟨d, z, ne, e, mA, ⟨od, es, ep, e2, c⟩, r⟩:=x
  exact ⟨ho _ d, z, ne, k _ _ (.inl rfl) e, mA, ⟨od, es, ep, k _ _ (.inr d) e2, c⟩, r⟩
 | own y => obtain ⟨ob, e⟩:=x; exact ⟨ob, k _ _ (.inl rfl) e⟩
 | xd fs => obtain ⟨mA, ⟨od, es, ep, e, c⟩, r⟩:=x; exact ⟨mA, ⟨od, es, ep, k _ _ (.inl rfl) e, c⟩, r⟩
 | rng lo hi => obtain ⟨t, u, v, e⟩:=x; exact ⟨t, u, v, k _ _ (.inl rfl) e⟩
 | frz ob u ih => obtain ⟨e, q⟩:=x; exact ⟨k _ _ (.inl rfl) e, ih q⟩
 | tbl ps =>
  have e : h.get? a = some { cls:=.none, data:=.fields ps }:=x
  show h'.get? a = some { cls:=.none, data:=.fields ps }
  exact k a _ (.inl rfl) e
 | met f y =>
  have e : h.get? a = some (PySem.W.methodObj (.ref f) (.ref y)):=x
  show h'.get? a = some (PySem.W.methodObj (.ref f) (.ref y))
  exact k a _ (.inl rfl) e
 | ext φ => obtain ⟨p, ⟨o, e⟩, st⟩:=x; exact ⟨st _ _ p fun o q => k _ _ (.inl rfl) q, ⟨o, k _ _ (.inl rfl) e⟩, st⟩
theorem HOk.lt (x : HOk P w H h) (e : H a = some o) : a < h.objs.size:=(x a o e).lt
theorem HOk.fresh (x : HOk P w H h) (e : h.objs.size ≤ a) : H a = none:=by
 cases q : H a with
 | none => rfl
 | some u => exact absurd (Nat.lt_of_lt_of_le (x.lt q) e) (Nat.lt_irrefl _)
theorem HOk.kept (x : HOk P w H h) (k : ∀ b u, h.get? b = some u → h'.get? b = some u) : HOk P w H h':=fun a o e =>
 (x a o e).stay (fun b u _ q => k b u q) (fun _ q => q) fun _ _ q => q
theorem HOk.laid (x : HOk P w H h) (k : ∀ b u, h.get? b = some u → h'.get? b = some u) (hp : h.objs.size ≤ a) (new : ObjOk P w (upd H a o) h' a o) : HOk P w (upd H a o) h':=fun b u e => by
 have hn:=x.fresh hp
 by_cases hb : b = a
 ·subst hb; rw [upd_same] at e; cases e; exact new
 ·rw [upd_ne hb] at e
  exact (x b u e).stay (fun c v _ q => k c v q) (fun c q => by rw [upd_ne (ne_of_none q hn)]; exact q) fun c xs q => by rw [upd_ne (ne_of_none q hn)]; exact q
end
noncomputable def Rd (H : Hp) (a : Addr) (u : HO) : Prop:=H a = some u ∨ ∃ o, H a = some (.frz o u)
theorem Rd.ok {P : Program} {w : World} {H : Hp} {h : Heap} {a : Addr} {u : HO} (r : Rd H a u) (x : HOk P w H h) : ObjOk P w H h a u:=by
 rcases r with r | ⟨o, r⟩
 ·exact x a u r
 ·obtain ⟨_, q⟩:=x a _ r
  exact q
noncomputable def Mut : Option HO → Prop
 | some (.lst _) => True
 | some (.dK _) => True
 | some (.dT _) => True
 | some (.set _ _) => True
 | some (.ins _ _ _) => True
 | some (.ext _) => True
 | _ => False
section
variable {P : Program} {w : World} {H : Hp} {h h' : Heap} {x e : Addr} {o' : HO}
theorem HOk.write (ok : HOk P w H h) (mu : Mut (H x)) (he : e = x ∨ H e = some (.own x)) (k : ∀ b u, b ≠ e → h.get? b = some u → h'.get? b = some u) (heo : ∃ u, h'.get? e = some u)
  (new : ObjOk P w (upd H x o') h' x o') : HOk P w (upd H x o') h':=fun b u q => by
 have nown : ∀ c y, H c = some (.own y) → c ≠ x:=fun c y r z => by subst z; rw [r] at mu; exact mu
 have ntup : ∀ c xs, H c = some (.tup xs) → c ≠ x:=fun c xs r z => by subst z; rw [r] at mu; exact mu
 by_cases hb : b = x
 ·subst hb; rw [upd_same] at q; cases q; exact new
 ·rw [upd_ne hb] at q
  by_cases hbe : b = e
  ·have q' : H b = some (.own x):=by
    rcases he with z | z
    ·exact absurd (hbe.trans z) hb
    ·rw [hbe]; exact z
   rw [q] at q'; cases q'
   obtain ⟨v, hv⟩:=heo
   exact ⟨v, by rw [hbe]; exact hv⟩
  ·refine (ok b u q).stay (fun c v hc r => k c v ?_ r) (fun c r => by rw [upd_ne (nown c b r)]; exact r) fun c xs r => by rw [upd_ne (ntup c xs r)]; exact r
   rcases hc with rfl | hc
   ·exact hbe
   ·rintro rfl
    rcases he with z | z
    ·exact nown c b hc z
    ·rw [hc] at z; cases z; exact hb rfl
end
structure Un (fs ex : List Addr) (H H' : Hp) (h h' : Heap) : Prop where
 keep : ∀ b o, h.get? b = some o → H b = none → b ∉ fs → b ∉ ex → h'.get? b = some o
 slot : ∀ b o, h.get? b = some o → H b = none → b ∈ fs → b ∉ ex → ∃ sl, h'.get? b = some { o with slots:=sl }
 free : ∀ b o, h.get? b = some o → H b = none → b ∉ ex → H' b = none
 there : ∀ b o, h.get? b = some o → b ∉ ex → ∃ o', h'.get? b = some o'
 tups : ∀ b xs, H b = some (.tup xs) → H' b = some (.tup xs)
 frzs : ∀ b o u, H b = some (.frz o u) → H' b = some (.frz o u)
 tbls : ∀ b ps, H b = some (.tbl ps) → ∃ more, H' b = some (.tbl (ps ++ more))
section
variable {fs fs' ex ex' : List Addr} {H H1 H2 : Hp} {h h1 h2 h' : Heap} {a x e : Addr} {o : HO}
theorem Un.any (u : Un fs ex H H1 h h1) {b : Addr} {ob : Obj} (q : h.get? b = some ob) (n : H b = none) (hx : b ∉ ex) : ∃ sl, h1.get? b = some { ob with slots:=sl }:=by
 by_cases hb : b ∈ fs
 ·exact u.slot b ob q n hb hx
 ·exact ⟨ob.slots, u.keep b ob q n hb hx⟩
theorem Un.kept (k : ∀ b u, h.get? b = some u → h'.get? b = some u) : Un fs ex H H h h' :=
 ⟨fun b ob q _ _ _ => k b ob q, fun b ob q _ _ _ => ⟨ob.slots, k b ob q⟩, fun _ _ _ n _ => n, fun b ob q _ => ⟨ob, k b ob q⟩, fun _ _ q => q, fun _ _ _ q => q, fun _ ps q => ⟨#[], by rw [q]; simp⟩⟩
theorem Un.refl : Un fs ex H H h h:=Un.kept fun _ _ q => q
theorem Un.laid (k : ∀ b u, h.get? b = some u → h'.get? b = some u) (hp : h.objs.size ≤ a) (hn : H a = none) : Un fs ex H (upd H a o) h h' where
 keep:=fun b u q _ _ _ => k b u q
 slot:=fun b u q _ _ _ => ⟨u.slots, k b u q⟩
 free:=fun b u q n _ => by rw [upd_ne (Nat.ne_of_lt (Nat.lt_of_lt_of_le (Heap.lt_size q) hp))]; exact n
 there:=fun b u q _ => ⟨u, k b u q⟩
 tups:=fun b xs q => by rw [upd_ne (ne_of_none q hn)]; exact q
 frzs:=fun b u xs q => by rw [upd_ne (ne_of_none q hn)]; exact q
 tbls:=fun b ps q => ⟨#[], by rw [upd_ne (ne_of_none q hn), q]; simp⟩
theorem Un.write (mu : Mut (H x)) (he : e = x ∨ H e = some (.own x)) (k : ∀ b u, b ≠ e → h.get? b = some u → h'.get? b = some u) (heo : ∃ u, h'.get? e = some u) : Un fs ex H (upd H x o) h h':=by
 have hx : ∀ b, H b = none → b ≠ x:=fun b n z => by subst z; rw [n] at mu; exact mu
 have hb : ∀ b, H b = none → b ≠ e:=fun b n z => by
  subst z
  rcases he with r | r
  ·exact hx b n r
  ·rw [n] at r; cases r
 have hm : ∀ b u, H b = some u → ¬ Mut (some u) → b ≠ x:=fun b u q nm z => by subst z; rw [q] at mu; exact nm mu
 refine ⟨fun b u q n _ _ => k b u (hb b n) q, fun b u q n _ _ => ⟨u.slots, k b u (hb b n) q⟩, fun b u q n _ => by rw [upd_ne (hx b n)]; exact n, fun b u q _ => ?_,
  fun b xs q => by rw [upd_ne (hm b _ q fun z => z)]; exact q, fun b u xs q => by rw [upd_ne (hm b _ q fun z => z)]; exact q, fun b ps q => ⟨#[], by rw [upd_ne (hm b _ q fun z => z), q]; simp⟩⟩
 by_cases hbe : b = e
 ·subst hbe; exact heo
 ·exact ⟨u, k b u hbe q⟩
end
noncomputable def trk (h : Heap) (H : Hp) : List Addr:=(List.range h.objs.size).filter fun a => (H a).isSome
noncomputable def hidT (h : Heap) (H : Hp) : Heap:=PySem.W.hideAll h (trk h H)
theorem hidT_size (h : Heap) (H : Hp) : (hidT h H).objs.size = h.objs.size:=PySem.W.hideAll_size _ _
theorem hidT_get {h : Heap} {H : Hp} {b : Addr} {o : Obj} (e : h.get? b = some o) (n : H b = none) : (hidT h H).get? b = some o :=
 PySem.W.hideAll_get _ e fun hm => by
  have q : (H b).isSome = true:=(List.mem_filter.mp hm).2
  rw [n] at q; simp at q
theorem of_hidT {h : Heap} {H : Hp} {b : Addr} {o : Obj} (e : (hidT h H).get? b = some o) : h.get? b = some o ∧ H b = none:=by
 have e' : h.get? b = some o:=PySem.W.of_hideAll (trk h H) e
 refine ⟨e', ?_⟩
 cases q : H b with
 | none => rfl
 | some x =>
  have hm : b ∈ trk h H:=List.mem_filter.mpr ⟨List.mem_range.mpr (Heap.lt_size e'), by simp [q]⟩
  have z : (hidT h H).get? b = none:=PySem.W.hideAll_none (trk h H) hm
  rw [z] at e; cases e
noncomputable def allNews (g h : Heap) (L : Addr) : List (Addr × Obj):=(List.range h.objs.size).filterMap fun a => if a = L ∨ (g.get? a).isSome = true then none else (h.get? a).map fun o => (a, o)
noncomputable def rest (g h : Heap) (L d : Addr) : List (Addr × Obj):=(allNews g h L).filter fun p => decide (p.1 ≠ d)
end L2
namespace L2
open PySem PySem.Spec PyProof.Rows
structure Mod (K : PySem.W.Frag) (mg : Str → Option Value) (base : Heap) : Prop where
 kin : K.In base
 glob : base.Ns mainGlobals mg
 blt : ∃ mb, base.Ns builtinsNs mb ∧ ∀ x : Str, x ≠ "__name__" → mb x = bootBuiltins x
 nolimit : base.NoLimit
structure Cx where
 prog : Program
 w : World
 K : PySem.W.Frag
 mg : Str → Option Value
 base : Heap
 A : Around
 N : List Str
 s₀ : Shared
 H₀ : Hp
 env : Env
 outer : List Env
 stack : List Env
 ex : List Addr
 fn : Str → Bool
 calm : Bool
 pn : List (Addr × Obj)
 xe : Value → Shared → Prop
noncomputable def frs (l : List Env) : List Addr:=l.filterMap (·.frame)
noncomputable abbrev Cx.fs (X : Cx) : List Addr:=frs X.outer
noncomputable def Vis (sc : Scope) (x : Str) : Prop:=sc.names.lookup x = some .local ∨ sc.names.lookup x = some .cell ∨ sc.names.lookup x = some .free
noncomputable def Loc (sc : Scope) (x : Str) : Prop:=sc.names.lookup x = some .local ∨ sc.names.lookup x = some .cell
noncomputable def Look (env : Env) (h : Heap) (m : Str → Option Value) (x : Str) (u : Value) : Prop :=
 (env.kindOf x = some .local ∧ m x = some u) ∨ ((env.kindOf x = some .cell ∨ env.kindOf x = some .free) ∧ ∃ c, env.cells.lookup x = some c ∧ h.IsCell c (some u))
structure Cx.Ok (X : Cx) : Prop where
 mod : Mod X.K X.mg X.base
 kind : X.env.scope.kind = .function
 glob : X.env.globals = mainGlobals
 blt : X.env.builtins = builtinsNs
 above : X.s₀.heap.objs.size ≤ X.env.locals
 inj : ∀ x y c, X.env.cells.lookup x = some c → X.env.cells.lookup y = some c → x = y
 has : ∀ x, (X.env.kindOf x = some .cell ∨ X.env.kindOf x = some .free) → ∃ c, X.env.cells.lookup x = some c
 cab : ∀ x c, X.fn x = true → X.env.cells.lookup x = some c → X.s₀.heap.objs.size ≤ c
 hd : X.calm = true → X.A.handled = none
 frames : X.A.frames = some X.stack
 stk : X.stack = X.outer ∨ (X.stack = X.env :: X.outer ∧ X.env.frame = some X.env.locals)
 exf : ∀ b ∈ X.ex, b ≠ X.env.locals ∧ ∀ x c, X.env.cells.lookup x = some c → c ≠ b
 bs : ∀ b o, X.base.get? b = some o → X.s₀.heap.get? b = some o ∧ X.H₀ b = none
 bsz : X.base.objs.size ≤ X.s₀.heap.objs.size
 noex : ∀ b o, X.base.get? b = some o → b ∉ X.ex
 exfs : ∀ b ∈ X.ex, b ∉ X.fs
 funs : X.s₀.heap.FunFrames X.base X.outer
 frf : ∀ b ∈ X.fs, X.H₀ b = none
structure Inv (X : Cx) (pins : List (Addr × Obj)) (σ : List (Option V)) (H : Hp) (s : Shared) : Prop where
 ok : X.Ok
 os : s.os = X.s₀.os
 bare : AllBare s.gens
 base : Un X.fs X.ex X.H₀ H X.s₀.heap s.heap
 loc : ∃ m, s.heap.Ns X.env.locals m ∧ ∀ (i : Nat) (x : Str) (v : V), X.N[i]? = some x → σ[i]? = some (some v) → Vis X.env.scope x → ∃ u, RelV v u ∧ Look X.env s.heap m x u
 cell : ∀ x c, X.env.cells.lookup x = some c → ∃ v, s.heap.IsCell c v
 free : H X.env.locals = none
 freeC : ∀ x c, X.env.cells.lookup x = some c → H c = none
 pin : ∀ p ∈ X.pn ++ pins, s.heap.get? p.1 = some p.2 ∧ H p.1 = none ∧ p.1 ≠ X.env.locals ∧ p.1 ∉ X.fs ∧ ∀ v, p.2.data ≠ .cell v
 hok : HOk X.prog X.w H s.heap
 len : σ.length = X.N.length
section
variable {X : Cx} {pins : List (Addr × Obj)} {σ : List (Option V)} {H H' : Hp} {s : Shared} {h' : Heap}
theorem Cx.Ok.nofr (ok : X.Ok) {b : Addr} {o : Obj} (e : X.base.get? b = some o) : b ∉ X.fs:=fun hb => by
 have:=(ok.funs.mem hb).1
 rw [e] at this; cases this
theorem Inv.bs (I : Inv X pins σ H s) : ∀ b o, X.base.get? b = some o → s.heap.get? b = some o ∧ H b = none:=fun b o e =>
 ⟨I.base.keep b o (I.ok.bs b o e).1 (I.ok.bs b o e).2 (I.ok.nofr e) (I.ok.noex b o e), I.base.free b o (I.ok.bs b o e).1 (I.ok.bs b o e).2 (I.ok.noex b o e)⟩
theorem Inv.bk (I : Inv X pins σ H s) : ∀ b o, X.base.get? b = some o → s.heap.get? b = some o:=fun b o e => (I.bs b o e).1
theorem Inv.mod (I : Inv X pins σ H s) : Mod X.K X.mg X.base:=I.ok.mod
theorem Inv.kIn (I : Inv X pins σ H s) : X.K.In s.heap:=I.ok.mod.kin.keeps I.bk
theorem Inv.lt (I : Inv X pins σ H s) : X.env.locals < s.heap.objs.size:=let ⟨_, hn, _⟩:=I.loc; hn.lt
theorem Inv.sz (I : Inv X pins σ H s) : X.s₀.heap.objs.size ≤ s.heap.objs.size:=Nat.le_trans I.ok.above (Nat.le_of_lt I.lt)
theorem Inv.nofs (I : Inv X pins σ H s) {a : Addr} (h : s.heap.objs.size ≤ a) : a ∉ X.fs:=fun hb => by
 obtain ⟨_, o, ho, _⟩:=I.ok.funs.mem hb
 exact absurd (Nat.lt_of_lt_of_le (Heap.lt_size ho) (Nat.le_trans I.sz h)) (Nat.lt_irrefl _)
theorem Inv.cne (I : Inv X pins σ H s) : ∀ x c, X.env.cells.lookup x = some c → c ≠ X.env.locals:=fun x c e z => by
 obtain ⟨v, o, ho, hd⟩:=I.cell x c e
 obtain ⟨m, ⟨o', es, ep, ho', hd', _⟩, _⟩:=I.loc
 rw [z, ho'] at ho; cases ho; rw [hd'] at hd; cases hd
theorem Inv.funs (I : Inv X pins σ H s) : s.heap.FunFrames X.base X.outer:=by
 have all : ∀ (l : List Env), (∀ b ∈ frs l, b ∈ X.fs) → X.s₀.heap.FunFrames X.base l → s.heap.FunFrames X.base l:=by
  intro l
  induction l with
  | nil => intro _ _; trivial
  | cons env r ih =>
   intro hs hl
   obtain ⟨hk, ⟨L, o, hf, hn, ho, hd⟩, hr⟩:=hl
   have hL : L ∈ X.fs:=hs L (by unfold frs; rw [List.filterMap_cons, hf]; exact List.mem_cons_self)
   obtain ⟨sl, e⟩:=I.base.slot L o ho (I.ok.frf L hL) hL fun z => I.ok.exfs L z hL
   exact ⟨hk, ⟨L, _, hf, hn, e, hd⟩, ih (fun b hb => hs b (by unfold frs; rw [List.filterMap_cons, hf]; exact List.mem_cons_of_mem _ hb)) hr⟩
 exact all X.outer (fun _ hb => hb) I.ok.funs
theorem Inv.stack (I : Inv X pins σ H s) : s.heap.FunFrames X.base X.stack:=by
 rcases I.ok.stk with e | ⟨e, hf⟩
 ·rw [e]; exact I.funs
 ·rw [e]
  obtain ⟨m, hn, _⟩:=I.loc
  refine .cons (by rw [I.ok.kind]; decide) hf hn ?_ I.funs
  exact Heap.get?_none_of_le (Nat.le_trans I.ok.bsz I.ok.above)
theorem Inv.stkSub (I : Inv X pins σ H s) : ∀ b ∈ frs X.stack, b ∈ X.env.locals :: X.fs:=fun b hb => by
 rcases I.ok.stk with e | ⟨e, hf⟩
 ·rw [e] at hb; exact List.mem_cons_of_mem _ hb
 ·rw [e] at hb
  unfold frs at hb
  rw [List.filterMap_cons, hf] at hb
  exact hb
theorem Inv.stkFree (I : Inv X pins σ H s) : ∀ b ∈ frs X.stack, H b = none:=fun b hb => by
 rcases List.mem_cons.mp (I.stkSub b hb) with e | hb
 ·rw [e]; exact I.free
 ·obtain ⟨_, o, ho, _⟩:=I.ok.funs.mem hb
  exact I.base.free b o ho (I.ok.frf b hb) fun z => I.ok.exfs b z hb
theorem Inv.step {g' : Array GenState} {t' : Nat} {d' : Drawn} {ch : List Addr} (I : Inv X pins σ H s)
  (hch : ∀ b ∈ ch, (b ∈ X.ex ∨ X.s₀.heap.objs.size ≤ b) ∧ b ≠ X.env.locals ∧ (∀ x c, X.env.cells.lookup x = some c → c ≠ b) ∧ ∀ p ∈ X.pn ++ pins, p.1 ≠ b)
  (keep : ∀ b o, b ≠ X.env.locals → b ∉ X.fs → b ∉ ch → s.heap.get? b = some o → H b = none → h'.get? b = some o)
  (slot : ∀ b o, b ≠ X.env.locals → b ∈ X.fs → b ∉ ch → s.heap.get? b = some o → H b = none → ∃ sl, h'.get? b = some { o with slots:=sl }) (free : ∀ b o, b ∉ ch → s.heap.get? b = some o → H b = none → H' b = none)
  (there : ∀ b o, b ∉ ch → s.heap.get? b = some o → ∃ o', h'.get? b = some o')
  (tups : ∀ b xs, H b = some (.tup xs) → H' b = some (.tup xs)) (frzs : ∀ b o u, H b = some (.frz o u) → H' b = some (.frz o u)) (tbls : ∀ b ps, H b = some (.tbl ps) → ∃ more, H' b = some (.tbl (ps ++ more)))
  (ns : ∀ m, s.heap.Ns X.env.locals m → h'.Ns X.env.locals m) (hok : HOk X.prog X.w H' h') (hg : AllBare g') :
  Inv X pins σ H' { s with heap:=h', gens:=g', drawn:=d', toks:=t' }:=by
 have neL : ∀ b o, X.s₀.heap.get? b = some o → b ≠ X.env.locals:=fun b o e => Nat.ne_of_lt (Nat.lt_of_lt_of_le (Heap.lt_size e) I.ok.above)
 have neC : ∀ b o, X.s₀.heap.get? b = some o → b ∉ X.ex → b ∉ ch:=fun b o e hx hb => by
  rcases (hch b hb).1 with z | z
  ·exact hx z
  ·exact absurd (Nat.lt_of_lt_of_le (Heap.lt_size e) z) (Nat.lt_irrefl _)
 have cellK : ∀ x c, X.env.cells.lookup x = some c → ∀ v, s.heap.IsCell c v → h'.IsCell c v:=fun x c e v ⟨o, ho, hd⟩ => by
  have nch : c ∉ ch:=fun z => (hch c z).2.2.1 x c e rfl
  by_cases hc : c ∈ X.fs
  ·obtain ⟨sl, q⟩:=slot c o (I.cne x c e) hc nch ho (I.freeC x c e)
   exact ⟨_, q, hd⟩
  ·exact ⟨o, keep c o (I.cne x c e) hc nch ho (I.freeC x c e), hd⟩
 refine ⟨I.ok, I.os, hg, ⟨fun b o e n hb hx => ?_, fun b o e n hb hx => ?_, fun b o e n hx => ?_, fun b o e hx => ?_, fun b xs e => tups b xs (I.base.tups b xs e), fun b o xs e => frzs b o xs (I.base.frzs b o xs e), fun b ps e => ?_⟩, ?_, fun x c e => ?_, ?_, fun x c e => ?_, fun p hp => ?_, hok, I.len⟩
 ·exact keep b o (neL b o e) hb (neC b o e hx) (I.base.keep b o e n hb hx) (I.base.free b o e n hx)
 ·obtain ⟨sl, e1⟩:=I.base.slot b o e n hb hx
  obtain ⟨sl', e2⟩:=slot b _ (neL b o e) hb (neC b o e hx) e1 (I.base.free b o e n hx)
  exact ⟨sl', e2⟩
 ·obtain ⟨o', e1⟩:=I.base.there b o e hx
  exact free b o' (neC b o e hx) e1 (I.base.free b o e n hx)
 ·obtain ⟨o', e1⟩:=I.base.there b o e hx
  exact there b o' (neC b o e hx) e1
 ·obtain ⟨m1, e1⟩:=I.base.tbls b ps e
  obtain ⟨m2, e2⟩:=tbls b _ e1
  exact ⟨m1 ++ m2, by rw [e2, Array.append_assoc]⟩
 ·obtain ⟨m, hn, hl⟩:=I.loc
  refine ⟨m, ns m hn, fun i x v e1 e2 e3 => ?_⟩
  obtain ⟨u, r, l⟩:=hl i x v e1 e2 e3
  refine ⟨u, r, ?_⟩
  rcases l with l | ⟨k, c, e, z⟩
  ·exact .inl l
  ·exact .inr ⟨k, c, e, cellK x c e _ z⟩
 ·obtain ⟨v, z⟩:=I.cell x c e
  exact ⟨v, cellK x c e v z⟩
 ·obtain ⟨m, ⟨o, _, _, ho, _⟩, _⟩:=I.loc
  exact free _ o (fun z => (hch _ z).2.1 rfl) ho I.free
 ·obtain ⟨v, o, ho, hd⟩:=I.cell x c e
  exact free c o (fun z => (hch c z).2.2.1 x c e rfl) ho (I.freeC x c e)
 ·obtain ⟨e, n, ne, nf, d⟩:=I.pin p hp
  have nch : p.1 ∉ ch:=fun z => (hch p.1 z).2.2.2 p hp rfl
  exact ⟨keep p.1 p.2 ne nf nch e n, free p.1 p.2 nch e n, ne, nf, d⟩
theorem Inv.un {t' : Nat} (I : Inv X pins σ H s) (u : Un X.fs [] H H' s.heap h') (hok : HOk X.prog X.w H' h') : Inv X pins σ H' { s with heap:=h', toks:=t' }:=by
 obtain ⟨m, ⟨o, es, ep, ho, r⟩, _⟩:=id I.loc
 obtain ⟨sl, hL⟩:=u.any ho I.free (by simp)
 exact I.step (g':=s.gens) (d':=s.drawn) (ch:=[]) (fun _ z => nomatch z) (fun b o _ hb _ e n => u.keep b o e n hb (by simp)) (fun b o _ hb _ e n => u.slot b o e n hb (by simp)) (fun b o _ e n => u.free b o e n (by simp)) (fun b o _ e => u.there b o e (by simp)) u.tups u.frzs u.tbls (fun m' hm => by
  obtain ⟨o', es', ep', ho', r'⟩:=hm
  rw [ho] at ho'; cases ho'
  exact ⟨_, es', ep', hL, r'⟩) hok I.bare
theorem Inv.call {g' : Array GenState} {t' : Nat} {d' : Drawn} {ch : List Addr} (I : Inv X pins σ H s) (u : Un (frs X.stack) ch H H' s.heap h') (hok : HOk X.prog X.w H' h') (hg : AllBare g')
  (hch : ∀ b ∈ ch, (b ∈ X.ex ∨ X.s₀.heap.objs.size ≤ b) ∧ b ≠ X.env.locals ∧ (∀ x c, X.env.cells.lookup x = some c → c ≠ b) ∧ ∀ p ∈ X.pn ++ pins, p.1 ≠ b) :
  Inv X pins σ H' { s with heap:=h', gens:=g', drawn:=d', toks:=t' }:=by
 obtain ⟨m, ⟨o, es, ep, ho, r⟩, _⟩:=id I.loc
 obtain ⟨sl, hL⟩:=u.any ho I.free fun z => (hch _ z).2.1 rfl
 exact I.step (ch:=ch) hch (fun b o hL hb hc e n => u.keep b o e n (fun z => (List.mem_cons.mp (I.stkSub b z)).elim hL hb) hc) (fun b o _ _ hc e n => u.any e n hc) (fun b o hc e n => u.free b o e n hc) (fun b o hc e => u.there b o e hc) u.tups u.frzs u.tbls (fun m' hm => by
  obtain ⟨o', es', ep', ho', r'⟩:=hm
  rw [ho] at ho'; cases ho'
  exact ⟨_, es', ep', hL, r'⟩) hok hg
theorem Inv.turned {t' : Nat} {it : Addr} (I : Inv X pins σ H s) (k : ∀ b o, b ≠ it → s.heap.get? b = some o → h'.get? b = some o) (hn : H it = none) (hL : it ≠ X.env.locals)
  (h1 : it ∈ X.ex ∨ X.s₀.heap.objs.size ≤ it) (h2 : ∀ x c, X.env.cells.lookup x = some c → c ≠ it) (h3 : ∀ p ∈ X.pn ++ pins, p.1 ≠ it) : Inv X pins σ H { s with heap:=h', toks:=t' }:=by
 have nit : ∀ b u, H b = some u → b ≠ it:=fun b u e z => by rw [z, hn] at e; cases e
 refine I.step (g':=s.gens) (d':=s.drawn) (ch:=[it]) (fun b hb => ?_) (fun b o _ _ hc e _ => k b o (fun z => hc (by simp [z])) e) (fun b o _ _ hc e _ => ⟨o.slots, k b o (fun z => hc (by simp [z])) e⟩) (fun _ _ _ _ n => n)
  (fun b o hc e => ⟨o, k b o (fun z => hc (by simp [z])) e⟩) (fun _ _ e => e) (fun _ _ _ e => e) (fun b ps e => ⟨#[], by rw [e]; simp⟩) (fun m hm => ?_) (fun b u e => ?_) I.bare
 ·have e : b = it:=by simpa using hb
  subst e
  exact ⟨h1, hL, h2, h3⟩
 ·obtain ⟨o, es, ep, ho, r⟩:=hm
  exact ⟨o, es, ep, k _ o (Ne.symm hL) ho, r⟩
 ·refine (I.hok b u e).stay (fun c v hc q => k c v ?_ q) (fun _ q => q) fun _ _ q => q
  rcases hc with z | z
  ·rw [z]; exact nit b u e
  ·exact nit c _ z
theorem Inv.tok (I : Inv X pins σ H s) (t : Nat) : Inv X pins σ H { s with toks:=t }:=I.un (h':=s.heap) (t':=t) Un.refl I.hok
theorem Inv.kept {t' : Nat} (I : Inv X pins σ H s) (k : ∀ b u, s.heap.get? b = some u → h'.get? b = some u) : Inv X pins σ H { s with heap:=h', toks:=t' }:=I.un (Un.kept k) (I.hok.kept k)
theorem Inv.laid {a : Addr} {o : HO} {t' : Nat} (I : Inv X pins σ H s) (k : ∀ b u, s.heap.get? b = some u → h'.get? b = some u) (hp : s.heap.objs.size ≤ a) (new : ObjOk X.prog X.w (upd H a o) h' a o) :
  Inv X pins σ (upd H a o) { s with heap:=h', toks:=t' }:=I.un (Un.laid k hp (I.hok.fresh hp)) (I.hok.laid k hp new)
theorem Inv.write {x e : Addr} {o : HO} {t' : Nat} (I : Inv X pins σ H s) (mu : Mut (H x)) (he : e = x ∨ H e = some (.own x)) (k : ∀ b u, b ≠ e → s.heap.get? b = some u → h'.get? b = some u) (heo : ∃ u, h'.get? e = some u)
  (new : ObjOk X.prog X.w (upd H x o) h' x o) : Inv X pins σ (upd H x o) { s with heap:=h', toks:=t' }:=I.un (Un.write mu he k heo) (I.hok.write mu he k heo new)
theorem Inv.pins_of {pins' : List (Addr × Obj)} (I : Inv X pins σ H s) (h : ∀ p ∈ pins', s.heap.get? p.1 = some p.2 ∧ H p.1 = none ∧ p.1 ≠ X.env.locals ∧ p.1 ∉ X.fs ∧ ∀ v, p.2.data ≠ .cell v) : Inv X pins' σ H s :=
 ⟨I.ok, I.os, I.bare, I.base, I.loc, I.cell, I.free, I.freeC, fun p hp => (List.mem_append.mp hp).elim (fun z => I.pin p (List.mem_append_left _ z)) (h p), I.hok, I.len⟩
theorem nodup_ix {N : List Str} (hN : N.Nodup) {i j : Nat} {x : Str} (a : N[i]? = some x) (b : N[j]? = some x) : i = j:=by
 obtain ⟨h1, e1⟩:=List.getElem?_eq_some_iff.mp a
 obtain ⟨h2, e2⟩:=List.getElem?_eq_some_iff.mp b
 exact (List.getElem_inj hN).mp (e1.trans e2.symm)
theorem store_ok2 {M : Model} {A : Around} {E : Value → Shared → Prop} {i : Nat} {x : Str} {v : V} {u : Value} {Q : Unit → Shared → Prop} (I : Inv X pins σ H s) (hN : X.N.Nodup) (hi : X.N[i]? = some x) (hx : Loc X.env.scope x) (r : RelV v u)
  (h : ∀ s', Inv X pins (σ.set i (some v)) H s' → (∃ a, Heap.SameBut a s.heap s'.heap ∧ (a = X.env.locals ∨ X.env.cells.lookup x = some a)) → Q () s') (hf : X.fn x = true ∨ X.env.scope.names.lookup x = some .local:=by first | exact .inl rfl | exact .inr rfl | assumption) : wpAny M A (storeName X.env x u) Q E s:=by
 obtain ⟨m, hn, hl⟩:=id I.loc
 have hcls : (X.env.scope.kind == .class || (X.env.scope.kind == .module && X.env.locals != X.env.globals)) = false:=by rw [I.ok.kind]; rfl
 have hiσ : i < σ.length:=by rw [I.len]; exact (List.getElem?_eq_some_iff.mp hi).1
 have cne:=I.cne
 have tracked : ∀ {a : Addr} {h' : Heap}, (∃ o, s.heap.get? a = some o ∧ H a = none) → Heap.SameBut a s.heap h' → HOk X.prog X.w H h':=fun {a h'} ha hs b ob e => by
  obtain ⟨_, _, hfree⟩:=ha
  refine (I.hok b ob e).stay (fun c w' hc q => (hs.2 c ?_).trans q) (fun _ q => q) fun _ _ q => q
  rintro rfl
  rcases hc with rfl | hc
  ·rw [hfree] at e; cases e
  ·rw [hfree] at hc; cases hc
 rcases hx with hk | hk
 ·refine wpAny_storeName_local hk hn (fun h' hn' hs => ?_) hcls
  obtain ⟨oL, _, _, hoL, _⟩:=id hn
  refine h _ ⟨I.ok, I.os, I.bare, ⟨fun b o e n hb hx => ?_, fun b o e n hb hx => ?_, I.base.free, fun b o e hx => ?_, I.base.tups, I.base.frzs, I.base.tbls⟩, ⟨_, hn', fun j y v' e1 e2 e3 => ?_⟩, fun y c e => ?_, I.free, I.freeC, fun p hp => ?_, tracked ⟨oL, hoL, I.free⟩ hs, by simpa using I.len⟩ ⟨_, hs, .inl rfl⟩
  ·exact (hs.2 b (Nat.ne_of_lt (Nat.lt_of_lt_of_le (Heap.lt_size e) I.ok.above))).trans (I.base.keep b o e n hb hx)
  ·obtain ⟨sl, e1⟩:=I.base.slot b o e n hb hx
   exact ⟨sl, (hs.2 b (Nat.ne_of_lt (Nat.lt_of_lt_of_le (Heap.lt_size e) I.ok.above))).trans e1⟩
  ·obtain ⟨o', e1⟩:=I.base.there b o e hx
   exact ⟨o', (hs.2 b (Nat.ne_of_lt (Nat.lt_of_lt_of_le (Heap.lt_size e) I.ok.above))).trans e1⟩
  ·by_cases hj : j = i
   ·subst hj
    rw [hi] at e1; cases e1
    rw [List.getElem?_set_self hiσ] at e2
    cases e2
    exact ⟨u, r, .inl ⟨hk, by simp⟩⟩
   ·rw [List.getElem?_set_ne (Ne.symm hj)] at e2
    obtain ⟨u', r', q⟩:=hl j y v' e1 e2 e3
    refine ⟨u', r', ?_⟩
    rcases q with ⟨k, e⟩ | ⟨k, c, e, z⟩
    ·refine .inl ⟨k, ?_⟩
     have : y ≠ x:=fun e => hj (nodup_ix hN e1 (e ▸ hi))
     simp [this, e]
    ·exact .inr ⟨k, c, e, z.sameBut hs (cne y c e)⟩
  ·obtain ⟨w', z⟩:=I.cell y c e
   exact ⟨w', z.sameBut hs (cne y c e)⟩
  ·obtain ⟨e, n, ne, nf, d⟩:=I.pin p hp
   exact ⟨(hs.2 p.1 ne).trans e, n, ne, nf, d⟩
 ·have hfn : X.fn x = true:=by
   rcases hf with z | z
   ·exact z
   ·rw [z] at hk; cases hk
  obtain ⟨c, hc⟩:=I.ok.has x (.inl hk)
  obtain ⟨w', z⟩:=I.cell x c hc
  refine wpAny_storeName_cell I.ok.kind hk hc z (fun h' hc' hs => ?_)
  obtain ⟨oc, hoc, hocd⟩:=id z
  refine h { s with heap:=h' } ⟨I.ok, I.os, I.bare, ⟨fun b o e n hb hx => ?_, fun b o e n hb hx => ?_, I.base.free, fun b o e hx => ?_, I.base.tups, I.base.frzs, I.base.tbls⟩, ⟨m, hn.sameBut hs (Ne.symm (cne x c hc)), fun j y v' e1 e2 e3 => ?_⟩, fun y c' e => ?_, I.free, I.freeC, fun p hp => ?_, tracked ⟨oc, hoc, I.freeC x c hc⟩ hs, by simpa using I.len⟩ ⟨c, hs, .inr hc⟩
  ·exact (hs.2 b (Nat.ne_of_lt (Nat.lt_of_lt_of_le (Heap.lt_size e) (I.ok.cab x c hfn hc)))).trans (I.base.keep b o e n hb hx)
  ·obtain ⟨sl, e1⟩:=I.base.slot b o e n hb hx
   exact ⟨sl, (hs.2 b (Nat.ne_of_lt (Nat.lt_of_lt_of_le (Heap.lt_size e) (I.ok.cab x c hfn hc)))).trans e1⟩
  ·obtain ⟨o', e1⟩:=I.base.there b o e hx
   exact ⟨o', (hs.2 b (Nat.ne_of_lt (Nat.lt_of_lt_of_le (Heap.lt_size e) (I.ok.cab x c hfn hc)))).trans e1⟩
  ·by_cases hj : j = i
   ·subst hj
    rw [hi] at e1; cases e1
    rw [List.getElem?_set_self hiσ] at e2
    cases e2
    exact ⟨u, r, .inr ⟨.inl hk, c, hc, hc'⟩⟩
   ·rw [List.getElem?_set_ne (Ne.symm hj)] at e2
    obtain ⟨u', r', q⟩:=hl j y v' e1 e2 e3
    refine ⟨u', r', ?_⟩
    rcases q with q | ⟨k, c', e, z'⟩
    ·exact .inl q
    ·refine .inr ⟨k, c', e, z'.sameBut hs ?_⟩
     rintro rfl
     exact hj (nodup_ix hN e1 (I.ok.inj _ _ _ e hc ▸ hi))
  ·by_cases hcc : c' = c
   ·subst hcc; exact ⟨_, hc'⟩
   ·obtain ⟨w2, z2⟩:=I.cell y c' e
    exact ⟨w2, z2.sameBut hs hcc⟩
  ·obtain ⟨e, n, ne, nf, d⟩:=I.pin p hp
   refine ⟨(hs.2 p.1 ?_).trans e, n, ne, nf, d⟩
   intro q
   rw [q, hoc] at e
   have q' : oc = p.2:=Option.some.inj e
   exact d w' (by rw [← q']; exact hocd)
theorem store_ok {M : Model} {A : Around} {E : Value → Shared → Prop} {i : Nat} {x : Str} {v : V} {u : Value} {Q : Unit → Shared → Prop} (I : Inv X pins σ H s) (hN : X.N.Nodup) (hi : X.N[i]? = some x) (hx : Loc X.env.scope x) (r : RelV v u)
  (h : ∀ s', Inv X pins (σ.set i (some v)) H s' → Q () s') (hf : X.fn x = true ∨ X.env.scope.names.lookup x = some .local:=by first | exact .inl rfl | exact .inr rfl | assumption) : wpAny M A (storeName X.env x u) Q E s :=
 store_ok2 I hN hi hx r (fun s' I' _ => h s' I') hf
theorem Inv.call' {s' : Shared} {ch : List Addr} (I : Inv X pins σ H s) (ho : s'.os = s.os) (u : Un (frs X.stack) ch H H' s.heap s'.heap) (hok : HOk X.prog X.w H' s'.heap) (hg : AllBare s'.gens)
  (hch : ∀ b ∈ ch, (b ∈ X.ex ∨ X.s₀.heap.objs.size ≤ b) ∧ b ≠ X.env.locals ∧ (∀ x c, X.env.cells.lookup x = some c → c ≠ b) ∧ ∀ p ∈ X.pn ++ pins, p.1 ≠ b) : Inv X pins σ H' s':=by
 obtain ⟨h', g', d', t', o'⟩:=s'
 have e : o' = s.os:=ho
 subst e
 exact I.call (g':=g') (t':=t') (d':=d') u hok hg hch
end
noncomputable abbrev XK:=Value → Option Addr → Hp → Prop
noncomputable abbrev St:=List (Option V)
noncomputable abbrev VK:=V → Hp → Prop
noncomputable abbrev TE:=St → Hp → VK → Prop
noncomputable abbrev TT:=St → Hp → (Bool → Hp → Prop) → Prop
noncomputable abbrev TA:=St → Hp → (List V → Hp → Prop) → Prop
structure Ends where
 nx : St → Hp → Prop
 rt : VK
 bk : St → Hp → Prop:=fun _ _ => False
 ct : St → Hp → Prop:=fun _ _ => False
noncomputable abbrev TS:=Ends → St → Hp → Prop
noncomputable def EP (X : Cx) (pins : List (Addr × Obj)) (σ : St) (Q : VK) (u : Value) (s' : Shared) : Prop:=∃ v H', Inv X pins σ H' s' ∧ RelV v u ∧ Q v H'
noncomputable def TP (X : Cx) (pins : List (Addr × Obj)) (σ : St) (Q : Bool → Hp → Prop) (b : Bool) (s' : Shared) : Prop:=∃ H', Inv X pins σ H' s' ∧ Q b H'
noncomputable def AP (X : Cx) (pins : List (Addr × Obj)) (σ : St) (Q : List V → Hp → Prop) (us : List Value) (s' : Shared) : Prop:=∃ vs H', Inv X pins σ H' s' ∧ Vals vs us ∧ Q vs H'
noncomputable def SP (X : Cx) (pins : List (Addr × Obj)) (D : Ends) (f : Flow) (s' : Shared) : Prop :=
 match f with
 | .next => ∃ σ' H', Inv X pins σ' H' s' ∧ D.nx σ' H'
 | .brk => ∃ σ' H', Inv X pins σ' H' s' ∧ D.bk σ' H'
 | .cont => ∃ σ' H', Inv X pins σ' H' s' ∧ D.ct σ' H'
 | .ret u => ∃ v σ' H', Inv X pins σ' H' s' ∧ RelV v u ∧ D.rt v H'
noncomputable def PE (X : Cx) (e : Expr) (t : TE) : Prop :=
 ∀ (pins : List (Addr × Obj)) (s : Shared) (σ : St) (H : Hp) (Q : VK), Inv X pins σ H s → t σ H Q → wpAny (model X.prog X.w) X.A (eval e X.env) (EP X pins σ Q) X.xe s
noncomputable def PT (X : Cx) (e : Expr) (t : TT) : Prop :=
 ∀ (pins : List (Addr × Obj)) (s : Shared) (σ : St) (H : Hp) (Q : Bool → Hp → Prop), Inv X pins σ H s → t σ H Q → wpAny (model X.prog X.w) X.A (isTrue e X.env (eval e X.env)) (TP X pins σ Q) X.xe s
noncomputable def PW (X : Cx) (e : Expr) (t : TT) : Prop :=
 ∀ (whole : Sem Value) (pins : List (Addr × Obj)) (s : Shared) (σ : St) (H : Hp) (Q : Bool → Hp → Prop), Inv X pins σ H s → t σ H Q → wpAny (model X.prog X.w) X.A (isTrue e X.env whole) (TP X pins σ Q) X.xe s
theorem PW.pt {X : Cx} {e : Expr} {t : TT} (h : PW X e t) : PT X e t:=h _
noncomputable def PA (X : Cx) (es : List Expr) (t : TA) : Prop :=
 ∀ (pos : Pos) (pins : List (Addr × Obj)) (s : Shared) (σ : St) (H : Hp) (Q : List V → Hp → Prop), Inv X pins σ H s → t σ H Q → wpAny (model X.prog X.w) X.A (spliced (backTo pos (starEach es X.env))) (AP X pins σ Q) X.xe s
noncomputable def PS (X : Cx) (st : Stmt) (t : TS) : Prop :=
 ∀ (pins : List (Addr × Obj)) (s : Shared) (σ : St) (H : Hp) (D : Ends), Inv X pins σ H s → t D σ H → wpAny (model X.prog X.w) X.A (exec st X.env) (SP X pins D) X.xe s
noncomputable def PSs (X : Cx) (st : List Stmt) (t : TS) : Prop :=
 ∀ (pins : List (Addr × Obj)) (s : Shared) (σ : St) (H : Hp) (D : Ends), Inv X pins σ H s → t D σ H → wpAny (model X.prog X.w) X.A (execs st X.env) (SP X pins D) X.xe s
theorem thn {α : Type} {t : Sem α} {Q Q' : α → Shared → Prop} {M : Model} {A : Around} {E : Value → Shared → Prop} {s : Shared} (h : wpAny M A t Q E s) (hQ : ∀ a s, Q a s → Q' a s) : wpAny M A t Q' E s:=wpAny_mono h hQ fun _ _ x => x
end L2
namespace L2
open PySem PySem.Spec PyProof.Rows
section
variable {X : Cx}
noncomputable def tVar (i : Nat) : TE:=fun σ H Q => ∃ v, σ[i]? = some (some v) ∧ Q v H
noncomputable def tC (v : V) : TE:=fun _ H Q => Q v H
theorem pe_var {i : Nat} {x : Str} {pos : Pos} (hN : X.N[i]? = some x) (hv : Vis X.env.scope x) (hd : (x == ("__debug__" : Str)) = false := by decide) (hcd : (x == ("__classdict__" : Str)) = false := by decide) : PE X (.Name x pos) (tVar i) := by
 intro pins s σ H Q I h
 obtain ⟨v, e, h⟩:=h
 obtain ⟨m, hn, hl⟩:=I.loc
 obtain ⟨u, r, l⟩:=hl i x v hN e hv
 have fin : EP X pins σ Q u s:=⟨v, H, I, r, h⟩
 rcases l with ⟨hk, hm⟩ | ⟨hk, c, hc, hcell⟩
 ·exact wpAny_Name (wpAny_loadName_local I.ok.kind hk hn hm fin) hd
 ·rcases hk with hk | hk
  ·exact wpAny_Name (wpAny_loadName_cell I.ok.kind hk hc hcell fin) hd
  ·exact wpAny_Name (wpAny_loadName_free I.ok.kind hk hc hcell fin hcd) hd
theorem pe_int {i j pos} : PE X (.Constant (.int i) j pos) (tC (.int i)):=fun _ _ _ H _ I h => wpAny_Constant_int ⟨.int i, H, I.tok _, ⟨_, rfl⟩, h⟩
theorem pe_bl {b j pos} : PE X (.Constant (.bool b) j pos) (tC (.bl b)):=fun _ _ _ H _ I h => Constant_bool ⟨.bl b, H, I, rfl, h⟩
theorem pe_non {j pos} : PE X (.Constant .none j pos) (tC .non):=fun _ _ _ H _ I h => Constant_none ⟨.non, H, I, rfl, h⟩
theorem pe_str {x j pos} : PE X (.Constant (.str x) j pos) (tC (.str x)):=fun _ _ _ H _ I h => Calls.Constant_str ⟨.str x, H, I.tok _, ⟨_, rfl⟩, h⟩
noncomputable def Gl (X : Cx) (x : Str) : Prop:=X.env.kindOf x = some .globalImplicit
theorem ld_glob {E : Value → Shared → Prop} {pins : List (Addr × Obj)} {s : Shared} {σ : St} {H : Hp} {x : Str} {u : Value} {pos : Pos} {Q : Value → Shared → Prop} (I : Inv X pins σ H s) (hg : Gl X x) (hm : X.mg x = some u) (h : Q u s)
  (hd : (x == ("__debug__" : Str)) = false := by decide) : wpAny (model X.prog X.w) X.A (eval (.Name x pos) X.env) Q E s :=
 Calls.Name_function_global I.ok.kind hg (Calls.loadGlobal_global (by rw [I.ok.glob]; exact I.mod.glob.keeps I.bk) hm h) hd
theorem ld_blt {E : Value → Shared → Prop} {pins : List (Addr × Obj)} {s : Shared} {σ : St} {H : Hp} {x : Str} {u : Value} {pos : Pos} {Q : Value → Shared → Prop} (I : Inv X pins σ H s) (hg : Gl X x) (hm : X.mg x = none) (hv : bootBuiltins x = some u) (h : Q u s)
  (hn : x ≠ "__name__" := by decide) (hd : (x == ("__debug__" : Str)) = false := by decide) : wpAny (model X.prog X.w) X.A (eval (.Name x pos) X.env) Q E s := by
 obtain ⟨mb, h1, h2⟩:=I.mod.blt
 exact Calls.Name_function_global I.ok.kind hg (Calls.loadGlobal_builtin (by rw [I.ok.glob]; exact I.mod.glob.keeps I.bk) hm (by rw [I.ok.blt]; exact h1.keeps I.bk) ((h2 x hn).trans hv) h) hd
theorem pe_glob {x : Str} {v : V} {u : Value} {pos : Pos} (hg : Gl X x) (hm : X.mg x = some u) (r : RelV v u) (hd : (x == ("__debug__" : Str)) = false := by decide) : PE X (.Name x pos) (tC v) :=
 fun _ _ _ H _ I h => ld_glob I hg hm ⟨v, H, I, r, h⟩ hd
theorem pe_bltn {x : Str} {v : V} {u : Value} {pos : Pos} (hg : Gl X x) (hm : X.mg x = none) (hv : bootBuiltins x = some u) (r : RelV v u) (hn : x ≠ "__name__" := by decide) (hd : (x == ("__debug__" : Str)) = false := by decide) : PE X (.Name x pos) (tC v) :=
 fun _ _ _ H _ I h => ld_blt I hg hm hv ⟨v, H, I, r, h⟩ hn hd
variable {a b : Expr} {ta tb : TE} {pos : Pos}
noncomputable def tB (t : TE) : TT:=fun σ H Q => t σ H fun x H1 => ∃ c, x = .bl c ∧ Q c H1
theorem pt_val {e : Expr} {t : TE} (h : PE X e t) (he : ∀ whole, isTrue e X.env whole = (do let v ← whole; standAt e.pos; holding [v] (truthy v)):=by intro _; rfl) : PT X e (tB t):=by
 intro pins s σ H Q I hw
 refine isTrue_plain (thn (h pins s σ H _ I hw) fun v s1 ⟨x, H1, I1, r1, q1⟩ => ?_) (he _)
 obtain ⟨d, rfl, q⟩:=q1
 cases r1
 exact wpAny_truthy_bool ⟨H1, I1, q⟩
variable {tA tB' : TT} {rest : List Expr}
noncomputable def tAnd (t u : TT) : TT:=fun σ H Q => t σ H fun c H1 => if c = true then u σ H1 Q else Q false H1
noncomputable def tOr (t u : TT) : TT:=fun σ H Q => t σ H fun c H1 => if c = true then Q true H1 else u σ H1 Q
noncomputable def tNot (t : TT) : TT:=fun σ H Q => t σ H fun c H1 => Q (!c) H1
theorem pw_and1 (ha : PT X a tA) : PW X (.BoolOp .And [a] pos) tA:=by
 intro wh pins s σ H Q I h
 refine isTrue_and (thn (ha pins s σ H Q I h) fun c s1 e => ?_)
 cases c with
 | true => exact isTrue_and_nil e
 | false => exact e
theorem pw_or1 (ha : PT X a tA) : PW X (.BoolOp .Or [a] pos) tA:=by
 intro wh pins s σ H Q I h
 refine isTrue_or (thn (ha pins s σ H Q I h) fun c s1 e => ?_)
 cases c with
 | false => exact isTrue_or_nil e
 | true => exact e
theorem pw_and (ha : PT X a tA) (hb : PW X (.BoolOp .And (b :: rest) pos) tB') : PW X (.BoolOp .And (a :: b :: rest) pos) (tAnd tA tB'):=by
 intro wh pins s σ H Q I h
 refine isTrue_and (thn (ha pins s σ H _ I h) fun c s1 ⟨H1, I1, q1⟩ => ?_)
 cases c with
 | true => exact hb wh pins s1 σ H1 Q I1 q1
 | false => exact ⟨H1, I1, q1⟩
theorem pw_or (ha : PT X a tA) (hb : PW X (.BoolOp .Or (b :: rest) pos) tB') : PW X (.BoolOp .Or (a :: b :: rest) pos) (tOr tA tB'):=by
 intro wh pins s σ H Q I h
 refine isTrue_or (thn (ha pins s σ H _ I h) fun c s1 ⟨H1, I1, q1⟩ => ?_)
 cases c with
 | true => exact ⟨H1, I1, q1⟩
 | false => exact hb wh pins s1 σ H1 Q I1 q1
theorem pt_not (ha : PT X a tA) : PT X (.UnaryOp .Not a pos) (tNot tA):=by
 intro pins s σ H Q I h
 exact isTrue_not (ha pins s σ H (fun c H1 => Q (!c) H1) I h)
noncomputable def tAndV (ta tb : TE) : TE:=fun σ H Q => ta σ H fun x H1 => ∃ c, x = .bl c ∧ if c = true then tb σ H1 Q else Q (.bl false) H1
noncomputable def tOrV (ta tb : TE) : TE:=fun σ H Q => ta σ H fun x H1 => ∃ c, x = .bl c ∧ if c = true then Q (.bl true) H1 else tb σ H1 Q
noncomputable def tNotV (ta : TE) : TE:=fun σ H Q => ta σ H fun x H1 => ∃ c, x = .bl c ∧ Q (.bl (!c)) H1
theorem pe_one {op} {t : TE} (h : PE X a t) : PE X (.BoolOp op [a] pos) t:=fun pins s σ H Q I hw => BoolOp_one (h pins s σ H Q I hw)
theorem pe_and (ha : PE X a ta) (hb : PE X (.BoolOp .And (b :: rest) pos) tb) : PE X (.BoolOp .And (a :: b :: rest) pos) (tAndV ta tb):=by
 intro pins s σ H Q I h
 refine BoolOp_and (thn (ha pins s σ H _ I h) fun v s1 ⟨x, H1, I1, r1, q1⟩ => ?_)
 obtain ⟨c, rfl, q1⟩:=q1
 cases r1
 refine wpAny_truthy_bool ?_
 cases c with
 | true => exact hb pins s1 σ H1 Q I1 q1
 | false => exact ⟨.bl false, H1, I1, rfl, q1⟩
theorem pe_or (ha : PE X a ta) (hb : PE X (.BoolOp .Or (b :: rest) pos) tb) : PE X (.BoolOp .Or (a :: b :: rest) pos) (tOrV ta tb):=by
 intro pins s σ H Q I h
 refine BoolOp_or (thn (ha pins s σ H _ I h) fun v s1 ⟨x, H1, I1, r1, q1⟩ => ?_)
 obtain ⟨c, rfl, q1⟩:=q1
 cases r1
 refine wpAny_truthy_bool ?_
 cases c with
 | false => exact hb pins s1 σ H1 Q I1 q1
 | true => exact ⟨.bl true, H1, I1, rfl, q1⟩
theorem pe_not (ha : PE X a ta) : PE X (.UnaryOp .Not a pos) (tNotV ta):=by
 intro pins s σ H Q I h
 refine UnaryOp_ (thn (ha pins s σ H _ I h) fun v s1 ⟨x, H1, I1, r1, q1⟩ => ?_)
 obtain ⟨c, rfl, q1⟩:=q1
 cases r1
 exact not_of (wpAny_truthy_bool ⟨.bl (!c), H1, I1, rfl, q1⟩)
noncomputable def tIf (t : TT) (ta tb : TE) : TE:=fun σ H Q => t σ H fun c H1 => if c = true then ta σ H1 Q else tb σ H1 Q
theorem pe_ifExp {c : Expr} (hc : PT X c tA) (ha : PE X a ta) (hb : PE X b tb) : PE X (.IfExp c a b pos) (tIf tA ta tb):=by
 intro pins s σ H Q I h
 refine wpAny_IfExp (thn (hc pins s σ H _ I h) fun d s1 ⟨H1, I1, q1⟩ => ?_)
 cases d with
 | true => exact ha pins s1 σ H1 Q I1 q1
 | false => exact hb pins s1 σ H1 Q I1 q1
end
end L2
namespace L2
open PySem PySem.Spec PyProof.Rows
noncomputable def SqL (K : PySem.W.Frag) (H : Hp) (a : Addr) (xs : List V) : Prop :=
 Rd H a (.lst xs) ∨
  ∃ (o : Obj) (its : Array Value) (n : Nat), K.lookup a = some o ∧ o.cls = .type "list" ∧ o.dict = none ∧ o.data = .seq its n ∧ its.size ≤ sizeLine ∧ Vals xs its.toList
noncomputable def SqT (K : PySem.W.Frag) (H : Hp) (a : Addr) (xs : List V) : Prop :=
 Rd H a (.tup xs) ∨
  ∃ (o : Obj) (its : Array Value) (n : Nat), K.lookup a = some o ∧ o.cls = .type "tuple" ∧ o.data = .seq its n ∧ its.size ≤ sizeLine ∧ Vals xs its.toList
noncomputable def absV : Value → Option V
 | .none => some .non
 | .bool b => some (.bl b)
 | .int i _ => some (.int i)
 | .str x _ => some (.str x)
 | .bytes b _ => some (.byt b)
 | .float b _ => some (.flt b)
 | .ref a => some (.ref a)
 | .type n => some (.ty n)
 | _ => none
theorem RelV.abs {x : V} {u : Value} (r : RelV x u) : absV u = some x:=by
 cases x with
 | non => cases r; rfl
 | bl _ => cases r; rfl
 | int _ => obtain ⟨t, rfl⟩:=r; rfl
 | str _ => obtain ⟨t, rfl⟩:=r; rfl
 | byt _ => obtain ⟨t, rfl⟩:=r; rfl
 | flt _ => obtain ⟨t, rfl⟩:=r; rfl
 | ref _ => cases r; rfl
 | ty _ => cases r; rfl
theorem RelV.inj {x y : V} {u : Value} (r : RelV x u) (q : RelV y u) : x = y:=Option.some.inj (r.abs.symm.trans q.abs)
theorem Vals.inj : ∀ {xs ys : List V} {us : List Value}, Vals xs us → Vals ys us → xs = ys
 | _, _, _, .nil, .nil => rfl
 | _, _, _, .cons r t, .cons r' t' => by rw [r.inj r', Vals.inj t t']
section
variable {X : Cx} {pins : List (Addr × Obj)} {σ : St} {H : Hp} {s : Shared} {a : Addr} {xs ys : List V}
theorem SqL.of {K : PySem.W.Frag} (h : H a = some (.lst xs)) : SqL K H a xs:=.inl (.inl h)
theorem SqT.of {K : PySem.W.Frag} (h : H a = some (.tup xs)) : SqT K H a xs:=.inl (.inl h)
theorem Inv.list (I : Inv X pins σ H s) (h : SqL X.K H a xs) : ∃ its : List Value, Vals xs its ∧ PlainL s.heap a its.toArray ∧ xs.length ≤ sizeLine:=by
 rcases h with h | ⟨o, its, n, hk, hc, hd, hs, hz, r⟩
 ·obtain ⟨z, its, n, r, e⟩:=h.ok I.hok
  exact ⟨its, r, ⟨_, n, e, rfl, rfl, rfl⟩, z⟩
 ·refine ⟨its.toList, r, ⟨o, n, I.kIn a o hk, hc, hd, by simpa using hs⟩, ?_⟩
  have e:=r.length
  simp only [Array.length_toList] at e
  omega
theorem Inv.tuple (I : Inv X pins σ H s) (h : SqT X.K H a xs) : ∃ its : List Value, Vals xs its ∧ IsTup s.heap a its.toArray ∧ xs.length ≤ sizeLine:=by
 rcases h with h | ⟨o, its, n, hk, hc, hs, hz, r⟩
 ·obtain ⟨z, its, r, p, _⟩:=h.ok I.hok
  exact ⟨its, r, p, z⟩
 ·refine ⟨its.toList, r, ⟨o, I.kIn a o hk, hc, n, by simpa using hs⟩, ?_⟩
  have e:=r.length
  simp only [Array.length_toList] at e
  omega
theorem Inv.list_inj (I : Inv X pins σ H s) (h : SqL X.K H a xs) (h' : SqL X.K H a ys) : xs = ys:=by
 obtain ⟨its, r, ⟨o, n, e, _, _, d⟩, _⟩:=I.list h
 obtain ⟨its', r', ⟨o', n', e', _, _, d'⟩, _⟩:=I.list h'
 rw [e] at e'; cases e'
 rw [d] at d'
 injection d' with d1 _
 have : its = its':=by simpa using congrArg Array.toList d1
 subst this
 exact r.inj r'
theorem Inv.tuple_inj (I : Inv X pins σ H s) (h : SqT X.K H a xs) (h' : SqT X.K H a ys) : xs = ys:=by
 obtain ⟨its, r, ⟨o, e, _, n, d⟩, _⟩:=I.tuple h
 obtain ⟨its', r', ⟨o', e', _, n', d'⟩, _⟩:=I.tuple h'
 rw [e] at e'; cases e'
 rw [d] at d'
 injection d' with d1 _
 have : its = its':=by simpa using congrArg Array.toList d1
 subst this
 exact r.inj r'
end
noncomputable abbrev Cx.wish (X : Cx) (E : Value → Shared → Prop) : Cx:={ X with xe:=E }
noncomputable abbrev Cx.nox (X : Cx) : Cx:=X.wish fun _ _ => False
theorem Cx.Ok.wish {X : Cx} (ok : X.Ok) (E : Value → Shared → Prop) : (X.wish E).Ok :=
 ⟨ok.mod, ok.kind, ok.glob, ok.blt, ok.above, ok.inj, ok.has, ok.cab, ok.hd, ok.frames, ok.stk, ok.exf, ok.bs, ok.bsz, ok.noex, ok.exfs, ok.funs, ok.frf⟩
theorem Cx.Ok.unwish {X : Cx} {E : Value → Shared → Prop} (ok : (X.wish E).Ok) : X.Ok :=
 ⟨ok.mod, ok.kind, ok.glob, ok.blt, ok.above, ok.inj, ok.has, ok.cab, ok.hd, ok.frames, ok.stk, ok.exf, ok.bs, ok.bsz, ok.noex, ok.exfs, ok.funs, ok.frf⟩
section
variable {X : Cx} {pins : List (Addr × Obj)} {σ : St} {H : Hp} {s : Shared} {E : Value → Shared → Prop}
theorem Inv.wish (I : Inv X pins σ H s) (E : Value → Shared → Prop) : Inv (X.wish E) pins σ H s:=⟨I.ok.wish E, I.os, I.bare, I.base, I.loc, I.cell, I.free, I.freeC, I.pin, I.hok, I.len⟩
theorem Inv.unwish (I : Inv (X.wish E) pins σ H s) : Inv X pins σ H s:=⟨I.ok.unwish, I.os, I.bare, I.base, I.loc, I.cell, I.free, I.freeC, I.pin, I.hok, I.len⟩
theorem SP.unwish {D : Ends} {f : Flow} {s' : Shared} (h : SP (X.wish E) pins D f s') : SP X pins D f s':=by
 cases f with
 | next => obtain ⟨σ', H', I, q⟩:=h; exact ⟨σ', H', I.unwish, q⟩
 | brk => obtain ⟨σ', H', I, q⟩:=h; exact ⟨σ', H', I.unwish, q⟩
 | cont => obtain ⟨σ', H', I, q⟩:=h; exact ⟨σ', H', I.unwish, q⟩
 | ret u => obtain ⟨v, σ', H', I, r, q⟩:=h; exact ⟨v, σ', H', I.unwish, r, q⟩
theorem PSs.nox {st : List Stmt} {t : TS} (h : PSs X.nox st t) : PSs X st t:=fun pins s σ H D I hw =>
 wpAny_mono (h pins s σ H D (I.wish _) hw) (fun _ _ q => q.unwish) fun _ _ z => False.elim z
end
section
variable {X : Cx} {st : Stmt} {rest : List Stmt} {t u : TS} {e : Expr} {te : TE} {pos : Pos}
noncomputable def tNext : TS:=fun D σ H => D.nx σ H
noncomputable def tSeq (t u : TS) : TS:=fun D σ H => t { D with nx:=u D } σ H
theorem pss_nil : PSs X [] tNext:=fun _ _ σ H _ I h => wpAny_execs_nil ⟨σ, H, I, h⟩
theorem pss_cons (h1 : PS X st t) (h2 : PSs X rest u) : PSs X (st :: rest) (tSeq t u):=by
 intro pins s σ H D I h
 refine wpAny_execs_cons (thn (h1 pins s σ H { D with nx:=u D } I h) fun f s1 q => ?_)
 cases f with
 | next =>
  obtain ⟨σ', H', I', q⟩:=q
  exact h2 pins s1 σ' H' D I' q
 | ret v => exact q
 | brk => exact q
 | cont => exact q
theorem pss_one (h1 : PS X st t) : PSs X [st] t:=by
 intro pins s σ H D I h
 refine wpAny_execs_cons (thn (h1 pins s σ H D I h) fun f s1 q => ?_)
 cases f with
 | next => exact wpAny_execs_nil q
 | ret v => exact q
 | brk => exact q
 | cont => exact q
theorem Inv.quiet {pins : List (Addr × Obj)} {σ : St} {H : Hp} {s : Shared} (I : Inv X pins σ H s) : interactive X.env = false:=by simp [interactive, I.ok.kind]
noncomputable def tDrop (te : TE) : TS:=fun D σ H => te σ H fun _ H1 => D.nx σ H1
theorem ps_expr (he : PE X e te) (hs : swapsWith e none pos.line X.env = pure false:=by rfl) : PS X (.Expr e pos) (tDrop te):=by
 intro pins s σ H D I h
 exact wpAny_Expr_any (thn (he pins s σ H _ I h) fun v s1 ⟨x, H1, I1, r1, q1⟩ => ⟨σ, H1, I1, q1⟩) I.quiet hs
noncomputable def tRet (te : TE) : TS:=fun D σ H => te σ H D.rt
theorem ps_ret (he : PE X e te) : PS X (.Return (some e) pos) (tRet te):=by
 intro pins s σ H D I h
 exact wpAny_Return_some (thn (he pins s σ H _ I h) fun v s1 ⟨x, H1, I1, r1, q1⟩ => ⟨x, σ, H1, I1, r1, q1⟩)
noncomputable def tIfS (c : TT) (t u : TS) : TS:=fun D σ H => c σ H fun b H1 => if b = true then t D σ H1 else u D σ H1
theorem ps_if {c : Expr} {a b : List Stmt} {tc : TT} (hc : PT X c tc) (ha : PSs X a t) (hb : PSs X b u) : PS X (.If c a b pos) (tIfS tc t u):=by
 intro pins s σ H D I h
 refine wpAny_If (thn (hc pins s σ H _ I h) fun d s1 ⟨H1, I1, q1⟩ => ?_)
 cases d with
 | true => exact ha pins s1 σ H1 D I1 q1
 | false => exact hb pins s1 σ H1 D I1 q1
end
noncomputable abbrev TG:=V → St → Hp → (St → Hp → Prop) → Prop
noncomputable abbrev TGs:=List V → St → Hp → (St → Hp → Prop) → Prop
noncomputable def PG (X : Cx) (target : Expr) (t : TG) : Prop :=
 ∀ (pins : List (Addr × Obj)) (s : Shared) (σ : St) (H : Hp) (v : V) (u : Value) (Q : St → Hp → Prop), Inv X pins σ H s → RelV v u → t v σ H Q →
  wpAny (model X.prog X.w) X.A (assign target X.env u) (fun _ s' => ∃ σ' H', Inv X pins σ' H' s' ∧ Q σ' H') X.xe s
noncomputable def PGs (X : Cx) (ts : List Expr) (t : TGs) : Prop :=
 ∀ (pins : List (Addr × Obj)) (s : Shared) (σ : St) (H : Hp) (vs : List V) (us : List Value) (Q : St → Hp → Prop), Inv X pins σ H s → Vals vs us → t vs σ H Q →
  wpAny (model X.prog X.w) X.A (assignInOrder ((assignEach ts X.env).map (·.2)) us) (fun _ s' => ∃ σ' H', Inv X pins σ' H' s' ∧ Q σ' H') X.xe s
section
variable {X : Cx} {pos : Pos}
noncomputable def gName (i : Nat) : TG:=fun v σ H Q => Q (σ.set i (some v)) H
theorem pg_name {i : Nat} {x : Str} (hN : X.N.Nodup) (hi : X.N[i]? = some x) (hx : Loc X.env.scope x) (hf : X.fn x = true ∨ X.env.scope.names.lookup x = some .local:=by first | exact .inl rfl | exact .inr rfl | assumption) : PG X (.Name x pos) (gName i):=by
 intro pins s σ H v u Q I r h
 exact wpAny_assign_Name (store_ok I hN hi hx r (fun s' I' => ⟨_, H, I', h⟩) hf)
noncomputable def gNil : TGs:=fun vs σ H Q => vs = [] ∧ Q σ H
noncomputable def gCons (t : TG) (u : TGs) : TGs:=fun vs σ H Q => ∃ v r, vs = v :: r ∧ t v σ H fun σ' H' => u r σ' H' Q
theorem pgs_nil : PGs X [] gNil:=by
 intro pins s σ H vs us Q I r h
 obtain ⟨e, h⟩:=h
 subst e
 cases r
 exact assignInOrder_nil ⟨σ, H, I, h⟩
theorem pgs_cons {e : Expr} {es : List Expr} {t : TG} {u : TGs} (h1 : PG X e t) (h2 : PGs X es u)
  (hs : (assignEach (e :: es) X.env).map (·.2) = assign e X.env :: (assignEach es X.env).map (·.2):=by rfl) : PGs X (e :: es) (gCons t u):=by
 intro pins s σ H vs us Q I r h
 obtain ⟨v, vr, e1, h⟩:=h
 subst e1
 cases r with
 | cons r rr =>
  rw [hs]
  refine assignInOrder_cons (thn (h1 pins s σ H _ _ _ I r h) fun _ s1 ⟨σ1, H1, I1, q1⟩ => ?_)
  exact h2 pins s1 σ1 H1 _ _ Q I1 rr q1
noncomputable def gTup (K : PySem.W.Frag) (n : Nat) (t : TGs) : TG:=fun v σ H Q => ∃ a xs, v = .ref a ∧ SqT K H a xs ∧ xs.length = n ∧ t xs σ H Q
theorem pg_tup {es : List Expr} {k : Nat} {t : TGs} {n : Nat} (hc : X.calm = true) (h : PGs X es t)
  (hn : (assignEach es X.env).length = n:=by rfl) (hst : (assignEach es X.env).findIdx? (·.1) = none:=by rfl) : PG X (.Tuple es k pos) (gTup X.K n t):=by
 intro pins s σ H v u Q I r hw
 obtain ⟨a, xs, e1, hq, hl, hw⟩:=hw
 subst e1
 cases r
 obtain ⟨its, rv, ht, hz⟩:=I.tuple hq
 refine assign_Tuple_tuple (I.ok.hd hc) ht (by simp [hn, ← hl, rv.length]) hst fun h' hx => ?_
 have I1 : Inv X pins σ H { s with heap:=h' }:=I.kept (t':=s.toks) fun b o e => hx b o (Nat.ne_of_lt (Heap.lt_size e)) e
 exact h pins _ σ H xs _ Q I1 (by simpa using rv) hw
noncomputable def tAsg (te : TE) (g : TG) : TS:=fun D σ H => te σ H fun x H1 => g x σ H1 D.nx
theorem ps_set {i : Nat} {x : Str} {e : Expr} {te : TE} {pos' : Pos} (hN : X.N.Nodup) (hi : X.N[i]? = some x) (hx : Loc X.env.scope x) (he : PE X e te) (hs : swapsWith e (some (.Name x pos')) pos.line X.env = pure false:=by rfl) (hf : X.fn x = true ∨ X.env.scope.names.lookup x = some .local:=by first | exact .inl rfl | exact .inr rfl | assumption) :
  PS X (.Assign [.Name x pos'] e pos) (tAsg te (gName i)):=by
 intro pins s σ H D I h
 refine wpAny_Assign_Name (thn (he pins s σ H _ I h) fun v s1 ⟨y, H1, I1, r1, q1⟩ => ?_) hs
 exact store_ok I1 hN hi hx r1 (fun s2 I2 => ⟨_, H1, I2, q1⟩) hf
end
section
variable {X : Cx} {pos : Pos}
end
structure It where
 go : Nat → Hp → Prop
 yld : Nat → Hp → V → Hp → Prop
 stop : Nat → Hp → Prop
noncomputable def FpOk (X : Cx) (pins : List (Addr × Obj)) (H : Hp) (b : Addr) : Prop :=
 H b = none ∧ b ≠ X.env.locals ∧ b ∉ X.fs ∧ (b ∈ X.ex ∨ X.s₀.heap.objs.size ≤ b) ∧ (∀ x c, X.env.cells.lookup x = some c → c ≠ b) ∧ ∀ p ∈ X.pn ++ pins, p.1 ≠ b
theorem Inv.fpOk {X : Cx} {pins : List (Addr × Obj)} {σ : St} {H H' : Hp} {s : Shared} {b : Addr} (I : Inv X pins σ H s) (hb : s.heap.objs.size ≤ b) (hn : H' b = none) : FpOk X pins H' b:=by
 refine ⟨hn, Nat.ne_of_gt (Nat.lt_of_lt_of_le I.lt hb), I.nofs hb, .inr (Nat.le_trans I.sz hb), fun x c e z => ?_, fun p hp z => ?_⟩
 ·obtain ⟨v, q⟩:=I.cell x c e
  exact absurd (Nat.lt_of_lt_of_le q.lt (by rw [z]; exact hb)) (Nat.lt_irrefl _)
 ·exact absurd (Nat.lt_of_lt_of_le (Heap.lt_size (I.pin p hp).1) (by rw [z]; exact hb)) (Nat.lt_irrefl _)
structure Turn (P : Program) (w : World) (K : PySem.W.Frag) (tg : Expr) (J : It) (fp : List Addr) (it : Addr) (tn : Nat → Heap → Prop) : Prop where
 mem : it ∈ fp
 obj : ∀ i h, tn i h → ∀ b ∈ fp, ∃ o, h.get? b = some o ∧ ∀ v, o.data ≠ .cell v
 keep : ∀ i h h', tn i h → (∀ b ∈ fp, ∀ o, h.get? b = some o → h'.get? b = some o) → tn i h'
 item : ∀ (X : Cx), X.prog = P → X.w = w → X.K = K → X.calm = true → ∀ (i : Nat) (pins : List (Addr × Obj)) (s : Shared) (σ : St) (H : Hp) (E : Value → Shared → Prop), Inv X pins σ H s → (∀ b ∈ fp, FpOk X pins H b) → tn i s.heap → J.go i H →
  wpAny (model P w) X.A (pyNext (.ref it)) (fun r s1 => ∃ u, r = some u ∧
   wpAny (model P w) X.A (letOwnedTupleGo tg (.ref it) u) (fun _ s2 => ∃ x H', Inv X pins σ H' s2 ∧ RelV x u ∧ J.yld i H x H' ∧ tn (i + 1) s2.heap ∧ ∀ b ∈ fp, H' b = none) E s1) E s
 done : ∀ (X : Cx), X.prog = P → X.w = w → X.K = K → X.calm = true → ∀ (i : Nat) (pins : List (Addr × Obj)) (s : Shared) (σ : St) (H : Hp) (E : Value → Shared → Prop), Inv X pins σ H s → (∀ b ∈ fp, FpOk X pins H b) → tn i s.heap → J.stop i H →
  wpAny (model P w) X.A (pyNext (.ref it)) (fun r s1 => r = none ∧ Inv X pins σ H s1) E s
 self : ∀ (A : Around) (i : Nat) (s : Shared) (Q : Value → Shared → Prop) (E : Value → Shared → Prop), tn i s.heap → Q (.ref it) s → wpAny (model P w) A (pyIter (.ref it)) Q E s
noncomputable abbrev TI:=St → Hp → (It → Hp → Prop) → Prop
noncomputable def PIE (X : Cx) (pins : List (Addr × Obj)) (σ : St) (tg : Expr) (R : It → Hp → Prop) (itv : Value) (s2 : Shared) : Prop :=
 ∃ (it : Addr) (fp : List Addr) (tn : Nat → Heap → Prop) (J : It) (H' : Hp), itv = .ref it ∧ Inv X pins σ H' s2 ∧ Turn X.prog X.w X.K tg J fp it tn ∧ tn 0 s2.heap ∧ (∀ b ∈ fp, FpOk X pins H' b) ∧ R J H'
noncomputable def PI (X : Cx) (tg iter : Expr) (wi : TI) : Prop :=
 ∀ (pins : List (Addr × Obj)) (s : Shared) (σ : St) (H : Hp) (R : It → Hp → Prop), Inv X pins σ H s → wi σ H R →
  wpAny (model X.prog X.w) X.A (eval iter X.env) (fun v s1 => wpAny (model X.prog X.w) X.A (pyIter v) (PIE X pins σ tg R) X.xe s1) X.xe s
theorem go_of {M : Model} {A : Around} {E : Value → Shared → Prop} {s : Shared} {tg : Expr} {it : Addr} {u : Value} {o : Obj} {n : String} {vs : Array Value} {Q : Unit → Shared → Prop} (ho : s.heap.get? it = some o) (hc : o.cls = .type n) (hd : o.data = .fields vs)
    (hn : ["enumerate", "zip", "dict_itemiterator", "dict_reverseitemiterator", "odict_iterator", "itertools.zip_longest", "itertools.pairwise"].contains n = false) (hQ : Q () s) : wpAny M A (letOwnedTupleGo tg (.ref it) u) Q E s := by
  unfold letOwnedTupleGo
  cases tg <;> first
    | exact wpAny_pure hQ
    | (cases u <;> first
        | exact wpAny_pure hQ
        | (refine wpAny_bind (wpAny_load ho ?_)
           rw [hc, hd]
           show wpAny M A (if (["enumerate", "zip", "dict_itemiterator", "dict_reverseitemiterator", "odict_iterator", "itertools.zip_longest", "itertools.pairwise"].contains n && vs[0]? == some (rawInt _)) = true then _ else _) Q E s
           rw [if_neg (by intro h; rw [hn, Bool.false_and] at h; cases h)]
           exact wpAny_pure hQ))
noncomputable def Itl (K : PySem.W.Frag) (a : Addr) : It :=
 ⟨fun i H => ∃ xs x, SqL K H a xs ∧ xs[i]? = some x, fun i H x H' => H' = H ∧ ∀ xs, SqL K H a xs → xs[i]? = some x, fun i H => ∃ xs, SqL K H a xs ∧ xs.length ≤ i⟩
noncomputable def Itt (K : PySem.W.Frag) (a : Addr) : It :=
 ⟨fun i H => ∃ xs x, SqT K H a xs ∧ xs[i]? = some x, fun i H x H' => H' = H ∧ ∀ xs, SqT K H a xs → xs[i]? = some x, fun i H => ∃ xs, SqT K H a xs ∧ xs.length ≤ i⟩
noncomputable def Itr (lo : Int) (n : Nat) : It:=⟨fun i _ => i < n, fun i H x H' => H' = H ∧ x = .int (lo + i), fun i _ => n ≤ i⟩
theorem turn_list {P : Program} {w : World} {K : PySem.W.Frag} {tg : Expr} (a it : Addr) : Turn P w K tg (Itl K a) [it] it (fun i h => h.IsListIter it a i) where
 mem:=by simp
 obj:=fun i h st b hb => by
  have e : b = it:=by simpa using hb
  subst e
  obtain ⟨o, e, c, d⟩:=st
  exact ⟨o, e, fun v z => by rw [d] at z; cases z⟩
 keep:=fun i h h' st k => st.at fun o e => k it (by simp) o e
 item:=by
  intro X hP hw hK hc i pins s σ H E I hf st hg
  subst hP hw hK
  obtain ⟨xs, x, hq, hx⟩:=hg
  obtain ⟨its, rv, p, hz⟩:=I.list hq
  obtain ⟨u, hu, ru⟩:=rv.get hx
  obtain ⟨f0, f1, f2, f3, f4, f5⟩:=hf it (by simp)
  refine wpAny_pyNext_list_item st p.isList (x:=u) (by simpa using hu) fun h' st' sb => ?_
  have I1 : Inv X pins σ H { s with heap:=h' }:=I.turned (t':=s.toks) (fun b o hb e => (sb.2 b hb).trans e) f0 f1 f3 f4 f5
  obtain ⟨o, e, c, d⟩:=id st'
  exact ⟨u, rfl, go_of (s:={ s with heap:=h' }) e c d (by decide) ⟨x, H, I1, ru, ⟨rfl, fun ys hy => by rw [I.list_inj hy hq]; exact hx⟩, st', fun b hb => (hf b hb).1⟩⟩
 done:=by
  intro X hP hw hK hc i pins s σ H E I hf st hg
  subst hP hw hK
  obtain ⟨xs, hq, hx⟩:=hg
  obtain ⟨its, rv, p, hz⟩:=I.list hq
  obtain ⟨f0, f1, f2, f3, f4, f5⟩:=hf it (by simp)
  have hl:=rv.length
  exact wpAny_pyNext_list_end (I.ok.hd hc) st p.isList (by simp; omega) fun h' eb => ⟨rfl, I.turned (t':=s.toks) (fun b o hb e => eb b o hb e) f0 f1 f3 f4 f5⟩
 self:=fun _ _ _ _ _ st h => wpAny_pyIter_listiter st h
theorem turn_tuple {P : Program} {w : World} {K : PySem.W.Frag} {tg : Expr} (a it : Addr) : Turn P w K tg (Itt K a) [it] it (fun i h => h.IsTupleIter it a i) where
 mem:=by simp
 obj:=fun i h st b hb => by
  have e : b = it:=by simpa using hb
  subst e
  obtain ⟨o, e, c, d⟩:=st
  exact ⟨o, e, fun v z => by rw [d] at z; cases z⟩
 keep:=fun i h h' st k => st.at fun o e => k it (by simp) o e
 item:=by
  intro X hP hw hK hc i pins s σ H E I hf st hg
  subst hP hw hK
  obtain ⟨xs, x, hq, hx⟩:=hg
  obtain ⟨its, rv, p, hz⟩:=I.tuple hq
  obtain ⟨u, hu, ru⟩:=rv.get hx
  obtain ⟨f0, f1, f2, f3, f4, f5⟩:=hf it (by simp)
  refine wpAny_pyNext_tuple_item st (show s.heap.IsTuple a its.toArray from p) (x:=u) (by simpa using hu) fun h' st' sb => ?_
  have I1 : Inv X pins σ H { s with heap:=h' }:=I.turned (t':=s.toks) (fun b o hb e => (sb.2 b hb).trans e) f0 f1 f3 f4 f5
  obtain ⟨o, e, c, d⟩:=id st'
  exact ⟨u, rfl, go_of (s:={ s with heap:=h' }) e c d (by decide) ⟨x, H, I1, ru, ⟨rfl, fun ys hy => by rw [I.tuple_inj hy hq]; exact hx⟩, st', fun b hb => (hf b hb).1⟩⟩
 done:=by
  intro X hP hw hK hc i pins s σ H E I hf st hg
  subst hP hw hK
  obtain ⟨xs, hq, hx⟩:=hg
  obtain ⟨its, rv, p, hz⟩:=I.tuple hq
  obtain ⟨f0, f1, f2, f3, f4, f5⟩:=hf it (by simp)
  have hl:=rv.length
  exact wpAny_pyNext_tuple_end (I.ok.hd hc) st (show s.heap.IsTuple a its.toArray from p) (by simp; omega) fun h' eb => ⟨rfl, I.turned (t':=s.toks) (fun b o hb e => eb b o hb e) f0 f1 f3 f4 f5⟩
 self:=fun _ _ _ _ _ st h => wpAny_pyIter_tupleiter st h
theorem turn_range {P : Program} {w : World} {K : PySem.W.Frag} {tg : Expr} (it : Addr) (lo : Int) (n : Nat) : Turn P w K tg (Itr lo n) [it] it (fun i h => IsRangeIter h it (lo + (i : Nat) * 1) ((n : Int) - (i : Nat)) 1) where
 mem:=by simp
 obj:=fun i h st b hb => by
  have e : b = it:=by simpa using hb
  subst e
  exact ⟨_, st, fun v z => by
   have z' : Data.fields _ = Data.cell v:=z
   cases z'⟩
 keep:=fun i h h' st k => k it (by simp) _ st
 item:=by
  intro X hP hw hK hc i pins s σ H E I hf st hg
  subst hP hw hK
  obtain ⟨f0, f1, f2, f3, f4, f5⟩:=hf it (by simp)
  have W:=Walks.range (prog:=X.prog) (w:=X.w) (I.ok.hd hc) it lo 1 n
  refine W.item i s _ _ hg st fun v h' tk hv st' kk => ?_
  obtain ⟨t, rfl⟩:=hv
  have I1 : Inv X pins σ H { s with heap:=h', toks:=tk }:=I.turned (fun b o hb e => kk b o (by simpa using hb) e) f0 f1 f3 f4 f5
  refine ⟨_, rfl, go_of (s := { s with heap := h', toks := tk }) (n := "range_iterator") st' rfl rfl (by decide) ⟨.int (lo + i), H, I1, ⟨t, ?_⟩, ⟨rfl, rfl⟩, st', fun b hb => (hf b hb).1⟩⟩
  rw [Int.mul_one]
 done:=by
  intro X hP hw hK hc i pins s σ H E I hf st hg
  subst hP hw hK
  obtain ⟨f0, f1, f2, f3, f4, f5⟩:=hf it (by simp)
  exact wpAny_pyNext_range_end (I.ok.hd hc) st (by have : n ≤ i:=hg; omega) fun h' eb => ⟨rfl, I.turned (t':=s.toks) (fun b o hb e => eb b o hb e) f0 f1 f3 f4 f5⟩
 self:=fun _ _ _ _ _ st h => wpAny_pyIter_rangeiter st h
end L2
namespace L2
open PySem PySem.Spec PyProof.Rows
section
variable {X : Cx} {tg : Expr}
noncomputable def iList (K : PySem.W.Frag) (tl : TE) : TI:=fun σ H R => tl σ H fun x H1 => ∃ a, x = .ref a ∧ (∃ xs, SqL K H1 a xs) ∧ R (Itl K a) H1
noncomputable def iTup (K : PySem.W.Frag) (tl : TE) : TI:=fun σ H R => tl σ H fun x H1 => ∃ a, x = .ref a ∧ (∃ xs, SqT K H1 a xs) ∧ R (Itt K a) H1
theorem pi_list {l : Expr} {tl : TE} (hl : PE X l tl) : PI X tg l (iList X.K tl):=by
 intro pins s σ H R I h
 refine thn (hl pins s σ H _ I h) fun v s1 ⟨x, H1, I1, r1, q1⟩ => ?_
 obtain ⟨a, e, ⟨xs, hq⟩, q⟩:=q1
 subst e
 cases r1
 obtain ⟨its, rv, p, hz⟩:=I1.list hq
 refine wpAny_pyIter_list p.isList ?_
 refine ⟨s1.heap.objs.size, [s1.heap.objs.size], _, _, H1, rfl, I1.kept (t':=s1.toks) fun b o e => Heap.get?_push_of_some _ e, turn_list a _, ⟨_, Heap.get?_push_size _ rfl, rfl, rfl⟩, fun b hb => ?_, q⟩
 have e : b = s1.heap.objs.size:=by simpa using hb
 subst e
 exact I1.fpOk (Nat.le_refl _) (I1.hok.fresh (Nat.le_refl _))
theorem pi_tup {l : Expr} {tl : TE} (hl : PE X l tl) : PI X tg l (iTup X.K tl):=by
 intro pins s σ H R I h
 refine thn (hl pins s σ H _ I h) fun v s1 ⟨x, H1, I1, r1, q1⟩ => ?_
 obtain ⟨a, e, ⟨xs, hq⟩, q⟩:=q1
 subst e
 cases r1
 obtain ⟨its, rv, p, hz⟩:=I1.tuple hq
 refine wpAny_pyIter_tuple (show s1.heap.IsTuple a its.toArray from p) ?_
 refine ⟨s1.heap.objs.size, [s1.heap.objs.size], _, _, H1, rfl, I1.kept (t':=s1.toks) fun b o e => Heap.get?_push_of_some _ e, turn_tuple a _, ⟨_, Heap.get?_push_size _ rfl, rfl, rfl⟩, fun b hb => ?_, q⟩
 have e : b = s1.heap.objs.size:=by simpa using hb
 subst e
 exact I1.fpOk (Nat.le_refl _) (I1.hok.fresh (Nat.le_refl _))
theorem range_it {pins : List (Addr × Obj)} {σ : St} {H : Hp} {s : Shared} {R : It → Hp → Prop} {E : Value → Shared → Prop} {lo hi : Int} {t u v : Tok} {tk : Nat} (I : Inv X pins σ H s) (h1 : -(2 ^ 62) ≤ lo) (h2 : lo < 2 ^ 62) (h3 : -(2 ^ 62) ≤ hi) (h4 : hi < 2 ^ 62)
  (q : R (Itr lo (hi - lo).toNat) H) : wpAny (model X.prog X.w) X.A (pyIter (.ref s.heap.objs.size)) (PIE X pins σ tg R) E { s with heap := s.heap.push { cls := .type "range", data := .fields #[.int lo t, .int hi u, .int 1 v] }, toks := tk } := by
 refine wpAny_pyIter_range (IsRange.new ..) (small_one h1 h2 h3 h4) ?_
 have I1 : Inv X pins σ H { s with heap := s.heap.push { cls := .type "range", data := .fields #[.int lo t, .int hi u, .int 1 v] }, toks := tk } := I.kept fun b o e => Heap.get?_push_of_some _ e
 refine ⟨(s.heap.push { cls := .type "range", data := .fields #[.int lo t, .int hi u, .int 1 v] }).objs.size, [(s.heap.push { cls := .type "range", data := .fields #[.int lo t, .int hi u, .int 1 v] }).objs.size], _, _, H, rfl,
  I1.kept (t':=tk) fun b o e => Heap.get?_push_of_some _ e, turn_range _ lo (hi - lo).toNat, ?_, fun b hb => ?_, q⟩
 ·have e1 : lo + ((0 : Nat) : Int) * 1 = lo:=by simp
  have e2 : (((hi - lo).toNat : Nat) : Int) - ((0 : Nat) : Int) = Builtin.Range.rangeSize lo hi 1:=by rw [rangeSize_one]; split <;> omega
  show IsRangeIter _ _ (lo + ((0 : Nat) : Int) * 1) ((((hi - lo).toNat : Nat) : Int) - ((0 : Nat) : Int)) 1
  rw [e1, e2]
  exact Heap.get?_push_size _ rfl
 ·have e : b = (s.heap.push { cls := .type "range", data := .fields #[.int lo t, .int hi u, .int 1 v] }).objs.size := by simpa using hb
  subst e
  exact I1.fpOk (Nat.le_refl _) (I1.hok.fresh (Nat.le_refl _))
noncomputable def iRng1 (ta : TA) : TI:=fun σ H R => ta σ H fun vs H1 => ∃ j : Int, vs = [.int j] ∧ -(2 ^ 62) ≤ j ∧ j < 2 ^ 62 ∧ R (Itr 0 j.toNat) H1
theorem pi_range1 {a : Expr} {ta : TA} {p pos : Pos} (hg : Gl X "range") (hm : X.mg "range" = none) (ha : PA X [a] ta) (hs : starEach [a] X.env = [(false, eval a X.env)] := by rfl) : PI X tg (.Call (.Name "range" p) [a] [] pos) (iRng1 ta) := by
 intro pins s σ H R I h
 refine Call_ (ld_blt I hg hm boot_range (PyProof.Rows.callWith_type1 (thn (ha pos pins s σ H _ I h) fun us s1 ⟨vs, H1, I1, r1, q1⟩ => ?_) hs rfl))
 obtain ⟨j, e, q1, q2, q⟩:=q1
 subst e
 cases r1 with
 | cons r rr =>
  cases rr
  obtain ⟨t, rfl⟩:=r
  exact call_range_1 (range_it I1 (by omega) (by omega) q1 q2 (by simpa using q))
noncomputable def tFor (wi : TI) (g : TG) (tb : TS) : TS:=fun D σ H => wi σ H fun J H1 => ∃ W : Nat → Nat → St → Hp → Prop, (∃ m, W 0 m σ H1) ∧ ∀ i m σ H, W i m σ H →
 (J.stop i H ∧ D.nx σ H) ∨ (J.go i H ∧ ∃ N : St → Hp → Prop, (∀ σ' H', N σ' H' → ∃ m', m' < m ∧ W (i + 1) m' σ' H') ∧ ∀ x H', J.yld i H x H' → g x σ H' fun σ2 H2 => tb { D with nx:=N, ct:=N, bk:=D.nx } σ2 H2)
noncomputable def pinsAt (fp : List Addr) (h : Heap) : List (Addr × Obj):=fp.filterMap fun b => (h.get? b).map fun o => (b, o)
theorem mem_pinsAt {fp : List Addr} {h : Heap} {b : Addr} {o : Obj} (hb : b ∈ fp) (e : h.get? b = some o) : (b, o) ∈ pinsAt fp h:=List.mem_filterMap.mpr ⟨b, hb, by rw [e]; rfl⟩
theorem of_pinsAt {fp : List Addr} {h : Heap} {p : Addr × Obj} (hp : p ∈ pinsAt fp h) : p.1 ∈ fp ∧ h.get? p.1 = some p.2:=by
 obtain ⟨b, hb, e⟩:=List.mem_filterMap.mp hp
 cases q : h.get? b with
 | none => rw [q] at e; cases e
 | some o =>
  rw [q] at e
  have e' : (b, o) = p:=Option.some.inj e
  subst e'
  exact ⟨hb, q⟩
theorem Inv.pinned {pins : List (Addr × Obj)} {σ : St} {H : Hp} {s : Shared} {fp : List Addr} (I : Inv X pins σ H s) (hf : ∀ b ∈ fp, FpOk X pins H b) (ho : ∀ b ∈ fp, ∃ o, s.heap.get? b = some o ∧ ∀ v, o.data ≠ .cell v) : Inv X (pins ++ pinsAt fp s.heap) σ H s :=
 I.pins_of fun p hp => (List.mem_append.mp hp).elim (fun z => I.pin p (List.mem_append_right _ z)) fun z => by
  obtain ⟨hb, e⟩:=of_pinsAt z
  obtain ⟨f0, f1, f2, _⟩:=hf p.1 hb
  obtain ⟨o, e', d⟩:=ho p.1 hb
  rw [e] at e'; cases e'
  exact ⟨e, f0, f1, f2, d⟩
theorem Inv.unpinned {pins pl : List (Addr × Obj)} {σ : St} {H : Hp} {s : Shared} (I : Inv X (pins ++ pl) σ H s) : Inv X pins σ H s:=I.pins_of fun p hp => I.pin p (List.mem_append_right _ (List.mem_append_left _ hp))
theorem ps_for {iter : Expr} {body : List Stmt} {wi : TI} {g : TG} {tb : TS} {pos : Pos} (hp : PassesOwn (model X.prog X.w) X.A X.env X.xe) (hc : X.calm = true) (hi : PI X tg iter wi) (hg : PG X tg g) (hb : PSs X body tb)
  (hs : ∀ x, foldedSetIterable iter X.env x = pure x:=by intro _; rfl) : PS X (.For tg iter body [] pos) (tFor wi g tb):=by
 intro pins s σ H D I h
 refine wpAny_For (thn (hi pins s σ H _ I h) fun v s1 h1 => thn h1 fun itv s2 h2 => ?_) hs
 obtain ⟨it, fp, tn, J, H2, e, I2, T, st2, f2, W, ⟨m0, w0⟩, turn⟩:=h2
 subst e
 have stat : ∀ {H' : Hp}, (∀ b ∈ fp, H' b = none) → ∀ b ∈ fp, FpOk X pins H' b:=fun hn b hb => ⟨hn b hb, (f2 b hb).2⟩
 refine codeAny_forLoop_any (fun n s' => ∃ i σ' H', Inv X pins σ' H' s' ∧ tn i s'.heap ∧ (∀ b ∈ fp, H' b = none) ∧ W i n σ' H') ?_ m0 ⟨0, σ, H2, I2, st2, fun b hb => (f2 b hb).1, w0⟩
 rintro n s3 ⟨i, σ3, H3, I3, st3, fr3, w3⟩
 rcases turn i n σ3 H3 w3 with ⟨stop, qn⟩ | ⟨go, N, hN, step⟩
 ·refine wpAny_passesOwn hp (thn (T.done X rfl rfl rfl hc i pins s3 σ3 H3 X.xe I3 (stat fr3) st3 stop) fun r s4 ⟨hr, I4⟩ => ?_)
  subst hr
  exact wpAny_execs_nil ⟨σ3, H3, I4, qn⟩
 ·refine wpAny_passesOwn hp (thn (T.item X rfl rfl rfl hc i pins s3 σ3 H3 X.xe I3 (stat fr3) st3 go) fun r s4 ⟨u, hr, h4⟩ => ?_)
  subst hr
  refine wpAny_passesOwn hp (thn h4 fun _ s5 ⟨x, H5, I5, r5, y5, st5, fr5⟩ => ?_)
  have I5':=I5.pinned (stat fr5) (T.obj _ _ st5)
  refine wpAny_passesOwn hp (thn (hg _ s5 σ3 H5 x u _ I5' r5 (step x H5 y5)) fun _ s6 ⟨σ6, H6, I6, q6⟩ => ?_)
  refine wpAny_passesOwn hp (thn (hb _ s6 σ6 H6 _ I6 q6) fun f s7 q7 => ?_)
  have again : ∀ {σ7 : St} {H7 : Hp}, Inv X (pins ++ pinsAt fp s5.heap) σ7 H7 s7 → N σ7 H7 → ∃ m, m < n ∧ ∃ i σ' H', Inv X pins σ' H' s7 ∧ tn i s7.heap ∧ (∀ b ∈ fp, H' b = none) ∧ W i m σ' H':=fun {σ7 H7} I7 n7 => by
   obtain ⟨m', hm, w7⟩:=hN σ7 H7 n7
   refine ⟨m', hm, i + 1, σ7, H7, I7.unpinned, T.keep _ _ _ st5 fun b hb o e => (I7.pin (b, o) (List.mem_append_right _ (List.mem_append_right _ (mem_pinsAt hb e)))).1, fun b hb => ?_, w7⟩
   obtain ⟨o, e, d⟩:=T.obj _ _ st5 b hb
   exact (I7.pin (b, o) (List.mem_append_right _ (List.mem_append_right _ (mem_pinsAt hb e)))).2.1
  cases f with
  | next => obtain ⟨σ7, H7, I7, n7⟩:=q7; exact again I7 n7
  | cont => obtain ⟨σ7, H7, I7, n7⟩:=q7; exact again I7 n7
  | brk => obtain ⟨σ7, H7, I7, q7⟩:=q7; exact ⟨σ7, H7, I7.unpinned, q7⟩
  | ret v => obtain ⟨x7, σ7, H7, I7, r7, q7⟩:=q7; exact ⟨x7, σ7, H7, I7.unpinned, r7, q7⟩
end
end L2
namespace L2
open PySem PySem.Spec PyProof.Rows
noncomputable abbrev R2:=V → V → Hp → VK → Prop
noncomputable def OpR (X : Cx) (f : Value → Value → Sem Value) (r : R2) : Prop :=
 ∀ (pins : List (Addr × Obj)) (s : Shared) (σ : St) (H : Hp) (x y : V) (v u : Value) (Q : VK), Inv X pins σ H s → RelV x v → RelV y u → r x y H Q →
  wpAny (model X.prog X.w) X.A (f v u) (EP X pins σ Q) X.xe s
noncomputable def UnR (X : Cx) (f : Value → Sem Value) (r : V → Hp → VK → Prop) : Prop :=
 ∀ (pins : List (Addr × Obj)) (s : Shared) (σ : St) (H : Hp) (x : V) (v : Value) (Q : VK), Inv X pins σ H s → RelV x v → r x H Q →
  wpAny (model X.prog X.w) X.A (f v) (EP X pins σ Q) X.xe s
noncomputable def CallR (X : Cx) (f : Value) (r : List V → Hp → VK → Prop) : Prop :=
 ∀ (pins : List (Addr × Obj)) (s : Shared) (σ : St) (H : Hp) (xs : List V) (us : List Value) (Q : VK), Inv X pins σ H s → Vals xs us → r xs H Q →
  wpAny (model X.prog X.w) X.A (call f us) (EP X pins σ Q) X.xe s
noncomputable def tOp (r : R2) (ta tb : TE) : TE:=fun σ H Q => ta σ H fun x H1 => tb σ H1 fun y H2 => r x y H2 Q
noncomputable def tUn (r : V → Hp → VK → Prop) (ta : TE) : TE:=fun σ H Q => ta σ H fun x H1 => r x H1 Q
noncomputable def rI (C : Int → Int → Prop) (g : Int → Int → V) : R2:=fun x y H Q => ∃ i j, x = .int i ∧ y = .int j ∧ C i j ∧ Q (g i j) H
noncomputable def rI0 (g : Int → Int → V) : R2:=fun x y H Q => ∃ i j, x = .int i ∧ y = .int j ∧ Q (g i j) H
noncomputable def rU (g : Int → V) : V → Hp → VK → Prop:=fun x H Q => ∃ i, x = .int i ∧ Q (g i) H
section
variable {X : Cx} {a b c : Expr} {ta tb tc : TE} {pos : Pos}
theorem binT (ha : PE X a ta) (hb : PE X b tb) {pins : List (Addr × Obj)} {s : Shared} {σ : St} {H : Hp} {R : V → V → Hp → Prop} (I : Inv X pins σ H s)
  (h : ta σ H fun x H1 => tb σ H1 fun y H2 => R x y H2) {Q : Value → Shared → Prop} {f : Value → Value → Sem Value}
  (hf : ∀ v u s2 x y H2, Inv X pins σ H2 s2 → RelV x v → RelV y u → R x y H2 → wpAny (model X.prog X.w) X.A (f v u) Q X.xe s2) :
  wpAny (model X.prog X.w) X.A (eval a X.env) (fun v s₁ => wpAny (model X.prog X.w) X.A (eval b X.env) (fun u s₂ => wpAny (model X.prog X.w) X.A (f v u) Q X.xe s₂) X.xe s₁) X.xe s:=by
 refine thn (ha pins s σ H _ I h) fun v s1 ⟨x, H1, I1, r1, q1⟩ => ?_
 refine thn (hb pins s1 σ H1 _ I1 q1) fun u s2 ⟨y, H2, I2, r2, q2⟩ => ?_
 exact hf v u s2 x y H2 I2 r1 r2 q2
theorem pe_op {op : Operator} {r : R2} (ho : OpR X (binaryOp op) r) (ha : PE X a ta) (hb : PE X b tb) : PE X (.BinOp a op b pos) (tOp r ta tb):=by
 intro pins s σ H Q I h
 exact wpAny_BinOp (binT ha hb I h fun v u s2 x y H2 I2 rx ry q => ho pins s2 σ H2 x y v u Q I2 rx ry q)
theorem pe_un {op : UnaryOp} {r : V → Hp → VK → Prop} (ho : UnR X (unaryOp op) r) (ha : PE X a ta) : PE X (.UnaryOp op a pos) (tUn r ta):=by
 intro pins s σ H Q I h
 exact UnaryOp_ (thn (ha pins s σ H _ I h) fun v s1 ⟨x, H1, I1, r1, q1⟩ => ho pins s1 σ H1 x v Q I1 r1 q1)
theorem opI {f : Value → Value → Sem Value} {C : Int → Int → Prop} {g : Int → Int → Int}
  (rule : ∀ (i j : Int) (t u : Tok) (s : Shared) (Q : Value → Shared → Prop) (E : Value → Shared → Prop), C i j → Q (.int (g i j) s.toks) { s with toks:=s.toks + 1 } → wpAny (model X.prog X.w) X.A (f (.int i t) (.int j u)) Q E s) :
  OpR X f (rI C fun i j => .int (g i j)):=by
 intro pins s σ H x y v u Q I rx ry h
 obtain ⟨i, j, rfl, rfl, hc, q⟩:=h
 obtain ⟨t, rfl⟩:=rx
 obtain ⟨t', rfl⟩:=ry
 exact rule i j t t' s _ _ hc ⟨.int (g i j), H, I.tok _, ⟨_, rfl⟩, q⟩
theorem opI0 {f : Value → Value → Sem Value} {g : Int → Int → Int}
  (rule : ∀ (i j : Int) (t u : Tok) (s : Shared) (Q : Value → Shared → Prop) (E : Value → Shared → Prop), Q (.int (g i j) s.toks) { s with toks:=s.toks + 1 } → wpAny (model X.prog X.w) X.A (f (.int i t) (.int j u)) Q E s) :
  OpR X f (rI0 fun i j => .int (g i j)):=by
 intro pins s σ H x y v u Q I rx ry h
 obtain ⟨i, j, rfl, rfl, q⟩:=h
 obtain ⟨t, rfl⟩:=rx
 obtain ⟨t', rfl⟩:=ry
 exact rule i j t t' s _ _ ⟨.int (g i j), H, I.tok _, ⟨_, rfl⟩, q⟩
theorem opB0 {f : Value → Value → Sem Value} {g : Int → Int → Bool}
  (rule : ∀ (i j : Int) (t u : Tok) (s : Shared) (Q : Value → Shared → Prop) (E : Value → Shared → Prop), Q (.bool (g i j)) s → wpAny (model X.prog X.w) X.A (f (.int i t) (.int j u)) Q E s) :
  OpR X f (rI0 fun i j => .bl (g i j)):=by
 intro pins s σ H x y v u Q I rx ry h
 obtain ⟨i, j, rfl, rfl, q⟩:=h
 obtain ⟨t, rfl⟩:=rx
 obtain ⟨t', rfl⟩:=ry
 exact rule i j t t' s _ _ ⟨.bl (g i j), H, I, rfl, q⟩
noncomputable def CDiv (i j : Int) : Prop:=0 < j ∧ j < 1073741824
noncomputable def CMul (i j : Int) : Prop:=(-(2 ^ 64) < i ∧ i < 2 ^ 64) ∨ (-(2 ^ 64) < j ∧ j < 2 ^ 64)
theorem CMul.ok {i j : Int} (h : CMul i j) : IntMulOk i j:=by
 rcases h with ⟨h1, h2⟩ | ⟨h1, h2⟩
 ·exact .of_left (intBits_le_64 h1 h2)
 ·exact .of_right (intBits_le_64 h1 h2)
theorem op_add : OpR X (binaryOp .Add) (rI0 fun i j => .int (i + j)):=opI0 fun _ _ _ _ _ _ _ q => add_int q
theorem op_sub : OpR X (binaryOp .Sub) (rI0 fun i j => .int (i - j)):=opI0 fun _ _ _ _ _ _ _ q => sub_int q
theorem op_mul : OpR X (binaryOp .Mult) (rI CMul fun i j => .int (i * j)):=opI fun _ _ _ _ _ _ _ hc q => mul_int q hc.ok
theorem op_fdiv : OpR X (binaryOp .FloorDiv) (rI CDiv fun i j => .int (i / j)):=opI fun i j _ _ _ _ _ hc q => by
 have h1 : (0 : Int) < j:=hc.1
 have h2 : j < 1073741824:=hc.2
 exact floordiv_int (by omega) (by rw [Int.fdiv_eq_ediv_of_nonneg i (by omega)]; exact q) (.inl (PyProof.noPylong_small (by omega)))
theorem op_mod : OpR X (binaryOp .Mod) (rI (fun _ j => 0 < j) fun i j => .int (i % j)):=opI fun i j _ _ _ _ _ hc q => by
 have h1 : (0 : Int) < j:=hc
 exact mod_int' (by omega) (by rw [Int.fmod_eq_emod_of_nonneg i (by omega)]; exact q)
theorem unI {f : Value → Sem Value} {g : Int → Int}
  (rule : ∀ (i : Int) (t : Tok) (s : Shared) (Q : Value → Shared → Prop) (E : Value → Shared → Prop), Q (.int (g i) s.toks) { s with toks:=s.toks + 1 } → wpAny (model X.prog X.w) X.A (f (.int i t)) Q E s) :
  UnR X f (rU fun i => .int (g i)):=by
 intro pins s σ H x v Q I rx h
 obtain ⟨i, rfl, q⟩:=h
 obtain ⟨t, rfl⟩:=rx
 exact rule i t s _ _ ⟨.int (g i), H, I.tok _, ⟨_, rfl⟩, q⟩
theorem un_neg : UnR X (unaryOp .USub) (rU fun i => .int (-i)):=unI fun _ _ _ _ _ q => neg_int q
end
section
variable {X : Cx} {a b c : Expr} {ta tb tc : TE} {pos : Pos}
theorem op_le : OpR X (compareOp .LtE) (rI0 fun i j => .bl (decide (i ≤ j))):=opB0 fun _ _ _ _ _ _ _ q => le_int q
theorem op_gt : OpR X (compareOp .Gt) (rI0 fun i j => .bl (decide (j < i))):=opB0 fun _ _ _ _ _ _ _ q => gt_int q
theorem nomark (b : Expr) {op : CmpOp} (h : op ≠ .In:=by decide) (h2 : op ≠ .NotIn:=by decide) : behindInMarks op b = false:=by
 have e1 : (op == CmpOp.In) = false:=by cases op <;> first | rfl | exact absurd rfl h
 have e2 : (op == CmpOp.NotIn) = false:=by cases op <;> first | rfl | exact absurd rfl h2
 cases b <;> simp [behindInMarks, e1, e2]
theorem pe_cmpR {op : CmpOp} {r : R2} (ho : OpR X (compareOp op) r) (ha : PE X a ta) (hb : PE X b tb) (hm : behindInMarks op b = false) : PE X (.Compare a [op] [b] pos) (tOp r ta tb):=by
 intro pins s σ H Q I h
 exact wpAny_Compare1 (binT ha hb I h fun v u s2 x y H2 I2 rx ry q => ho pins s2 σ H2 x y v u Q I2 rx ry q) hm
noncomputable def tTest (t : TE) : TT:=fun σ H Q => t σ H fun x H' => ∃ k, x = .bl k ∧ Q k H'
theorem pt_cmpR {op : CmpOp} {r : R2} (ho : OpR X (compareOp op) r) (ha : PE X a ta) (hb : PE X b tb) (hm : behindInMarks op b = false) : PT X (.Compare a [op] [b] pos) (tTest (tOp r ta tb)):=by
 intro pins s σ H Q I h
 refine wpAny_isTrue_Compare1 (thn (ha pins s σ H _ I h) fun v s1 ⟨x, H1, I1, r1, q1⟩ => thn (hb pins s1 σ H1 _ I1 q1) fun u s2 ⟨y, H2, I2, r2, q2⟩ =>
  thn (ho pins s2 σ H2 x y v u _ I2 r1 r2 q2) fun c s3 ⟨z, H3, I3, r3, k, e, q3⟩ => ?_) hm
 subst e
 cases r3
 exact wpAny_truthy_bool ⟨H3, I3, q3⟩
noncomputable def tChain (r r' : R2) (ta tb tc : TE) : TE:=fun σ H Q => ta σ H fun x H1 => tb σ H1 fun y H2 => r x y H2 fun z H3 => ∃ k, z = .bl k ∧
 (if k = true then tc σ H3 fun w' H4 => r' y w' H4 Q else Q (.bl false) H3)
theorem pe_chain {op op' : CmpOp} {r r' : R2} (ho : OpR X (compareOp op) r) (ho' : OpR X (compareOp op') r') (ha : PE X a ta) (hb : PE X b tb) (hc : PE X c tc)
  (hm : lastMarks [op, op'] [b, c] = false:=by with_unfolding_all rfl) : PE X (.Compare a [op, op'] [b, c] pos) (tChain r r' ta tb tc):=by
 intro pins s σ H Q I h
 refine Compare_chain (thn (ha pins s σ H _ I h) fun v s1 ⟨x, H1, I1, r1, q1⟩ => chain_link (thn (hb pins s1 σ H1 _ I1 q1) fun u s2 ⟨y, H2, I2, r2, q2⟩ =>
  thn (ho pins s2 σ H2 x y v u _ I2 r1 r2 q2) fun d s3 ⟨z, H3, I3, r3, k, e, q3⟩ => ?_)) hm
 subst e
 cases r3
 refine wpAny_truthy_bool ?_
 cases k with
 | false => exact ite_ff ⟨.bl false, H3, I3, rfl, q3⟩
 | true => exact ite_tt (chain_last (thn (hc pins s3 σ H3 _ I3 q3) fun w' s4 ⟨z', H4, I4, r4, q4⟩ => ho' pins s4 σ H4 y z' u w' Q I4 r2 r4 q4))
theorem pt_chain {op op' : CmpOp} {r r' : R2} (ho : OpR X (compareOp op) r) (ho' : OpR X (compareOp op') r') (ha : PE X a ta) (hb : PE X b tb) (hc : PE X c tc)
  (hm : lastMarks [op, op'] [b, c] = false:=by with_unfolding_all rfl) : PT X (.Compare a [op, op'] [b, c] pos) (tTest (tChain r r' ta tb tc)):=by
 intro pins s σ H Q I h
 refine isTrue_chain (thn (ha pins s σ H _ I h) fun v s1 ⟨x, H1, I1, r1, q1⟩ => test_link (thn (hb pins s1 σ H1 _ I1 q1) fun u s2 ⟨y, H2, I2, r2, q2⟩ =>
  thn (ho pins s2 σ H2 x y v u _ I2 r1 r2 q2) fun d s3 ⟨z, H3, I3, r3, k, e, q3⟩ => ?_)) hm
 subst e
 cases r3
 refine wpAny_truthy_bool ?_
 cases k with
 | false =>
  obtain ⟨k', e', q'⟩:=q3
  cases e'
  exact ite_ff ⟨H3, I3, q'⟩
 | true =>
  refine ite_tt (test_last (thn (hc pins s3 σ H3 _ I3 q3) fun w' s4 ⟨z', H4, I4, r4, q4⟩ => thn (ho' pins s4 σ H4 y z' u w' _ I4 r2 r4 q4) fun d' s5 ⟨z2, H5, I5, r5, k2, e2, q5⟩ => ?_))
  subst e2
  cases r5
  exact wpAny_truthy_bool ⟨H5, I5, q5⟩
theorem line63 : (sizeLine : Nat) < 2 ^ 63:=by rw [sizeLine_eq]; decide
theorem op_add_str : OpR X (binaryOp .Add) (fun x y H Q => ∃ i j, x = .str i ∧ y = .str j ∧ i.length + j.length ≤ sizeLine ∧ Q (.str (i ++ j)) H):=by
 intro pins s σ H x y v u Q I rx ry h
 obtain ⟨i, j, rfl, rfl, hz, q⟩:=h
 obtain ⟨t, rfl⟩:=rx
 obtain ⟨t', rfl⟩:=ry
 exact add_str (fun t' tk => ⟨.str (i ++ j), H, I.tok _, ⟨_, rfl⟩, q⟩) hz
theorem vals1 {x : V} {us : List Value} (r : Vals [x] us) : ∃ u, us = [u] ∧ RelV x u:=by
 cases r with
 | cons r1 r2 => cases r2; exact ⟨_, rfl, r1⟩
theorem vals2 {x y : V} {us : List Value} (r : Vals [x, y] us) : ∃ u w', us = [u, w'] ∧ RelV x u ∧ RelV y w':=by
 cases r with
 | cons r1 r2 =>
  cases r2 with
  | cons r3 r4 => cases r4; exact ⟨_, _, rfl, r1, r3⟩
end
end L2
namespace L2
open PySem PySem.Spec PyProof.Rows
structure ObjM (h : Heap) (x dx C : Addr) (mA : Str → Option Value) : Prop where
 obj : h.get? x = some (PySem.W.instObj C dx)
 ns : h.Ns1 dx mA
 ne : dx ≠ x
theorem lookIn_ns {h : Heap} {dx : Addr} {mA : Str → Option Value} (n : h.Ns1 dx mA) : ∃ od, h.get? dx = some od ∧ ∀ name, PySem.W.lookIn name od = some (mA name):=by
 obtain ⟨o, es, ep, ho, hd, hk, _, hm⟩:=n
 refine ⟨o, ho, fun name => ?_⟩
 have e:=hm name
 unfold nsFind findBy at e
 rw [← Array.find?_toList] at e
 unfold PySem.W.lookIn
 rw [hd]
 dsimp only
 split
 ·rename_i y q
  rw [q] at e
  exact congrArg some e
 ·rename_i q
  rw [q] at e
  have a : es.toList.any (·.refKey) = false:=by
   rw [List.any_eq_false]
   intro y hy
   obtain ⟨z, t, hkey⟩:=hk y (Array.mem_toList_iff.mp hy)
   simp [DictEntry.refKey, hkey]
  have a' : ¬ es.toList.any (·.refKey) = true:=by rw [a]; exact Bool.false_ne_true
  rw [if_neg a']
  exact congrArg some e
theorem ObjM.look {h : Heap} {x dx C : Addr} {mA : Str → Option Value} (I : ObjM h x dx C mA) : ∃ od, PySem.W.InstAt h x (PySem.W.instObj C dx) C (some od) ∧ ∀ name, PySem.W.lookIn name od = some (mA name) :=
 let ⟨od, ho, hl⟩:=lookIn_ns I.ns
 ⟨od, ⟨I.obj, rfl, rfl, ho⟩, hl⟩
section
variable {prog : Program} {w : World} {A : Around} {E : Value → Shared → Prop} {s : Shared} {K : PySem.W.Frag} {x dx C f : Addr} {mA : Str → Option Value} {name : Str} {v : Value}
end
noncomputable def putF (f : Str) (v : V) : List (Str × V) → List (Str × V)
 | [] => [(f, v)]
 | (g, x) :: r => if g = f then (g, v) :: r else (g, x) :: putF f v r
section
variable {P : Program} {w : World} {H H' : Hp} {h h' : Heap} {a C dx : Addr} {fs fs' : List (Str × V)}
theorem ins_get (hok : HOk P w H h) (e : H a = some (.ins C dx fs)) : ∃ mA, ObjM h a dx C mA ∧ (∀ f, RelO (fs.lookup f) (mA f)) ∧ PySem.Within mA (fs.map (·.1)) ∧ fs.length ≤ 1000 ∧ H dx = some (.own a):=by
 obtain ⟨d, z, ne, ob, mA, n, r, q⟩:=(show ObjOk P w H h a (.ins C dx fs) from hok a _ e)
 exact ⟨mA, ⟨ob, n, ne⟩, r, q, z, d⟩
end
structure Cls (K : PySem.W.Frag) (C : Addr) : Prop where
 pg : PySem.W.plainGet K C Str.empty = true
 hd : PySem.W.hasDictIn K C = true
 po : PySem.W.plainOver K C = true
 sa : PySem.W.findIn K (.ref C) "__setattr__" = some (some (.builtin "object.__setattr__"))
theorem Cls.get {K : PySem.W.Frag} {C : Addr} (c : Cls K C) (f : Str) : PySem.W.plainGet K C f = true:=c.pg
structure Con (K : PySem.W.Frag) (C : Addr) (f : Str) (v : V) (u : Value) : Prop where
 at_ : PySem.W.findIn K (.ref C) f = some (some u)
 rel : RelV v u
 get : PySem.W.specialIn K u "__get__" = some none
 cp : PySem.W.copiedNames.contains f = false
structure Meth (K : PySem.W.Frag) (C : Addr) (m : Str) (f : Addr) : Prop where
 at_ : PySem.W.findIn K (.ref C) m = some (some (.ref f))
 fn : PySem.W.isFn K (.ref f) = true
 kp : PySem.W.keepIn K (.ref f) = true
section
variable {X : Cx} {pins : List (Addr × Obj)} {σ : St} {H : Hp} {s : Shared} {a C dx : Addr} {fs : List (Str × V)} {f : Str} {v : V} {A : Around} {E : Value → Shared → Prop}
end
section
variable {X : Cx} {o e value : Expr} {f : Str} {pos pos' tpos : Pos} {ta tv : TE}
end
section
variable {X : Cx} {pins : List (Addr × Obj)} {σ : St} {H : Hp} {s : Shared} {A : Around} {E : Value → Shared → Prop} {Q : Value → Shared → Prop} {c : Value} {b : Bool}
inductive TyOf (K : PySem.W.Frag) (H : Hp) : V → Value → Prop where
 | non : TyOf K H .non (.type "NoneType")
 | bl (x : Bool) : TyOf K H (.bl x) (.type "bool")
 | int (i : Int) : TyOf K H (.int i) (.type "int")
 | str (x : Str) : TyOf K H (.str x) (.type "str")
 | flt (x : UInt64) : TyOf K H (.flt x) (.type "float")
 | lst {a : Addr} {xs : List V} (e : H a = some (.lst xs)) : TyOf K H (.ref a) (.type "list")
 | frz {a : Addr} {o : Obj} {xs : List V} (e : H a = some (.frz o (.lst xs))) : TyOf K H (.ref a) (.type "list")
 | tup {a : Addr} {xs : List V} (e : H a = some (.tup xs)) : TyOf K H (.ref a) (.type "tuple")
 | dK {a : Addr} {kvs : List (Key × V)} (e : H a = some (.dK kvs)) : TyOf K H (.ref a) (.type "dict")
 | dT {a : Addr} {kvs : List (List Key × V)} (e : H a = some (.dT kvs)) : TyOf K H (.ref a) (.type "dict")
 | ins {a C dx : Addr} {fs : List (Str × V)} (e : H a = some (.ins C dx fs)) (cl : Cls K C) (ha : PySem.W.findIn K (.ref C) "__class__" = some (some (.builtin "object.__class__")))
   (hn : PySem.W.specialIn K (.builtin "object.__class__") "__get__" = some (some (.builtin "getset_descriptor.__get__"))) (htk : PySem.W.takesIn K (.builtin "object.__class__") = some true)
   (hm : PySem.W.mroIn K C (.type "object") = some true) : TyOf K H (.ref a) (.ref C)
theorem isinst_ok {x : V} {u t : Value} (I : Inv X pins σ H s) (rx : RelV x u) (ty : TyOf X.K H x t) (e : PySem.W.kitOne X.K t c = some b) (h : ∀ tk, Q (.bool b) { s with toks:=tk }) :
  wpAny (model X.prog X.w) A (call (.builtin "isinstance") [u, c]) Q E s := by
 cases ty with
 | non => cases (show u = Value.none from rx); exact PySem.W.kia_one PySem.W.kitx_none I.kIn True.intro e (fun z => nomatch z) h
 | bl y => cases (show u = Value.bool y from rx); exact PySem.W.kia_one PySem.W.kitx_bool I.kIn True.intro e (fun z => nomatch z) h
 | int i => obtain ⟨t, q⟩:=(show ∃ t, u = Value.int i t from rx); cases q; exact PySem.W.kia_one PySem.W.kitx_int I.kIn True.intro e (fun z => nomatch z) h
 | str y => obtain ⟨t, q⟩:=(show ∃ t, u = Value.str y t from rx); cases q; exact PySem.W.kia_one PySem.W.kitx_str I.kIn True.intro e (fun z => nomatch z) h
 | flt y => obtain ⟨t, q⟩:=(show ∃ t, u = Value.float y t from rx); cases q; exact PySem.W.kia_one PySem.W.kitx_float I.kIn True.intro e (fun z => nomatch z) h
 | @lst a xs ea =>
  cases (show u = Value.ref a from rx)
  obtain ⟨_, _, n, _, h1⟩:=(show ObjOk X.prog X.w H s.heap a (.lst xs) from I.hok a _ ea)
  exact PySem.W.kia_one PySem.W.kitx_list I.kIn ⟨_, h1, rfl⟩ e (fun z => nomatch z) h
 | @frz a ob xs ea =>
  cases (show u = Value.ref a from rx)
  obtain ⟨_, _, _, n, _, h1⟩:=(show ObjOk X.prog X.w H s.heap a (.frz ob (.lst xs)) from I.hok a _ ea)
  exact PySem.W.kia_one PySem.W.kitx_list I.kIn ⟨_, h1, rfl⟩ e (fun z => nomatch z) h
 | @tup a xs ea =>
  cases (show u = Value.ref a from rx)
  obtain ⟨_, _, _, p, _⟩:=(show ObjOk X.prog X.w H s.heap a (.tup xs) from I.hok a _ ea)
  obtain ⟨o, h1, h2, _⟩:=p
  exact PySem.W.kia_one PySem.W.kitx_tuple I.kIn ⟨o, h1, h2⟩ e (fun z => nomatch z) h
 | @dK a kvs ea =>
  cases (show u = Value.ref a from rx)
  obtain ⟨_, _, vs, _, p⟩:=(show ObjOk X.prog X.w H s.heap a (.dK kvs) from I.hok a _ ea)
  obtain ⟨o, es, ep, h1, h2, _⟩:=p
  exact PySem.W.kia_one PySem.W.kitx_dict I.kIn ⟨o, h1, h2.1⟩ e (fun z => nomatch z) h
 | @dT a kvs ea =>
  cases (show u = Value.ref a from rx)
  obtain ⟨_, _, xs, _, o, es, ep, h1, h2, _⟩:=(show ObjOk X.prog X.w H s.heap a (.dT kvs) from I.hok a _ ea)
  exact PySem.W.kia_one PySem.W.kitx_dict I.kIn ⟨o, h1, h2.1⟩ e (fun z => nomatch z) h
 | @ins a C dx fs ea cl ha hn htk hm =>
  cases (show u = Value.ref a from rx)
  obtain ⟨mA, O, _⟩:=ins_get I.hok ea
  obtain ⟨od, J, _⟩:=O.look
  exact PySem.W.kia_one (PySem.W.kitx_own (cl.get _) cl.hd ha hn htk hm) I.kIn J e (fun z => nomatch z) h
end
end L2
namespace L2
open PySem PySem.Spec PyProof.Rows
structure Room (k : Nat) (A : Around) : Prop where
 hd : A.handled = none
 dp : A.depth + 3 * k + 5 < recursionLimit
 un : A.units + 16 * k + 200 < cLine
theorem Room.mono {j k : Nat} {A : Around} (r : Room k A) (h : j ≤ k) : Room j A:=⟨r.hd, by have:=r.dp; omega, by have:=r.un; omega⟩
theorem Room.deeper {k : Nat} {A : Around} (r : Room (k + 1) A) (env : Env) : Room k (A.deeper env) :=
 ⟨r.hd, by have:=r.dp; show A.depth + 1 + 3 * k + 5 < _; omega, by have:=r.un; show A.units + 3 + 16 * k + 200 < _; omega⟩
theorem Room.depth {k : Nat} {A : Around} (r : Room k A) : A.depth < recursionLimit:=by have:=r.dp; omega
theorem Room.units {k : Nat} {A : Around} (r : Room k A) : A.units + 64 < cLine:=by have:=r.un; omega
noncomputable def tNil : TA:=fun _ H Q => Q [] H
noncomputable def tCons (ta : TE) (tr : TA) : TA:=fun σ H Q => ta σ H fun x H1 => tr σ H1 fun xs H2 => Q (x :: xs) H2
section
variable {X : Cx} {e : Expr} {es : List Expr} {te : TE} {t : TA} {pos : Pos}
theorem pa_nil : PA X [] tNil:=fun _ _ _ _ H Q I h => Calls.spliced_nil ⟨[], H, I, .nil, h⟩
theorem pa_cons (ha : PE X e te) (hr : PA X es t) (hs : starEach (e :: es) X.env = (false, eval e X.env) :: starEach es X.env:=by rfl) : PA X (e :: es) (tCons te t):=by
 intro pos pins s σ H Q I h
 rw [hs]
 show wpAny _ _ (spliced ((false, eval e X.env) :: backTo pos (starEach es X.env))) _ _ s
 refine Calls.spliced_cons (thn (ha pins s σ H _ I h) fun u s1 ⟨x, H1, I1, r1, q1⟩ => ?_)
 exact thn (hr pos pins s1 σ H1 _ I1 q1) fun us s2 ⟨xs, H2, I2, r2, q2⟩ => ⟨x :: xs, H2, I2, .cons r1 r2, q2⟩
noncomputable def tTup (t : TA) : TE:=fun σ H Q => t σ H fun xs H1 => xs.length ≤ sizeLine ∧ ∀ p, H1 p = none → Q (.ref p) (upd H1 p (.tup xs))
noncomputable def tLst (t : TA) : TE:=fun σ H Q => t σ H fun xs H1 => xs.length ≤ sizeLine ∧ ∀ p, H1 p = none → Q (.ref p) (upd H1 p (.lst xs))
theorem pe_tup {x1} (h : PA X es t) : PE X (.Tuple es x1 pos) (tTup t):=by
 intro pins s σ H Q I hq
 refine wpAny_Tuple_spliced (thn (h pos pins s σ H _ I hq) fun us s1 ⟨xs, H1, I1, r, z, q⟩ => ⟨by rw [← r.length]; exact z, ?_⟩)
 have hf : H1 s1.heap.objs.size = none:=I1.hok.fresh (Nat.le_refl _)
 refine ⟨.ref s1.heap.objs.size, upd H1 s1.heap.objs.size (.tup xs), I1.laid (t':=s1.toks) (fun b u e => Heap.get?_push_of_some _ e) (Nat.le_refl _) ?_, rfl, q _ hf⟩
 exact ⟨z, us, r, ⟨_, Heap.get?_push_size _ rfl, rfl, _, rfl⟩, fun o2 e2 => by rw [Heap.get?_push_size _ rfl] at e2; cases e2; rfl⟩
theorem pe_lst (h : PA X es t) : PE X (.List es pos) (tLst t):=by
 intro pins s σ H Q I hq
 refine wpAny_List_spliced (thn (h pos pins s σ H _ I hq) fun us s1 ⟨xs, H1, I1, r, z, q⟩ => ⟨by rw [← r.length]; exact z, ?_⟩)
 have hf : H1 s1.heap.objs.size = none:=I1.hok.fresh (Nat.le_refl _)
 refine ⟨.ref s1.heap.objs.size, upd H1 s1.heap.objs.size (.lst xs), I1.laid (t':=s1.toks) (fun b u e => Heap.get?_push_of_some _ e) (Nat.le_refl _) ?_, rfl, q _ hf⟩
 exact ⟨z, us, 0, r, Heap.get?_push_size _ rfl⟩
end
noncomputable abbrev Sp:=List V → Hp → VK → XK → Prop
noncomputable abbrev CXT:=List Env → Hp → Shared → XK → Value → Shared → Prop
structure Env0 (P : Program) (w : World) (K : PySem.W.Frag) (mg : Str → Option Value) (base : Heap) (A : Around) (outer : List Env) (s : Shared) (H : Hp) : Prop where
 frames : A.frames = some outer
 mod : Mod K mg base
 bs : ∀ b o, base.get? b = some o → s.heap.get? b = some o ∧ H b = none
 bsz : base.objs.size ≤ s.heap.objs.size
 funs : s.heap.FunFrames base outer
 frf : ∀ b ∈ frs outer, H b = none
 hok : HOk P w H s.heap
 bare : AllBare s.gens
noncomputable def CE (outer : List Env) (P : Program) (w : World) (H : Hp) (s : Shared) (Q : VK) (u : Value) (s' : Shared) : Prop :=
 ∃ v H', s'.os = s.os ∧ AllBare s'.gens ∧ Un (frs outer) [] H H' s.heap s'.heap ∧ HOk P w H' s'.heap ∧ RelV v u ∧ Q v H'
noncomputable def CR (CX : CXT) (outer : List Env) (P : Program) (w : World) (H : Hp) (s : Shared) (Q : VK) (E : XK) (r : Result) (s' : Shared) : Prop :=
 match r with
 | .ok (.ret u) => CE outer P w H s Q u s'
 | .ok _ => False
 | .error e => CX outer H s E e s'
structure FnOk (P : Program) (w : World) (K : PySem.W.Frag) (mg : Str → Option Value) (base : Heap) (CX : CXT) (k : Nat) (f : Addr) (fd : FuncData) (ps : List Str) (sp : Sp) : Prop where
 len : ∀ vs H Q E, sp vs H Q E → vs.length = ps.length
 run : ∀ (A : Around) (outer : List Env) (s : Shared) (H : Hp) (args : Args) (us : List Value) (vs : List V) (Q : VK) (E : XK), Room k A → Env0 P w K mg base A outer s H → BindsTo s fd args (ps.zip us) → Vals vs us → sp vs H Q E →
  codeAny (model P w) A (.call (.ref f) args) (CR CX outer P w H s Q E) s
section
variable {X : Cx} {pins : List (Addr × Obj)} {σ : St} {H : Hp} {s s' : Shared}
theorem Inv.env0 (I : Inv X pins σ H s) : Env0 X.prog X.w X.K X.mg X.base X.A X.stack s H :=
 ⟨I.ok.frames, I.ok.mod, I.bs, Nat.le_trans I.ok.bsz I.sz, I.stack, I.stkFree, I.hok, I.bare⟩
theorem Inv.after {Q : VK} {u : Value} (I : Inv X pins σ H s) (h : CE X.stack X.prog X.w H s Q u s') : EP X pins σ Q u s':=by
 obtain ⟨v, H', os, bare, un, hok, r, q⟩:=h
 obtain ⟨hh, g, d, t, os'⟩:=s'
 obtain rfl : os' = s.os:=os
 exact ⟨v, H', I.call (h':=hh) (g':=g) (d':=d) (t':=t) (ch:=[]) un hok bare (fun b z => absurd z (by simp)), r, q⟩
end
noncomputable def tCall (sp : Sp) (dvs : List V) (E : XK) (t : TA) : TE:=fun σ H Q => t σ H fun vs H1 => sp (vs ++ dvs) H1 Q E
noncomputable def Binds (K : PySem.W.Frag) (fd : FuncData) (ps : List Str) (ds : List Value) : Prop :=
 ∀ (s : Shared) (us : List Value), K.In s.heap → (us ++ ds).length = ps.length → BindsTo s fd ⟨us, []⟩ (ps.zip (us ++ ds))
theorem Binds.all {K : PySem.W.Frag} {fd : FuncData} {ps : List Str} (h : ∀ us : List Value, us.length = ps.length → bindArgs fd ⟨us, []⟩ = pure (ps.zip us)) : Binds K fd ps []:=fun s us _ hl => by
 rw [List.append_nil] at hl ⊢
 exact .of_eq (h us hl)
noncomputable def Passes (CX : CXT) (X : Cx) (E : XK) : Prop:=∀ (pins : List (Addr × Obj)) (σ : St) (H : Hp) (s : Shared) (e : Value) (s' : Shared), Inv X pins σ H s → CX X.stack H s E e s' → X.xe e s'
section
variable {X : Cx} {CX : CXT} {k : Nat} {f C : Addr} {fd : FuncData} {ps : List Str} {sp : Sp} {dvs : List V} {ds : List Value} {E : XK} {x m : Str} {p pos apos : Pos} {e o : Expr} {es : List Expr} {ta : TE} {t : TA}
theorem run_fn {pins : List (Addr × Obj)} {σ : St} {H : Hp} {s : Shared} {Q : VK} {us : List Value} {vs : List V} (F : FnOk X.prog X.w X.K X.mg X.base CX k f fd ps sp) (hr : Room k X.A) (hb : Binds X.K fd ps ds) (hd : Vals dvs ds) (hx : Passes CX X E)
  (I : Inv X pins σ H s) (r : Vals vs us) (h : sp (vs ++ dvs) H Q E) : wpAny (model X.prog X.w) X.A (call (.ref f) us) (EP X pins σ Q) X.xe s:=by
 have r2 : Vals (vs ++ dvs) (us ++ ds):=r.append hd
 have hl : (us ++ ds).length = ps.length:=by rw [← r2.length]; exact F.len _ _ _ _ h
 refine wpAny_call (codeAny_mono (F.run X.A X.stack s H ⟨us, []⟩ (us ++ ds) (vs ++ dvs) Q E hr I.env0 (hb s us I.kIn hl) r2 h) fun r s' hq => ?_)
 cases r with
 | error e => exact hx pins σ H s e s' I hq
 | ok fl =>
  cases fl with
  | ret u => exact I.after hq
  | next => exact False.elim hq
  | brk => exact False.elim hq
  | cont => exact False.elim hq
theorem pe_call (F : FnOk X.prog X.w X.K X.mg X.base CX k f fd ps sp) (hr : Room k X.A) (hg : Gl X x) (hm : X.mg x = some (.ref f)) (hk : PySem.W.keepIn X.K (.ref f) = true) (hb : Binds X.K fd ps ds) (hd : Vals dvs ds) (hx : Passes CX X E)
  (ha : PA X (e :: es) t) (hdb : (x == ("__debug__" : Str)) = false := by decide) (he : starEach (e :: es) X.env = (false, eval e X.env) :: starEach es X.env := by rfl) (hpl : (backTo pos (starEach es X.env)).any (·.1) = false := by rfl) :
  PE X (.Call (.Name x p) (e :: es) [] pos) (tCall sp dvs E t):=by
 intro pins s σ H Q I h
 refine wpAny_Call_Name_kw (ld_glob I hg hm ?_ hdb)
 refine PySem.W.callWith_K (h₀:=X.base) I.ok.mod.kin hk (thn (ha pos pins s σ H _ I h) fun us s1 ⟨vs, H1, I1, r, q⟩ => ⟨I1.kIn, ?_⟩) he hpl
 exact run_fn F hr hb hd hx I1 r q
structure Mk (K : PySem.W.Frag) (C f : Addr) : Prop where
 makes : PySem.W.makesIn K C = true
 init : PySem.W.findIn K (.ref C) "__init__" = some (some (.ref f))
 fn : PySem.W.isFn K (.ref f) = true
 kp : PySem.W.keepIn K (.ref C) = true
end
section
variable {X : Cx} {CX : CXT} {k : Nat} {f C : Addr} {fd : FuncData} {ps ks : List Str} {sp : Sp} {E : XK} {x m : Str} {p pos apos kpos : Pos} {e o : Expr} {es : List Expr} {kws : List Keyword} {te ta : TE} {t tk : TA} {nm : Option Str}
structure KBinds (K : PySem.W.Frag) (fd : FuncData) (ps ks : List Str) (g : List Value → List Value → List Value) (gV : List V → List V → List V) : Prop where
 to : ∀ (s : Shared) (us ws : List Value), K.In s.heap → (g us ws).length = ps.length → BindsTo s fd ⟨us, ks.zip ws⟩ (ps.zip (g us ws))
 rel : ∀ {vs : List V} {us : List Value} {zs : List V} {ws : List Value}, Vals vs us → Vals zs ws → Vals (gV vs zs) (g us ws)
variable {g : List Value → List Value → List Value} {gV : List V → List V → List V}
end
structure FnScope (N P : List Str) (sc : Scope) : Prop where
 kind : sc.kind = .function
 co : sc.isCoroutine = false
 gen : sc.isGenerator = false
 nd : N.Nodup
 pre : N.take P.length = P
 par : ∀ x ∈ P, sc.names.lookup x = some .local ∨ sc.names.lookup x = some .cell
 nofree : ∀ y ∈ sc.names, y.2 ≠ .free
theorem bindL_out {kindOf : Str → Option NameKind} {x : Str} : ∀ {binds : List (Str × Value)} {m : Str → Option Value}, (∀ v, (x, v) ∉ binds) → bindL kindOf binds m x = m x
 | [], _, _ => rfl
 | (n, v) :: r, m, h => by
  unfold bindL
  rw [bindL_out fun w hw => h w (List.mem_cons_of_mem _ hw)]
  split
  ·have : x ≠ n:=by rintro rfl; exact h v List.mem_cons_self
   simp [this]
  ·rfl
theorem bindC_out {kindOf : Str → Option NameKind} {x : Str} : ∀ {binds : List (Str × Value)} {m : Str → Option Value}, (∀ v, (x, v) ∉ binds) → bindC kindOf binds m x = m x
 | [], _, _ => rfl
 | (n, v) :: r, m, h => by
  unfold bindC
  rw [bindC_out fun w hw => h w (List.mem_cons_of_mem _ hw)]
  split
  ·rfl
  ·have : x ≠ n:=by rintro rfl; exact h v List.mem_cons_self
   simp [this]
theorem bindL_get {kindOf : Str → Option NameKind} {x : Str} {v : Value} : ∀ {P : List Str} {vs : List Value} {i : Nat} {m : Str → Option Value}, P.Nodup → P[i]? = some x → vs[i]? = some v → kindOf x = some .local →
  bindL kindOf (P.zip vs) m x = some v
 | [], _, _, _, _, h, _, _ => by simp at h
 | _ :: _, [], _, _, _, _, h, _ => by simp at h
 | p :: P, w :: vs, 0, m, nd, h1, h2, hk => by
  simp at h1 h2; subst h1; subst h2
  show bindL kindOf ((p, w) :: P.zip vs) m p = _
  unfold bindL
  rw [bindL_out fun v hv => (List.nodup_cons.mp nd).1 (List.of_mem_zip hv).1, if_pos hk]
  simp
 | p :: P, w :: vs, i + 1, m, nd, h1, h2, hk => by
  show bindL kindOf ((p, w) :: P.zip vs) m x = _
  unfold bindL
  exact bindL_get (i:=i) (List.nodup_cons.mp nd).2 (by simpa using h1) (by simpa using h2) hk
theorem bindC_get {kindOf : Str → Option NameKind} {x : Str} {v : Value} : ∀ {P : List Str} {vs : List Value} {i : Nat} {m : Str → Option Value}, P.Nodup → P[i]? = some x → vs[i]? = some v → kindOf x ≠ some .local →
  bindC kindOf (P.zip vs) m x = some v
 | [], _, _, _, _, h, _, _ => by simp at h
 | _ :: _, [], _, _, _, _, h, _ => by simp at h
 | p :: P, w :: vs, 0, m, nd, h1, h2, hk => by
  simp at h1 h2; subst h1; subst h2
  show bindC kindOf ((p, w) :: P.zip vs) m p = _
  unfold bindC
  rw [bindC_out fun v hv => (List.nodup_cons.mp nd).1 (List.of_mem_zip hv).1, if_neg hk]
  simp
 | p :: P, w :: vs, i + 1, m, nd, h1, h2, hk => by
  show bindC kindOf ((p, w) :: P.zip vs) m x = _
  unfold bindC
  exact bindC_get (i:=i) (List.nodup_cons.mp nd).2 (by simpa using h1) (by simpa using h2) hk
noncomputable def start (N : List Str) (vs : List V) : St:=vs.map some ++ List.replicate (N.length - vs.length) none
noncomputable def cxOf (CX : CXT) (P : Program) (w : World) (K : PySem.W.Frag) (mg : Str → Option Value) (base : Heap) (N : List Str) (qual : Str) (scope : Scope) (f : Addr) (cd : Value) (A : Around) (outer : List Env) (s : Shared) (H : Hp) (E : XK) : Cx where
 prog:=P
 w:=w
 K:=K
 mg:=mg
 base:=base
 A:=A.deeper (envOfC qual scope s.heap.objs.size f cd)
 N:=N
 s₀:=s
 H₀:=H
 env:=envOfC qual scope s.heap.objs.size f cd
 outer:=outer
 stack:=envOfC qual scope s.heap.objs.size f cd :: outer
 ex:=[]
 calm:=true
 fn:=fun _ => true
 pn:=[]
 xe:=fun e s' => wpAny (model P w) (A.deeper (envOfC qual scope s.heap.objs.size f cd)) (leaving (envOfC qual scope s.heap.objs.size f cd) e) (fun _ s'' => CX outer H s E e s'') (fun e' s'' => CX outer H s E e' s'') s'
theorem cell_has {sc : Scope} {n : Nat} {x : Str} (h : sc.names.lookup x = some .cell) : ∃ c, (cellsFrom n sc.names []).lookup x = some c:=by
 have q:=PySem.W.cellsFrom_some sc.names n [] (.inl h)
 exact Option.isSome_iff_exists.mp q
theorem inv_start {CX : CXT} {P : Program} {w : World} {K : PySem.W.Frag} {mg : Str → Option Value} {base : Heap} {N ps : List Str} {qual : Str} {scope : Scope} {f : Addr} {cd : Value} {A : Around} {outer : List Env} {s s1 : Shared} {H : Hp} {E : XK} {us : List Value} {vs : List V}
  (S : FnScope N ps scope) (hd : A.handled = none) (e0 : Env0 P w K mg base A outer s H) (hl : vs.length = ps.length) (r : Vals vs us)
  (x : InCallC s s.heap.objs.size (bindL (envOfC qual scope s.heap.objs.size f cd).kindOf (ps.zip us) fun _ => none) (cellsFrom (s.heap.objs.size + 1) scope.names []) (bindC (envOfC qual scope s.heap.objs.size f cd).kindOf (ps.zip us) fun _ => none) s1) :
  Inv (cxOf CX P w K mg base N qual scope f cd A outer s H E) [] (start N vs) H s1:=by
 have hpl : ps.length ≤ N.length:=by have:=congrArg List.length S.pre; rw [List.length_take] at this; omega
 obtain ⟨h1, tk, rfl, hk⟩:=x.done
 have noA : ∀ b : Addr, b ∉ (cxOf CX P w K mg base N qual scope f cd A outer s H E).ex:=fun b z => absurd (show b ∈ ([] : List Addr) from z) (by simp)
 refine ⟨⟨e0.mod, S.kind, rfl, rfl, Nat.le_refl _, fun y z c h1 h2 => ?_, fun y hy => ?_, fun y c _ h => ?_, fun _ => hd, Around.frames_deeper e0.frames, .inr ⟨rfl, rfl⟩, fun b z => absurd z (noA b), e0.bs, e0.bsz, fun b _ _ => noA b, fun b z => absurd z (noA b), e0.funs, e0.frf⟩,
  rfl, e0.bare, Un.kept hk, ⟨_, x.toInCall.ns, fun i y v h1 h2 h3 => ?_⟩, fun y c h => ⟨_, x.cell y c h⟩, e0.hok.fresh (Nat.le_refl _), fun y c h => ?_, fun p hp => absurd (show p ∈ ([] : List (Addr × Obj)) from hp) (by simp), e0.hok.kept hk, ?_⟩
 ·exact name_of_addr x.apart (PySem.mem_of_lookup h1) (PySem.mem_of_lookup h2)
 ·have hy : scope.names.lookup y = some .cell ∨ scope.names.lookup y = some .free:=hy
  rcases hy with hy | hy
  ·exact cell_has hy
  ·exact absurd rfl (S.nofree _ (PySem.mem_of_lookup hy))
 ·exact Nat.le_of_lt (x.above y c (PySem.mem_of_lookup h))
 ·have hi : i < vs.length:=by
   unfold start at h2
   by_cases hi : i < vs.length
   ·exact hi
   ·rw [List.getElem?_append_right (by simpa using hi)] at h2
    rw [List.getElem?_replicate] at h2
    split at h2 <;> cases h2
  have ha : vs[i]? = some v:=by
   unfold start at h2
   rw [List.getElem?_append_left (by simpa using hi), List.getElem?_map] at h2
   cases e : vs[i]? with
   | none => rw [e] at h2; cases h2
   | some a => rw [e] at h2; cases h2; rfl
  obtain ⟨u, hu, rv⟩:=r.get ha
  have hp : ps[i]? = some y:=by
   rw [← S.pre, List.getElem?_take_of_lt (by omega)]; exact h1
  have ndP : ps.Nodup:=by rw [← S.pre]; exact S.nd.sublist (List.take_sublist _ _)
  refine ⟨u, rv, ?_⟩
  rcases S.par y (List.mem_of_getElem? hp) with k | k
  ·exact .inl ⟨k, bindL_get ndP hp hu k⟩
  ·obtain ⟨c, e⟩:=cell_has (n:=s.heap.objs.size + 1) k
   refine .inr ⟨.inl k, c, e, ?_⟩
   have q:=x.cell y c e
   rw [bindC_get ndP hp hu (by show scope.names.lookup y ≠ _; rw [k]; decide)] at q
   exact q
 ·exact e0.hok.fresh (Nat.le_of_lt (x.above y c (PySem.mem_of_lookup h)))
 ·unfold start
  show _ = N.length
  rw [List.length_append, List.length_map, List.length_replicate]
  omega
theorem fn_of {CX : CXT} {P : Program} {w : World} {K : PySem.W.Frag} {mg : Str → Option Value} {base : Heap} {k : Nat} {f : Addr} {name qual : Str} {params : Arguments} {body : List Stmt} {scope : Scope} {dV kV doc pm cdv ct oc : Value} {an od : Option Addr}
  {osl : Array (Option Value)} {N ps : List Str} {sp : Sp} (lk : K.lookup f = some ⟨oc, od, .func (PySem.W.fnOf name qual params body scope dV kV doc pm an cdv ct), osl⟩) (hcd : PySem.W.codeIn K cdv qual = true) (S : FnScope N ps scope)
  (len : ∀ vs H Q E, sp vs H Q E → vs.length = ps.length)
  (hbody : ∀ (A : Around) (outer : List Env) (s : Shared) (H : Hp) (vs : List V) (Q : VK) (E : XK), Room k (A.deeper (envOfC qual scope s.heap.objs.size f cdv)) → sp vs H Q E →
   ∃ t, PSs (cxOf CX P w K mg base N qual scope f cdv A outer s H E) body t ∧ t { nx:=fun _ H' => Q .non H', rt:=Q } (start N vs) H) :
  FnOk P w K mg base CX (k + 1) f (PySem.W.fnOf name qual params body scope dV kV doc pm an cdv ct) ps sp:=by
 refine ⟨len, fun A outer s H args us vs Q E hr e0 hb r hsp => ?_⟩
 have hl:=len _ _ _ _ hsp
 have KX : K.In s.heap:=e0.mod.kin.keeps fun b o e => (e0.bs b o e).1
 have lim : s.heap.NoLimit:=e0.mod.nolimit.keeps fun b o e => (e0.bs b o e).1
 have hkind : ∀ y ∈ ps.zip us, scope.names.lookup y.1 = some .local ∨ (scope.names.lookup y.1 = some .cell ∧ ((cellsFrom (s.heap.objs.size + 1) scope.names []).lookup y.1).isSome = true):=fun ⟨n, v⟩ hy => by
  rcases S.par n (List.of_mem_zip hy).1 with q | q
  ·exact .inl q
  ·exact .inr ⟨q, PySem.W.cellsFrom_some _ _ _ (.inl q)⟩
 refine codeAny_call_function hr.depth (KX _ _ lk) rfl S.co S.gen rfl (PySem.W.codeRec_of KX hcd) (hb _ _ _ _ ?_)
 refine wpAny_newFunctionEnv_cells S.kind hkind fun env he s1 x => ?_
 subst he
 refine ⟨lim.keeps x.toInCall.keep, codeAny_func ?_⟩
 obtain ⟨t, ht, hq⟩:=hbody A outer s H vs Q E (hr.deeper _) hsp
 have I : Inv (cxOf CX P w K mg base N qual scope f cdv A outer s H E) [] (start N vs) H s1:=inv_start S hr.hd e0 hl r x
 refine wpAny_mono (ht [] s1 (start N vs) H _ I hq) (fun fl s' hs => ?_) fun e s' hs => hs
 have fin : ∀ {σ' : St} {H' : Hp} {v : V} {u : Value}, Inv (cxOf CX P w K mg base N qual scope f cdv A outer s H E) [] σ' H' s' → RelV v u → Q v H' → CE outer P w H s Q u s' :=
  fun {σ' H' v u} J rv q => ⟨v, H', J.os, J.bare, J.base, J.hok, rv, q⟩
 cases fl with
 | ret u =>
  obtain ⟨v, σ', H', J, rv, q⟩:=hs
  exact fin J rv q
 | next =>
  obtain ⟨σ', H', J, q⟩:=hs
  exact fin (v:=V.non) (u:=Value.none) J rfl q
 | brk =>
  obtain ⟨_, _, _, q⟩:=hs
  exact False.elim q
 | cont =>
  obtain ⟨_, _, _, q⟩:=hs
  exact False.elim q
end L2
namespace L2
open PySem PySem.Spec PyProof.Rows
section
variable {X : Cx} {x : Str} {p pos : Pos} {e : Expr} {es : List Expr} {t : TA} {id T : String} {r : List V → Hp → VK → Prop}
noncomputable def tCB (r : List V → Hp → VK → Prop) (t : TA) : TE:=fun σ H Q => t σ H fun vs H1 => r vs H1 Q
theorem pe_callB (hc : CallR X (.builtin id) r) (hg : Gl X x) (hm : X.mg x = none) (hv : bootBuiltins x = some (.builtin id)) (ha : PA X (e :: es) t) (hn : x ≠ "__name__" := by decide) (hdb : (x == ("__debug__" : Str)) = false := by decide)
  (he : starEach (e :: es) X.env = (false, eval e X.env) :: starEach es X.env:=by rfl) (hpl : (backTo pos (starEach es X.env)).any (·.1) = false:=by rfl) : PE X (.Call (.Name x p) (e :: es) [] pos) (tCB r t):=by
 intro pins s σ H Q I h
 refine wpAny_Call_Name_kw (ld_blt I hg hm hv ?_ hn hdb)
 exact PyProof.Rows.callWith_builtin1 (thn (ha pos pins s σ H _ I h) fun us s1 ⟨vs, H1, I1, r1, q1⟩ => hc pins s1 σ H1 vs us Q I1 r1 q1) he hpl
theorem pe_callTy (hc : CallR X (.type T) r) (hg : Gl X x) (hm : X.mg x = none) (hv : bootBuiltins x = some (.type T)) (ha : PA X (e :: es) t) (hn : x ≠ "__name__" := by decide) (hdb : (x == ("__debug__" : Str)) = false := by decide)
  (he : starEach (e :: es) X.env = (false, eval e X.env) :: starEach es X.env:=by rfl) (hpl : (backTo pos (starEach es X.env)).any (·.1) = false:=by rfl) : PE X (.Call (.Name x p) (e :: es) [] pos) (tCB r t):=by
 intro pins s σ H Q I h
 refine wpAny_Call_Name_kw (ld_blt I hg hm hv ?_ hn hdb)
 exact PyProof.Rows.callWith_type1 (thn (ha pos pins s σ H _ I h) fun us s1 ⟨vs, H1, I1, r1, q1⟩ => hc pins s1 σ H1 vs us Q I1 r1 q1) he hpl
end
end L2
namespace HT
open PySem PyProof.Rows
section
open PySem.SeqAt
open PySem.AutoSeq1 (wpAny_loadPart')
open PySem.MeetsSeq PySem.MeetsSeq2 PySem.MeetsSeq3
end
section
variable {prog : Program} {w : World} {A : Around} {E : Value → Shared → Prop} {s : Shared}
theorem cat_tup {t b : Addr} {vs ws : List Value} {Q : Value → Shared → Prop} (ht : IsTup s.heap t vs.toArray) (hb : IsTup s.heap b ws.toArray) (hv : vs ≠ [])
  (h1 : ws = [] → Q (.ref t) s) (h2 : ws ≠ [] → Q (.ref s.heap.objs.size) { s with heap := s.heap.push { cls := .type "tuple", data := .seq (vs ++ ws).toArray } })
  (hsz : vs.length + ws.length ≤ sizeLine) : wpAny (model prog w) A (binaryOp .Add (.ref t) (.ref b)) Q E s:=by
 obtain ⟨⟨cls, dd, data, sl⟩, ho, hc, n, hd⟩:=id ht
 obtain ⟨⟨cls2, dd2, data2, sl2⟩, ho2, hc2, n2, hd2⟩:=id hb
 simp only at hc hd hc2 hd2
 subst hc hd hc2 hd2
 have e : vs.toArray ++ ws.toArray = (vs ++ ws).toArray:=by simp
 by_cases hw : ws = []
 ·exact concat_meets ⟨_, ho, rfl⟩ ⟨_, ho2, rfl⟩ noFill_tuple_add seq_tuple_add PySem.F.slot_tuple_add PySem.F.entry_tuple_add (PySem.F.args_tuple_add_2 _ _)
   (tuple_addW1 t b vs.toArray ws.toArray n n2 dd dd2 sl sl2 (by simpa using hv) (by simp [hw])) ⟨ho, ho2, h1 hw⟩
 ·refine concat_meets ⟨_, ho, rfl⟩ ⟨_, ho2, rfl⟩ noFill_tuple_add seq_tuple_add PySem.F.slot_tuple_add PySem.F.entry_tuple_add (PySem.F.args_tuple_add_2 _ _)
   (tuple_addW2 t b vs.toArray ws.toArray n n2 dd dd2 sl sl2 (by simpa using hv) (by simpa using hw) (by rw [List.size_toArray, List.size_toArray]; exact hsz)) ⟨ho, ho2, ?_⟩
  rw [e]
  exact h2 hw
noncomputable def sIx (n d : Nat) : Option Int → Nat
 | none => d
 | some v => if v < 0 then (v + (n : Int)).toNat else min v.toNat n
theorem sIx_none (n d : Nat) : sIx n d none = d:=rfl
theorem sIx_nat (n d k : Nat) : sIx n d (some (k : Int)) = min k n:=by
 show (if (k : Int) < 0 then ((k : Int) + (n : Int)).toNat else min (k : Int).toNat n) = min k n
 rw [if_neg (by omega), Int.toNat_natCast]
theorem sIx_le (n d : Nat) (hd : d ≤ n) (o : Option Int) : sIx n d o ≤ n:=by
 cases o with
 | none => exact hd
 | some v =>
  show (if v < 0 then (v + (n : Int)).toNat else min v.toNat n) ≤ n
  by_cases hv : v < 0
  ·rw [if_pos hv]; omega
  ·rw [if_neg hv]; exact Nat.min_le_right _ _
theorem clip_eq (v : Int) (n d : Nat) : (if v < 0 then max (v + (n : Int)) 0 else min v (n : Int)) = ((sIx n d (some v) : Nat) : Int):=by
 show (if v < 0 then max (v + (n : Int)) 0 else min v (n : Int)) = (((if v < 0 then (v + (n : Int)).toNat else min v.toNat n) : Nat) : Int)
 by_cases hv : v < 0
 ·simp only [if_pos hv]; omega
 ·simp only [if_neg hv]; omega
theorem adjust_gen (lo hi : Option Int) (n : Nat) : Builtin.Slice.sliceAdjust lo hi 1 (n : Int) = (((sIx n 0 lo : Nat) : Int), ((sIx n n hi : Nat) : Int)):=by
 have h1 : ¬ ((1 : Int) < 0):=by omega
 unfold Builtin.Slice.sliceAdjust
 simp only [h1, if_false]
 refine Prod.ext ?_ ?_
 ·cases lo with
  | none => rfl
  | some v => exact clip_eq v n 0
 ·cases hi with
  | none => rfl
  | some v => exact clip_eq v n n
theorem places_gen (i j : Nat) : Builtin.Slice.slicePlaces (i : Int) (j : Int) 1 = j - i:=by
 unfold Builtin.Slice.slicePlaces
 have h1 : (1 : Int) > 0:=by omega
 simp only [h1, if_true, Int.ediv_one]
 split <;> omega
theorem slicePart_ {v : Value} {o : Option Int} {Q : Option Int → Shared → Prop} (p : IsPart v o) (h : Q o s) : wpAny (model prog w) A (Builtin.Slice.slicePartIndex v) Q E s:=by
 cases p with
 | none => exact slicePart_none h
 | int i t => exact slicePart_int h
theorem sliceApplied_gen {sl : Addr} {vl vu : Value} {lo hi : Option Int} {n : Nat} {Q : Int × Int × Nat → Shared → Prop} (hs : s.heap.IsSliceOf sl vl vu .none) (pl : IsPart vl lo) (pu : IsPart vu hi)
  (h : Q (((sIx n 0 lo : Nat) : Int), 1, sIx n n hi - sIx n 0 lo) s) : wpAny (model prog w) A (Builtin.Slice.sliceApplied (.ref sl) (pure (n : Int))) Q E s:=by
 obtain ⟨os, hos, hcs, hds⟩:=id hs
 unfold Builtin.Slice.sliceApplied Builtin.Slice.sliceFields
 refine wpAny_bind (wpAny_bind (wpAny_field hos hds (x:=vl) rfl (wpAny_bind (wpAny_field hos hds (x:=vu) rfl (wpAny_bind (wpAny_field hos hds (x:=.none) rfl (wpAny_pure ?_)))))))
 refine wpAny_bind (slicePart_none ?_)
 show wpAny _ _ (if ((1 : Int) == 0) = true then _ else _) _ _ s
 rw [if_neg (by decide)]
 refine wpAny_bind (slicePart_ pl (wpAny_bind (slicePart_ pu (wpAny_bind (wpAny_pure ?_)))))
 show wpAny _ _ (match Builtin.Slice.sliceAdjust lo hi 1 (n : Int) with | (lo, hi) => pure (lo, (1 : Int), Builtin.Slice.slicePlaces lo hi 1)) _ _ s
 rw [adjust_gen lo hi n]
 show wpAny _ _ (pure (((sIx n 0 lo : Nat) : Int), (1 : Int), Builtin.Slice.slicePlaces ((sIx n 0 lo : Nat) : Int) ((sIx n n hi : Nat) : Int) 1)) _ _ s
 rw [places_gen]
 exact wpAny_pure h
theorem pick_gen (xs : Array Value) (i k : Nat) : ((List.range k).filterMap fun (m : Nat) => xs[((i : Int) + (m : Int) * 1).toNat]?).toArray = ((xs.toList.drop i).take k).toArray:=by
 have e : (fun (m : Nat) => xs[((i : Int) + (m : Int) * 1).toNat]?) = fun m => xs[i + m]?:=by
  funext m
  have : ((i : Int) + (m : Int) * 1).toNat = i + m:=by omega
  rw [this]
 rw [e]
 have:=pick_run xs i k
 rw [List.filterMap_map] at this
 have e2 : ((fun x => xs[x]?) ∘ fun x => i + x) = fun m => xs[i + m]?:=rfl
 rw [e2] at this
 rw [this]
theorem getItem_tuple_cut {t sl : Addr} {items : Array Value} {vl vu : Value} {lo hi : Option Int} {Q : Value → Shared → Prop} (ht : IsTup s.heap t items) (hs : s.heap.IsSliceOf sl vl vu .none) (pl : IsPart vl lo) (pu : IsPart vu hi)
  (hw : ¬ (sIx items.size 0 lo = 0 ∧ sIx items.size items.size hi = items.size))
  (h : Q (.ref s.heap.objs.size) { s with heap := s.heap.push { cls := .type "tuple", data := .seq ((items.toList.drop (sIx items.size 0 lo)).take (sIx items.size items.size hi - sIx items.size 0 lo)).toArray } })
  (hsz : items.size ≤ sizeLine) : wpAny (model prog w) A (getItem (.ref t) (.ref sl)) Q E s:=by
 have htake : sizeOk (.seq ((items.toList.drop (sIx items.size 0 lo)).take (sIx items.size items.size hi - sIx items.size 0 lo)).toArray):=by
  show ((items.toList.drop (sIx items.size 0 lo)).take (sIx items.size items.size hi - sIx items.size 0 lo)).toArray.size ≤ sizeLine
  rw [List.size_toArray, List.length_take, List.length_drop, Array.length_toList]
  omega
 have hj : sIx items.size items.size hi ≤ items.size:=sIx_le _ _ (Nat.le_refl _) hi
 obtain ⟨os, hos, hcs, hds⟩:=id hs
 have hTs : s.TypeIs (.ref sl) "slice" := ⟨os, hos, hcs⟩
 unfold getItem
 try with_reducible refine wpAny_holding ?_
 first | refine wpAny_bind (wpAny_pure ?_) | skip
 refine wpAny_bind (wpAny_sequenceKey ht.typeIs (by decide) ?_)
 refine wpAny_bind (wpAny_callSpecial?_slot (name := Str.ofString "__getitem__") ht.typeIs PyProof.Rows.slot_tuple_getitem
  (wpAny_call_entry PyProof.Rows.slot_tuple_getitem ht.typeIs entry_tuple_getitem ?_ (args_tuple_getitem _ _)))
 show wpAny _ _ (Builtin.Tuple.tupleItemsOf (.ref t) >>= _) _ _ s
 refine wpAny_bind (tupleItemsOf_ ht ?_)
 refine wpAny_bind (wpAny_typeOf hTs ?_)
 rw [if_pos (by decide)]
 refine wpAny_bind (sliceApplied_gen hs pl pu ?_)
 have hno : ¬ ((((sIx items.size 0 lo : Nat) : Int) == 0 && (1 : Int) == 1 && (sIx items.size items.size hi - sIx items.size 0 lo) == items.size) = true):=by
  intro q
  rw [Bool.and_eq_true, Bool.and_eq_true] at q
  have q1 : ((sIx items.size 0 lo : Nat) : Int) = 0:=eq_of_beq q.1.1
  have q2 : sIx items.size items.size hi - sIx items.size 0 lo = items.size:=eq_of_beq q.2
  exact hw ⟨by omega, by omega⟩
 show wpAny _ _ (if (((sIx items.size 0 lo : Nat) : Int) == 0 && (1 : Int) == 1 && (sIx items.size items.size hi - sIx items.size 0 lo) == items.size) = true then _ else _) _ _ s
 rw [if_neg hno, pick_gen]
 first
  | exact wpAny_bind (m:=Builtin.Tuple.tupleExact _) (wpAny_newObj_type (wpAny_pure ⟨_, rfl, wpAny_pure h⟩) htake)
  | exact wpAny_bind (m:=Builtin.Tuple.tupleExact _) (wpAny_newObj_type (wpAny_bind (wpAny_pure (wpAny_pure ⟨_, rfl, wpAny_pure h⟩))) htake)
  | exact wpAny_bind (wpAny_bind (m:=Builtin.Tuple.tupleExact _) (wpAny_newObj_type (wpAny_pure (wpAny_pure ⟨_, rfl, wpAny_pure h⟩)) htake))
  | exact wpAny_bind (wpAny_bind (m:=Builtin.Tuple.tupleExact _) (wpAny_newObj_type (wpAny_pure ⟨_, rfl, wpAny_pure h⟩) htake))
end
end HT
namespace L2
open PySem PySem.Spec PyProof.Rows
noncomputable abbrev TO:=St → Hp → (Option Int → Hp → Prop) → Prop
noncomputable def PO (X : Cx) (e : Option Expr) (t : TO) : Prop :=
 ∀ (pins : List (Addr × Obj)) (s : Shared) (σ : St) (H : Hp) (Q : Option Int → Hp → Prop), Inv X pins σ H s → t σ H Q →
  wpAny (model X.prog X.w) X.A (evalPart e X.env) (fun u s' => ∃ o H', Inv X pins σ H' s' ∧ IsPart u o ∧ Q o H') X.xe s
noncomputable def tNoPart : TO:=fun _ H Q => Q none H
noncomputable def tPart (t : TE) : TO:=fun σ H Q => t σ H fun x H1 => ∃ i, x = .int i ∧ Q (some i) H1
section
variable {X : Cx} {e : Expr} {te : TE} {lo hi : Option Expr} {tl th : TO} {pos p2 : Pos}
theorem po_none : PO X none tNoPart:=by
 intro pins s σ H Q I h
 rw [evalPart_none]
 exact wpAny_pure ⟨none, H, I, .none, h⟩
theorem po_some (h : PE X e te) : PO X (some e) (tPart te):=by
 intro pins s σ H Q I hw
 rw [evalPart_some]
 refine thn (h pins s σ H _ I hw) fun u s1 ⟨x, H1, I1, r1, q1⟩ => ?_
 obtain ⟨i, rfl, q⟩:=q1
 obtain ⟨t, rfl⟩:=r1
 exact ⟨some i, H1, I1, .int i t, q⟩
noncomputable def SlR (X : Cx) (r : V → Option Int → Option Int → Hp → VK → Prop) : Prop :=
 ∀ (pins : List (Addr × Obj)) (s : Shared) (σ : St) (H : Hp) (x : V) (v vl vu : Value) (lo hi : Option Int) (sl : Addr) (Q : VK), Inv X pins σ H s → RelV x v → s.heap.IsSliceOf sl vl vu .none → IsPart vl lo → IsPart vu hi → r x lo hi H Q →
  ∃ T id, typeLookup (.type T) "__getitem__" = pure (some (.builtin id)) ∧ s.TypeIs v T ∧ wpAny (model X.prog X.w) X.A (getItem v (.ref sl)) (EP X pins σ Q) X.xe s
noncomputable def tSl (r : V → Option Int → Option Int → Hp → VK → Prop) (te : TE) (tl th : TO) : TE:=fun σ H Q => te σ H fun x H1 => tl σ H1 fun l H2 => th σ H2 fun u H3 => r x l u H3 Q
theorem pe_slice {r : V → Option Int → Option Int → Hp → VK → Prop} (hr : SlR X r) (he : PE X e te) (hl : PO X lo tl) (hu : PO X hi th) : PE X (.Subscript e (.Slice lo hi none p2) pos) (tSl r te tl th):=by
 intro pins s σ H Q I h
 refine Subscript_ (thn (he pins s σ H _ I h) fun v s1 ⟨x, H1, I1, r1, q1⟩ => ?_)
 refine wpAny_Slice (thn (hl pins s1 σ H1 _ I1 q1) fun vl s2 ⟨l, H2, I2, pl, q2⟩ => thn (hu pins s2 σ H2 _ I2 q2) fun vu s3 ⟨u, H3, I3, pu, q3⟩ => ?_)
 rw [evalPart_none]
 refine wpAny_pure ?_
 have I4 : Inv X pins σ H3 { s3 with heap := s3.heap.push { cls := .type "slice", data := .fields #[vl, vu, .none] } } := I3.kept (t' := s3.toks) fun b ob q => Heap.get?_push_of_some _ q
 obtain ⟨T, id, hT, ht, hg⟩ := hr pins { s3 with heap := s3.heap.push { cls := .type "slice", data := .fields #[vl, vu, .none] } } σ H3 x v vl vu l u s3.heap.objs.size Q I4 r1 (Heap.IsSliceOf.new ..) pl pu q3
 show wpAny (model X.prog X.w) X.A (subscriptTail e (.Slice lo hi none p2) v (.ref s3.heap.objs.size)) (EP X pins σ Q) X.xe { s3 with heap := s3.heap.push { cls := .type "slice", data := .fields #[vl, vu, .none] } }
 exact tail_any (ops:=[.ref s3.heap.objs.size, v]) ht hT hg (by with_unfolding_all rfl)
noncomputable def cutV (xs : List V) (lo hi : Option Int) : List V:=(xs.drop (HT.sIx xs.length 0 lo)).take (HT.sIx xs.length xs.length hi - HT.sIx xs.length 0 lo)
theorem cutV_length (xs : List V) (lo hi : Option Int) : (cutV xs lo hi).length ≤ xs.length:=by
 unfold cutV
 rw [List.length_take, List.length_drop]
 omega
noncomputable def rSlT (K : PySem.W.Frag) : V → Option Int → Option Int → Hp → VK → Prop:=fun x lo hi H Q => ∃ a xs, x = .ref a ∧ SqT K H a xs ∧
 ¬ (HT.sIx xs.length 0 lo = 0 ∧ HT.sIx xs.length xs.length hi = xs.length) ∧ ∀ p, H p = none → Q (.ref p) (upd H p (.tup (cutV xs lo hi)))
theorem sl_tup : SlR X (rSlT X.K):=by
 intro pins s σ H x v vl vu lo hi sl Q I rx hs pl pu h
 obtain ⟨a, xs, rfl, hx, hw, q⟩:=h
 cases rx
 obtain ⟨its, r, ht, hz⟩:=I.tuple hx
 have hlen : its.toArray.size = xs.length:=by rw [List.size_toArray]; exact r.length.symm
 refine ⟨"tuple", _, PyProof.Rows.slot_tuple_getitem.lookup, ht.typeIs, ?_⟩
 refine HT.getItem_tuple_cut ht hs pl pu (by rw [hlen]; exact hw) ?_ (by rw [hlen]; exact hz)
 rw [hlen]
 refine ⟨.ref s.heap.objs.size, _, I.laid (t':=s.toks) (o:=.tup (cutV xs lo hi)) (fun b ob q => Heap.get?_push_of_some _ q) (Nat.le_refl _) ?_, rfl, q _ (I.hok.fresh (Nat.le_refl _))⟩
 exact ⟨Nat.le_trans (cutV_length xs lo hi) hz, _, (r.drop (HT.sIx xs.length 0 lo)).take (HT.sIx xs.length xs.length hi - HT.sIx xs.length 0 lo), IsTup.new _ _, fun o2 e2 => by rw [Heap.get?_push_size _ rfl] at e2; cases e2; rfl⟩
noncomputable def rCatT (K : PySem.W.Frag) : R2:=fun x y H Q => ∃ a b xs ys, x = .ref a ∧ y = .ref b ∧ SqT K H a xs ∧ SqT K H b ys ∧ xs ≠ [] ∧ xs.length + ys.length ≤ sizeLine ∧
 (ys = [] → Q (.ref a) H) ∧ (ys ≠ [] → ∀ p, H p = none → Q (.ref p) (upd H p (.tup (xs ++ ys))))
theorem Vals.nil_iff {xs : List V} {us : List Value} (r : Vals xs us) : us = [] ↔ xs = []:=by
 cases r with
 | nil => simp
 | cons _ _ => simp
theorem op_catT : OpR X (binaryOp .Add) (rCatT X.K):=by
 intro pins s σ H x y v u Q I rx ry h
 obtain ⟨a, b, xs, ys, rfl, rfl, ha, hb, hx, hz, q1, q2⟩:=h
 cases rx
 cases ry
 obtain ⟨its, r1, p1, _⟩:=I.tuple ha
 obtain ⟨its2, r2, p2, _⟩:=I.tuple hb
 refine HT.cat_tup p1 p2 (fun z => hx (r1.nil_iff.mp z)) (fun z => ⟨.ref a, H, I, rfl, q1 (r2.nil_iff.mp z)⟩) (fun z => ?_) (by rw [← r1.length, ← r2.length]; exact hz)
 refine ⟨.ref s.heap.objs.size, _, I.laid (t':=s.toks) (o:=.tup (xs ++ ys)) (fun b ob q => Heap.get?_push_of_some _ q) (Nat.le_refl _) ?_, rfl, q2 (fun w => z (r2.nil_iff.mpr w)) _ (I.hok.fresh (Nat.le_refl _))⟩
 exact ⟨by rw [List.length_append]; exact hz, _, r1.append r2, IsTup.new _ _, fun o2 e2 => by rw [Heap.get?_push_size _ rfl] at e2; cases e2; rfl⟩
end
end L2
namespace L2
open PySem PySem.Spec PyProof.Rows
noncomputable def ixN (n : Nat) (i : Int) : Option Nat:=if 0 ≤ i then (if i < n then some i.toNat else none) else if -(n : Int) ≤ i then some (i + n).toNat else none
noncomputable def atI {α : Type} (xs : List α) (i : Int) : Option α:=(ixN xs.length i).bind fun j => xs[j]?
theorem ixN_seq {n : Nat} {i : Int} {j : Nat} (h : ixN n i = some j) : seqIndex? i n = some j ∧ j < n ∧ -(n : Int) ≤ i ∧ i < n:=by
 unfold ixN at h
 by_cases h0 : 0 ≤ i
 ·rw [if_pos h0] at h
  by_cases h1 : i < n
  ·rw [if_pos h1] at h
   have e : i.toNat = j:=Option.some.inj h
   exact ⟨by rw [seqIndex_of h0 h1, e], by omega, by omega, h1⟩
  ·rw [if_neg h1] at h; cases h
 ·rw [if_neg h0] at h
  by_cases h1 : -(n : Int) ≤ i
  ·rw [if_pos h1] at h
   have e : (i + n).toNat = j:=Option.some.inj h
   exact ⟨by rw [seqIndex_neg (by omega) h1, e], by omega, h1, by omega⟩
  ·rw [if_neg h1] at h; cases h
theorem atI_get {α : Type} {xs : List α} {i : Int} {v : α} (h : atI xs i = some v) : ∃ j, seqIndex? i xs.length = some j ∧ xs[j]? = some v ∧ j < xs.length ∧ -(xs.length : Int) ≤ i ∧ i < xs.length:=by
 unfold atI at h
 cases e : ixN xs.length i with
 | none => rw [e] at h; cases h
 | some j =>
  rw [e] at h
  obtain ⟨h1, h2, h3, h4⟩:=ixN_seq e
  exact ⟨j, h1, h, h2, h3, h4⟩
noncomputable def PlainIx (b : Expr) : Prop:=∀ o i, subscripted b false o i = operate [o, i] (getItem o i)
noncomputable def IxR (X : Cx) (r : R2) : Prop :=
 ∀ (value slice : Expr) (pins : List (Addr × Obj)) (s : Shared) (σ : St) (H : Hp) (x y : V) (v u : Value) (Q : VK), Inv X pins σ H s → RelV x v → RelV y u → r x y H Q →
  subscripted slice false v u = operate [v, u] (getItem v u) → wpAny (model X.prog X.w) X.A (subscriptTail value slice v u) (EP X pins σ Q) X.xe s
noncomputable def MtR (X : Cx) (id : String) (r : V → List V → Hp → VK → Prop) : Prop :=
 ∀ (pins : List (Addr × Obj)) (s : Shared) (σ : St) (H : Hp) (x : V) (xs : List V) (v : Value) (us : List Value) (Q : VK), Inv X pins σ H s → RelV x v → Vals xs us → r x xs H Q →
  wpAny (model X.prog X.w) X.A (call (.builtin id) (v :: us)) (EP X pins σ Q) X.xe s
section
variable {X : Cx} {a b : Expr} {ta tb : TE} {pos : Pos}
theorem pe_ix {r : R2} (hr : IxR X r) (ha : PE X a ta) (hb : PE X b tb) (hs : PlainIx b) : PE X (.Subscript a b pos) (tOp r ta tb):=by
 intro pins s σ H Q I h
 exact Subscript_ (binT ha hb I h fun v u s2 x y H2 I2 rx ry q => hr a b pins s2 σ H2 x y v u Q I2 rx ry q (hs _ _))
noncomputable def rIxL (K : PySem.W.Frag) : R2:=fun x y H Q => ∃ p xs i v, x = .ref p ∧ y = .int i ∧ SqL K H p xs ∧ atI xs i = some v ∧ Q v H
noncomputable def rIxT (K : PySem.W.Frag) : R2:=fun x y H Q => ∃ p xs i v, x = .ref p ∧ y = .int i ∧ SqT K H p xs ∧ atI xs i = some v ∧ Q v H
noncomputable def rIxS : R2:=fun x y H Q => ∃ z i c, x = .str z ∧ y = .int i ∧ z.length ≤ sizeLine ∧ atI z.cps.toList i = some c ∧ Q (.str ⟨#[c]⟩) H
theorem ix_list : IxR X (rIxL X.K):=by
 intro value slice pins s σ H x y v u Q I rx ry h hs
 obtain ⟨p, xs, i, z, rfl, rfl, hq, he, q⟩:=h
 cases rx
 obtain ⟨t, rfl⟩:=ry
 obtain ⟨its, r, pl, hz⟩:=I.list hq
 obtain ⟨j, h1, h2, h3, h4, h5⟩:=atI_get he
 obtain ⟨w, ew, rw'⟩:=r.get h2
 have hl:=r.length
 have hn:=line63
 have fin : EP X pins σ Q w s:=⟨z, H, I, rw', q⟩
 by_cases h0 : 0 ≤ i
 ·have hj : i.toNat = j:=by
   rw [seqIndex_of h0 h5] at h1
   exact Option.some.inj h1
  exact item_listR pl.isList h0 (by omega) (by rw [hj]; simpa using ew) fin hs
 ·have hj : (i + (its.toArray.size : Int)).toNat = j:=by
   rw [seqIndex_neg (by omega) h4] at h1
   rw [List.size_toArray, ← hl]
   exact Option.some.inj h1
  exact subscriptTail_builtinR (x:=w) pl.isList.typeIs slot_list_getitem.lookup
   (wpAny_getItem_list_neg (Q:=fun r s' => r = w ∧ EP X pins σ Q r s') pl.isList (by omega) (by rw [List.size_toArray] <;> omega) (by omega) (by rw [hj]; simpa using ew) ⟨rfl, fin⟩) hs
theorem ix_tup : IxR X (rIxT X.K):=by
 intro value slice pins s σ H x y v u Q I rx ry h hs
 obtain ⟨p, xs, i, z, rfl, rfl, hq, he, q⟩:=h
 cases rx
 obtain ⟨t, rfl⟩:=ry
 obtain ⟨its, r, pl, hz⟩:=I.tuple hq
 obtain ⟨j, h1, h2, h3, h4, h5⟩:=atI_get he
 obtain ⟨w, ew, rw'⟩:=r.get h2
 have hl:=r.length
 have hn:=line63
 have fin : EP X pins σ Q w s:=⟨z, H, I, rw', q⟩
 exact subscriptTail_builtinR (x:=w) pl.typeIs slot_tuple_getitem.lookup
  (getItem_tuple (j:=j) (Q:=fun r s' => r = w ∧ EP X pins σ Q r s') pl (by omega) (by omega) (by rw [List.size_toArray, ← hl]; exact h1) (by simpa using ew) ⟨rfl, fin⟩) hs
theorem ix_str : IxR X rIxS:=by
 intro value slice pins s σ H x y v u Q I rx ry h hs
 obtain ⟨z, i, c, rfl, rfl, hz, he, q⟩:=h
 obtain ⟨t, rfl⟩:=rx
 obtain ⟨t', rfl⟩:=ry
 obtain ⟨j, h1, h2, h3, h4, h5⟩:=atI_get he
 have hl : z.cps.toList.length = z.length:=by simp [Str.length]
 rw [hl] at h1 h4 h5
 have hn:=line63
 exact tail_any (typeIs_str s z t) slot_str_getitem.lookup (getItem_str (c:=c) (by
  have e1 : decide (i < -(2 ^ 63 : Int)) = false:=decide_eq_false (by omega)
  have e2 : decide (i ≥ 2 ^ 63) = false:=decide_eq_false (by omega)
  rw [e1, e2, Bool.or_false]) (by rw [h1]; simpa using h2) ⟨.str ⟨#[c]⟩, H, I.tok _, ⟨_, rfl⟩, q⟩) hs
theorem call_len_seq : CallR X (.builtin "len") (fun xs H Q => ∃ p ys, xs = [.ref p] ∧ (SqL X.K H p ys ∨ SqT X.K H p ys) ∧ Q (.int ys.length) H) := by
 intro pins s σ H xs us Q I r h
 obtain ⟨p, ys, rfl, hq, q⟩:=h
 obtain ⟨u, rfl, rx⟩:=vals1 r
 cases rx
 have hn:=line63
 rcases hq with hq | hq
 ·obtain ⟨its, r', pl, hz⟩:=I.list hq
  have hlen:=r'.length
  exact Calls.call_len_list pl.isList (by simp only [List.size_toArray] <;> omega) ⟨.int ys.length, H, I.tok _, ⟨s.toks + 1, by rw [List.size_toArray, hlen]⟩, q⟩
 ·obtain ⟨its, r', pl, hz⟩:=I.tuple hq
  have hlen:=r'.length
  exact len_tuple pl (by simp only [List.size_toArray] <;> omega) ⟨.int ys.length, H, I.tok _, ⟨s.toks + 1, by rw [List.size_toArray, hlen]⟩, q⟩
theorem call_len_str : CallR X (.builtin "len") (fun xs H Q => ∃ z, xs = [.str z] ∧ z.length ≤ sizeLine ∧ Q (.int z.length) H) := by
 intro pins s σ H xs us Q I r h
 obtain ⟨z, rfl, hz, q⟩:=h
 obtain ⟨u, rfl, t, rfl⟩:=vals1 r
 have hn:=line63
 exact len_str (by omega) ⟨.int z.length, H, I.tok _, ⟨_, rfl⟩, q⟩
theorem call_list_of : CallR X (.type "list") (fun xs H Q => ∃ p ys, xs = [.ref p] ∧ (SqL X.K H p ys ∨ SqT X.K H p ys) ∧ ∀ l, H l = none → Q (.ref l) (upd H l (.lst ys))) := by
 intro pins s σ H xs us Q I r h
 obtain ⟨p, ys, rfl, hq, q⟩:=h
 obtain ⟨u, rfl, rx⟩:=vals1 r
 cases rx
 have fin : ∀ (its : List Value), Vals ys its → ys.length ≤ sizeLine → ∀ (h' : Heap) (c' : Nat), (∀ b o', s.heap.get? b = some o' → h'.get? b = some o') →
   h'.get? s.heap.objs.size = some { cls := .type "list", dict := none, data := .seq its.toArray c', slots := #[] } → EP X pins σ Q (.ref s.heap.objs.size) { s with heap := h' } := fun its r' hz h' c' kp e =>
  ⟨.ref s.heap.objs.size, _, I.laid (t':=s.toks) kp (Nat.le_refl _) (show ObjOk X.prog X.w _ h' _ (.lst ys) from ⟨hz, its, c', r', e⟩), rfl, q _ (I.hok.fresh (Nat.le_refl _))⟩
 rcases hq with hq | hq
 ·obtain ⟨its, r', pl, hz⟩:=I.list hq
  have hlen:=r'.length
  obtain ⟨o, ho, hc, n, hd⟩:=pl.isList
  exact call_list_seq p (.inl rfl) ho hc hd (fun h' c' kp e => fin its r' hz h' c' kp e) (by simp only [List.size_toArray] <;> omega)
 ·obtain ⟨its, r', pl, hz⟩:=I.tuple hq
  have hlen:=r'.length
  obtain ⟨o, ho, hc, n, hd⟩:=pl
  exact call_list_seq p (.inr rfl) ho hc hd (fun h' c' kp e => fin its r' hz h' c' kp e) (by simp only [List.size_toArray] <;> omega)
theorem call_tuple_of : CallR X (.type "tuple") (fun xs H Q => ∃ p ys, xs = [.ref p] ∧ ((SqL X.K H p ys ∧ ∀ l, H l = none → Q (.ref l) (upd H l (.tup ys))) ∨ (SqT X.K H p ys ∧ Q (.ref p) H))) := by
 intro pins s σ H xs us Q I r h
 obtain ⟨p, ys, rfl, h⟩:=h
 obtain ⟨u, rfl, rx⟩:=vals1 r
 cases rx
 rcases h with ⟨hq, q⟩ | ⟨hq, q⟩
 ·obtain ⟨its, r', pl, hz⟩:=I.list hq
  have hlen:=r'.length
  refine call_tuple_list pl.isList (fun h' kp => ?_) (by simp only [List.size_toArray] <;> omega)
  have I1 : Inv X pins σ H { s with heap:=h' }:=I.kept (t':=s.toks) kp
  have I2 : Inv X pins σ (upd H h'.objs.size (.tup ys)) { s with heap := h'.push { cls := .type "tuple", data := .seq its.toArray } } :=
   I1.laid (t':=s.toks) (fun b o e => Heap.get?_push_of_some _ e) (Nat.le_refl _) (show ObjOk X.prog X.w _ _ _ (.tup ys) from ⟨hz, its, r', IsTup.new _ _, fun o2 e2 => by rw [Heap.get?_push_size _ rfl] at e2; cases e2; rfl⟩)
  exact ⟨.ref h'.objs.size, _, I2, rfl, q _ (I1.hok.fresh (Nat.le_refl _))⟩
 ·obtain ⟨its, r', pl, hz⟩:=I.tuple hq
  exact call_tuple_same pl ⟨.ref p, H, I, rfl, q⟩
noncomputable def tyV (K : PySem.W.Frag) (T : String) (x : V) (H : Hp) : Prop:=match x with
 | .str _ => T = "str"
 | .int _ => T = "int"
 | .ref p => (T = "list" ∧ ∃ xs, SqL K H p xs) ∨ (T = "tuple" ∧ ∃ o, K.lookup p = some o ∧ o.cls = .type "tuple" ∧ o.dict = none) ∨
   (T = "dict" ∧ ((∃ kvs, H p = some (.dK kvs)) ∨ ∃ kvs, H p = some (.dT kvs))) ∨ (T = "set" ∧ ∃ S n, H p = some (.set S n))
 | _ => False
theorem tyV_is {pins : List (Addr × Obj)} {σ : St} {H : Hp} {s : Shared} {T : String} {x : V} {v : Value} (I : Inv X pins σ H s) (r : RelV x v) (ty : tyV X.K T x H) :
  s.TypeIs v T ∧ ∀ a, v = .ref a → ∃ ob, s.heap.get? a = some ob ∧ ob.dict = none:=by
 cases x with
 | str z =>
  obtain ⟨t, rfl⟩:=r
  cases (show T = "str" from ty)
  exact ⟨typeIs_str s z t, fun _ e => nomatch e⟩
 | int i =>
  obtain ⟨t, rfl⟩:=r
  cases (show T = "int" from ty)
  exact ⟨typeIs_int s i t, fun _ e => nomatch e⟩
 | ref p =>
  cases r
  rcases ty with ⟨rfl, xs, hq⟩ | ⟨rfl, o, hk, hc, hd⟩ | ⟨rfl, hk⟩ | ⟨rfl, S, n, hk⟩
  ·obtain ⟨its, _, pl, _⟩:=I.list hq
   refine ⟨pl.isList.typeIs, fun a e => ?_⟩
   cases e
   obtain ⟨o, n, e, c, hd, _⟩:=pl
   exact ⟨o, e, hd⟩
  ·refine ⟨⟨o, I.kIn p o hk, hc⟩, fun a e => ?_⟩
   cases e
   exact ⟨o, I.kIn _ o hk, hd⟩
  ·have z : ∃ o, s.heap.get? p = some o ∧ o.ExactDict:=by
    rcases hk with ⟨kvs, hk⟩ | ⟨kvs, hk⟩
    ·obtain ⟨_, _, _, _, o, _, _, e, ex, _⟩:=I.hok p _ hk
     exact ⟨o, e, ex⟩
    ·obtain ⟨_, _, _, _, o, _, _, e, ex, _⟩:=I.hok p _ hk
     exact ⟨o, e, ex⟩
   obtain ⟨o, e, ex⟩:=z
   refine ⟨⟨o, e, ex.1⟩, fun a e2 => ?_⟩
   cases e2
   exact ⟨o, e, ex.2.1⟩
  ·obtain ⟨o, _, _, _, e, ex, _⟩:=I.hok p _ hk
   refine ⟨⟨o, e, ex.1⟩, fun a e2 => ?_⟩
   cases e2
   exact ⟨o, e, ex.2.1⟩
 | _ => exact False.elim ty
noncomputable def tBM (K : PySem.W.Frag) (T : String) (r : V → List V → Hp → VK → Prop) (to : TE) (t : TA) : TE:=fun σ H Q => to σ H fun x H1 => tyV K T x H1 ∧ t σ H1 fun xs H2 => r x xs H2 Q
variable {o e : Expr} {es : List Expr} {to : TE} {t : TA} {name : Str} {apos cpos : Pos} {T id : String} {r : V → List V → Hp → VK → Prop}
theorem pe_bm (pa : PlainAttrs T) (slot : Slot T name id) (hty : typeOf (.builtin id) = pure (.type "method_descriptor")) (hm : MtR X id r) (ho : PE X o to) (ha : PA X (e :: es) t)
  (hbase : attributeBase o name X.env (eval o X.env) = eval o X.env:=by rfl)
  (hfew : ((backTo cpos (starEach (e :: es) X.env)).all (fun x => !x.1) && (backToKw cpos (keywordEach [] X.env)).all (fun x => x.1.isSome)
   && decide ((e :: es).length + ([] : List Keyword).length + (if ([] : List Keyword).isEmpty then 0 else 1) < 30)) = true:=by rfl)
  (hline : (apos.endLine == cpos.line) = true:=by rfl) (hs : starEach (e :: es) X.env = (false, eval e X.env) :: starEach es X.env:=by rfl) (hplain : (backTo cpos (starEach es X.env)).any (·.1) = false:=by rfl) :
  PE X (.Call (.Attribute o name apos) (e :: es) [] cpos) (tBM X.K T r to t):=by
 intro pins s σ H Q I h
 refine wpAny_Call_method_late hbase hfew hline rfl (thn (ho pins s σ H _ I h) fun v s1 ⟨x, H1, I1, r1, ty, q1⟩ => ?_)
 obtain ⟨h1, h2⟩:=tyV_is I1 r1 ty
 refine ⟨T, id, pa, slot, hty, h1, h2, ?_⟩
 have hA:=ha cpos pins s1 σ H1 _ I1 q1
 rw [hs] at hA ⊢
 refine Calls.callWith_builtin (by show (false || (backTo cpos (starEach es X.env)).any (·.1)) = false; rw [hplain] <;> rfl) (Calls.evalArgs_plain ?_)
 exact thn hA fun us s2 ⟨vs, H2, I2, r2, q2⟩ => hm pins s2 σ H2 x vs v us Q I2 r1 r2 q2
/- xs.append(e), list.index on a module's tuple .. are MtR facts of 06m -/
end
end L2
namespace L2
open PySem PySem.Spec PyProof.Rows
noncomputable def MtM (X : Cx) (id : String) (r : V → List V → Hp → VK → Prop) : Prop :=
 ∀ (pins : List (Addr × Obj)) (s : Shared) (σ : St) (H : Hp) (x : V) (xs : List V) (v : Value) (us : List Value) (Q : VK), Inv X pins σ H s → RelV x v → Vals xs us → r x xs H Q →
  wpAny (model X.prog X.w) X.A (call (.builtin id) (v :: us)) (EP X pins σ Q) X.xe s
theorem Vals.one : ∀ {x : V} {us : List Value}, Vals [x] us → ∃ u, us = [u] ∧ RelV x u
 | _, _, .cons r .nil => ⟨_, rfl, r⟩
theorem Vals.rep {xs : List V} {us : List Value} (h : Vals xs us) : ∀ k : Nat, Vals (List.replicate k xs).flatten (List.replicate k us).flatten
 | 0 => .nil
 | k + 1 => by
  rw [List.replicate_succ, List.replicate_succ, List.flatten_cons, List.flatten_cons]
  exact Vals.append h (Vals.rep h k)
theorem foldl_rep (its : List Value) : ∀ (k : Nat) (acc : List Value),
  List.foldl (fun x1 x2 => x1 ++ x2) acc.toArray (List.replicate k its.toArray) = (acc ++ (List.replicate k its).flatten).toArray
 | 0, acc => by simp
 | k + 1, acc => by
  have e : acc.toArray ++ its.toArray = (acc ++ its).toArray:=by simp
  have e2 : (acc ++ its) ++ (List.replicate k its).flatten = acc ++ (List.replicate (k + 1) its).flatten:=by
   rw [List.replicate_succ, List.flatten_cons, List.append_assoc]
  rw [← e2, ← foldl_rep its k (acc ++ its), ← e, List.replicate_succ, List.foldl_cons]
section
variable {X : Cx} {pins : List (Addr × Obj)} {σ : St} {H : Hp} {s : Shared} {l b : Addr} {xs ys zs : List V}
theorem Inv.lset {its its' : List Value} {n : Nat} {f : Array Value → Array Value} {t' : Nat} (I : Inv X pins σ H s) (hH : H l = some (.lst xs))
  (e : s.heap.get? l = some { cls := .type "list", data := .seq its.toArray n }) (hf : f its.toArray = its'.toArray) (hv : Vals ys its') (hz : ys.length ≤ sizeLine) :
  Inv X pins σ (upd H l (.lst ys)) { s with heap:=s.heap.update l (Obj.mapSeq f), toks:=t' }:=by
 have q:=PySem.IsL.update e f
 rw [hf] at q
 refine I.write (x:=l) (e:=l) (by rw [hH]; exact trivial) (.inl rfl) (fun b' u hb hu => (Heap.get?_update_other s.heap (Obj.mapSeq f) (Ne.symm hb)).trans hu) ⟨_, q⟩ ?_
 exact ⟨hz, its', _, hv, q⟩
theorem Inv.lnew {its : List Value} {t' : Nat} (I : Inv X pins σ H s) (hv : Vals ys its) (hz : ys.length ≤ sizeLine) :
  Inv X pins σ (upd H s.heap.objs.size (.lst ys)) { s with heap := s.heap.push { cls := .type "list", data := .seq its.toArray }, toks := t' } :=
 I.laid (fun _ _ q => Heap.get?_push_of_some _ q) (Nat.le_refl _) ⟨hz, its, 0, hv, Heap.get?_push_size _ rfl⟩
theorem Inv.fresh (I : Inv X pins σ H s) : H s.heap.objs.size = none:=I.hok.fresh (Nat.le_refl _)
theorem Inv.lstM (I : Inv X pins σ H s) (hH : H l = some (.lst xs)) : xs.length ≤ sizeLine ∧ ∃ (its : List Value) (n : Nat), Vals xs its ∧ xs.length = its.length ∧ s.heap.get? l = some { cls := .type "list", data := .seq its.toArray n } := by
 obtain ⟨z, its, n, r, e⟩:=I.hok l _ hH
 exact ⟨z, its, n, r, r.length, e⟩
end
section
variable {X : Cx}
noncomputable def rAppend : V → List V → Hp → VK → Prop:=fun x vs H Q => ∃ l xs y, x = .ref l ∧ vs = [y] ∧ H l = some (.lst xs) ∧ xs.length < sizeLine ∧ Q .non (upd H l (.lst (xs ++ [y])))
theorem mt_append : MtM X "list.append" rAppend := by
 intro pins s σ H x vs v us Q I rx rv h
 obtain ⟨l, xs, y, rfl, rfl, hH, hz, q⟩:=h
 cases rx
 obtain ⟨u, rfl, ru⟩:=rv.one
 obtain ⟨z, its, n, r, hl, e⟩:=I.lstM hH
 refine call_meets F.slot_list_append ⟨_, e, rfl⟩ F.entry_list_append (F.args_list_append_2 _ _) (PySem.list_append l its.toArray n u (by rw [List.size_toArray]; omega)) ⟨e, ?_⟩
 refine ⟨.non, _, I.lset (its':=its ++ [u]) hH e (by simp) (r.append (.cons ru .nil)) ?_, rfl, q⟩
 rw [List.length_append, List.length_singleton]
 omega
noncomputable def rCat : R2:=fun x y H Q => ∃ l b xs zs, x = .ref l ∧ y = .ref b ∧ H l = some (.lst xs) ∧ H b = some (.lst zs) ∧ xs.length + zs.length ≤ sizeLine ∧ ∀ p, H p = none → Q (.ref p) (upd H p (.lst (xs ++ zs)))
theorem op_cat : OpR X (binaryOp .Add) rCat:=by
 intro pins s σ H x y v u Q I rx ry h
 obtain ⟨l, b, xs, zs, rfl, rfl, hH, hB, hz, q⟩:=h
 cases rx
 cases ry
 obtain ⟨z, its, n, r, hl, e⟩:=I.lstM hH
 obtain ⟨z2, its2, n2, r2, hl2, e2⟩:=I.lstM hB
 refine PySem.P.add_list e e2 ?_ (by rw [List.size_toArray, List.size_toArray]; omega)
 have ea : its.toArray ++ its2.toArray = (its ++ its2).toArray:=by simp
 rw [ea]
 exact ⟨.ref _, _, I.lnew (t':=s.toks) (r.append r2) (by rw [List.length_append]; omega), rfl, q _ I.fresh⟩
theorem len_rep {α : Type} (xs : List α) (k : Nat) : (List.replicate k xs).flatten.length = k * xs.length:=by
 induction k with
 | zero => simp
 | succ k ih => rw [List.replicate_succ, List.flatten_cons, List.length_append, ih, Nat.succ_mul, Nat.add_comm]
end
section
variable {prog : Program} {w : World} {A : Around} {E : Value → Shared → Prop} {s : Shared}
end
section
variable {X : Cx}
end
end L2
namespace Att
open PySem PySem.W PySem.Calls PyProof.Rows
theorem ints_of_wellAll {P : Params} {h : Heap} : ∀ (ns : List Int) (vs : List Value), WellAll P h vs (ns.map WData.int) → IntsAre vs ns:=by
 intro ns
 induction ns with
 | nil =>
  intro vs w
  rw [List.map_nil] at w
  cases w
  exact .nil
 | cons n ns ih =>
  intro vs w
  rw [List.map_cons] at w
  cases w with
  | cons a b =>
   cases a
   exact .cons _ _ (ih _ b)
theorem script_of {l : OpenLaw} {n : Nat} (hn : l.most = some n) {P : Params} {h : Heap} {args : List WData} {vals : List Value}
  (hpre : l.row.toRowW.claim.pre args = true) (hwl : WellAll P h vals args) :
  ∃ a vs ns, vals = [Value.ref a] ∧ args = [WData.list (ns.map WData.int)] ∧ h.get? a = some { cls := .type "list", data := .seq vs.toArray } ∧ IntsAre vs ns ∧ ns.length ≤ n := by
 have hsh : WShape.hasAll [] args [.list .int] = true:=(pre_splitW hpre).1
 have hc : l.pre.holds [] { args:=args } = true:=(pre_splitW hpre).2
 obtain ⟨d, r, rfl, h1, h2⟩:=hasAllW_cons hsh
 obtain rfl:=hasAllW_nil h2
 obtain ⟨xs, rfl, h3⟩:=hasW_list h1
 obtain ⟨ns, rfl⟩:=items_int h3
 have hlen : ns.length ≤ n:=by
  unfold OpenLaw.pre at hc
  have h4 : (WTm.not (.lt (.lit (.int (n : Int))) (.len (.arg 0)))).holds [] { args:=[.list (ns.map .int)] } = true:=by
   have h4:=(holds_andW hc).1
   rw [hn] at h4
   exact h4
  have h5:=condW_of h4 (w_not (w_lt w_lit (w_len_list (w_arg rfl))))
  rw [List.length_map] at h5
  refine Nat.le_of_not_lt fun q => ?_
  have q' : (n : Int) < ((ns.length : Nat) : Int):=by omega
  first
   | (rw [decide_eq_true q'] at h5; exact absurd h5 (by decide))
   | (simp at h5; omega)
 cases hwl with
 | cons w1 w2 =>
  cases w2
  cases w1 with
  | list ho hall => exact ⟨_, _, ns, rfl, rfl, ho, ints_of_wellAll ns _ hall, hlen⟩
theorem post_true (l : OpenLaw) (args : List WData) : l.row.toRowW.claim.post args (.bool true) args = true :=
 postW_of (r:=l.row.toRowW) (X:=(true == true))
  (show WShape.has [] (.bool true) .bool = true by first | rfl | decide | simp [WShape.has, WShape.arms, WShape.armsAll])
  (show (WTm.eq .res (.lit (.bool true))).value [] { args:=args, res:=some (.bool true), after:=args } = some (.bool (true == true)) from w_eq_bool (w_res rfl) w_lit) rfl
theorem attach_call {l : OpenLaw} {n : Nat} {q : Program} {loose : List Str} {XP : (Str → Option Value) → Heap → Prop} {YP : World → Heap → Prop} {d : DefRec}
  (hn : l.most = some n) (hdf : d.params.defaults = [])
  (call : ∀ (w : World) (s₀ s₁ : Shared) (mg mb : Str → Option Value) (fa : Addr) (o : Obj) (pm cd doc : Value) (a : Addr) (vs : List Value) (ns : List Int),
   Ground q loose [] XP w s₀ mg mb s₁.heap → YP w s₁.heap →
   s₁.heap.get? fa = some o → o.data = .func (docDef d.name d.params d.body d.scope pm cd doc) → s₁.heap.CodeRec cd d.name → mg d.name = some (.ref fa) →
   s₁.heap.get? a = some { cls := .type "list", data := .seq vs.toArray } → IntsAre vs ns → ns.length ≤ n → s₁.gens = #[] →
   codeAny (model l.prog w) callerA (.call (.ref fa) ⟨[.ref a], []⟩) (fun r s' => r = .ok (.ret (.bool true)) ∧ OldK s₁.heap s'.heap ∧ s'.os = s₁.os ∧ AllBare s'.gens) s₁) :
  WalkO q loose XP YP l.row.toRowW d [] (fun f vs => PySem.call f vs):=by
 intro w s₀ s₁ mg mb G Y fa o pm cd doc dV kV ho hd hcd hD hmg hg args vals as hpre hlay hrd hwl hlo
 obtain rfl : dV = .none:=Dflts.none hD hdf
 obtain rfl : kV = .none:=Dflts.noKw hD
 obtain ⟨a, vs, ns, rfl, rfl, hobj, hints, hlen⟩:=script_of hn hpre hwl
 refine enter_call (codeAny_mono (call w s₀ s₁ mg mb fa o pm cd doc a vs ns G Y ho (fd_plain hd) hcd hmg hobj hints hlen hg) fun r s' hq => ?_)
 obtain ⟨rfl, h2, h3, h4⟩:=hq
 exact ⟨.inl ⟨.bool true, .bool true, [], rfl, fun _ => rfl, .bool true, post_true l _, fun _ => ⟨List.Pairwise.nil, fun _ hm => (nomatch hm)⟩⟩, h2, h3, h4⟩
section
variable {prog : Program} {w : World} {A : Around} {E : Value → Shared → Prop} {s : Shared} {K : Frag}
end
end Att
namespace L2
open PySem PySem.Spec PyProof.Rows
theorem vals_ints : ∀ {vs : List Value} {ns : List Int}, IntsAre vs ns → Vals (ns.map V.int) vs
 | _, _, .nil => .nil
 | _, _, .cons n t h => .cons ⟨t, rfl⟩ (vals_ints h)
noncomputable def Only (H : Hp) : Prop:=∀ b, H b = none ∨ ∃ o xs, H b = some (.frz o (.lst xs))
theorem law_call {P : Program} {w : World} {K : PySem.W.Frag} {mg mb : Str → Option Value} {CX : CXT} {k : Nat} {fa a : Addr} {fd : FuncData} {x : Str} {sp : Sp} {s₁ : Shared} {vs : List Value} {ns : List Int}
  (KX : K.In s₁.heap) (hns : s₁.heap.Ns mainGlobals mg) (hb : s₁.heap.Ns builtinsNs mb) (hbb : ∀ x : Str, x ≠ "__name__" → mb x = bootBuiltins x) (hlim : s₁.heap.NoLimit) (hg : s₁.gens = #[])
  (ha : s₁.heap.get? a = some { cls := .type "list", data := .seq vs.toArray }) (hi : IntsAre vs ns) (hl : ns.length ≤ sizeLine) (hr : Room k callerA)
  (F : ∀ base : Heap, K.In base → base.Ns mainGlobals mg → FnOk P w K mg base CX k fa fd [x] sp) (hbind : ∀ (s : Shared) (u : Value), BindsTo s fd ⟨[u], []⟩ [(x, u)])
  (hsp : ∀ H : Hp, Only H → SqL K H a (ns.map V.int) → sp [.ref a] H (fun v _ => v = .bl true) fun _ _ _ => False)
  (hCX : ∀ H e s', CX [] H s₁ (fun _ _ _ => False) e s' → False) :
  codeAny (model P w) callerA (.call (.ref fa) ⟨[.ref a], []⟩) (fun r s' => r = .ok (.ret (.bool true)) ∧ OldK s₁.heap s'.heap ∧ s'.os = s₁.os ∧ AllBare s'.gens) s₁:=by
 have rv:=vals_ints hi
 have lenV:=hi.length
 have core : ∀ H : Hp, Only H → SqL K H a (ns.map V.int) → HOk P w H s₁.heap → (∀ b, H b ≠ none → b = a) → (H a ≠ none → K.lookup a = none) →
   codeAny (model P w) callerA (.call (.ref fa) ⟨[.ref a], []⟩) (fun r s' => r = .ok (.ret (.bool true)) ∧ OldK s₁.heap s'.heap ∧ s'.os = s₁.os ∧ AllBare s'.gens) s₁:=by
  intro H hO hS hok hA hK
  have base_of : ∀ {b : Addr} {o : Obj}, s₁.heap.get? b = some o → H b = none → (hidT s₁.heap H).get? b = some o:=fun e n => hidT_get e n
  have noA : ∀ {b : Addr} {o : Obj} {es : Array DictEntry} {ep : Nat}, s₁.heap.get? b = some o → o.data = .dict es ep → H b = none:=fun {b o es ep} e d => by
   cases q : H b with
   | none => rfl
   | some u =>
    have e' : b = a:=hA b (by rw [q]; simp)
    subst e'
    rw [ha] at e; cases e
    have d' : Data.seq vs.toArray _ = Data.dict es ep:=d
    cases d'
  have nsK : ∀ {b : Addr} {m : Str → Option Value}, s₁.heap.Ns b m → (hidT s₁.heap H).Ns b m:=fun {b m} ⟨o, es, ep, e, d, r⟩ => ⟨o, es, ep, base_of e (noA e d), d, r⟩
  have hKb : K.In (hidT s₁.heap H):=fun b o e => base_of (KX b o e) (by
   cases q : H b with
   | none => rfl
   | some u =>
    have e' : b = a:=hA b (by rw [q]; simp)
    subst e'
    rw [hK (by rw [q]; simp)] at e; cases e)
  have hM : Mod K mg (hidT s₁.heap H):=⟨hKb, nsK hns, ⟨mb, nsK hb, hbb⟩, let ⟨mc, h1, h2⟩:=hlim; ⟨mc, nsK h1, h2⟩⟩
  have e0 : Env0 P w K mg (hidT s₁.heap H) callerA [] s₁ H:=⟨rfl, hM, fun b o e => of_hidT e, Nat.le_of_eq (hidT_size _ _), trivial, fun b hb => absurd (show b ∈ ([] : List Addr) from hb) (by simp), hok, .of_eq hg⟩
  refine codeAny_mono ((F _ hKb (nsK hns)).run callerA [] s₁ H ⟨[.ref a], []⟩ [.ref a] [.ref a] _ _ hr e0 (hbind s₁ (.ref a)) (.cons rfl .nil) (hsp H hO hS)) fun r s' h => ?_
  cases r with
  | error e => exact (hCX H e s' h).elim
  | ok fl =>
   cases fl with
   | next => exact False.elim h
   | brk => exact False.elim h
   | cont => exact False.elim h
   | ret u =>
    obtain ⟨v, H', os, bare, un, hok', r', q⟩:=h
    have q' : v = .bl true:=q
    subst q'
    obtain rfl : u = Value.bool true:=r'
    refine ⟨rfl, OldK.of_keep fun b o e => ?_, os, bare⟩
    cases q : H b with
    | none => exact un.keep b o e q (by intro z; exact absurd (show b ∈ ([] : List Addr) from z) (by simp)) (by simp)
    | some u =>
     rcases hO b with z | ⟨ob, xs, z⟩
     ·rw [q] at z; cases z
     ·have z2:=un.frzs b ob _ z
      obtain ⟨e1, _⟩:=hok b _ z
      obtain ⟨e2, _⟩:=hok' b _ z2
      rw [e] at e1; cases e1
      exact e2
 cases hk : K.lookup a with
 | some o =>
  have e:=KX a o hk
  rw [ha] at e
  cases e
  refine core (fun _ => none) (fun _ => .inl rfl) (.inr ⟨_, vs.toArray, _, hk, rfl, rfl, rfl, by rw [List.size_toArray, lenV]; exact hl, by simpa using rv⟩) (fun b u z => by have z' : (none : Option HO) = some u:=z; cases z') (fun b z => absurd rfl z) fun z => absurd rfl z
 | none =>
  refine core (fun b => if b = a then some (.frz { cls := .type "list", data := .seq vs.toArray } (.lst (ns.map V.int))) else none) (fun b => ?_) (.inl (.inr ⟨{ cls := .type "list", data := .seq vs.toArray }, if_pos rfl⟩)) (fun b u z => ?_) (fun b z => ?_) fun _ => hk
  ·by_cases hb : b = a
   ·exact .inr ⟨_, _, if_pos hb⟩
   ·exact .inl (if_neg hb)
  ·by_cases hb : b = a
   ·have z':=(if_pos hb).symm.trans z
    cases z'
    subst hb
    exact ⟨ha, by rw [List.length_map]; exact hl, vs, _, rv, ha⟩
   ·have z':=(if_neg hb).symm.trans z
    cases z'
  ·by_cases hb : b = a
   ·exact hb
   ·exact absurd (if_neg hb) z
end L2
namespace L2
open PySem PySem.Spec PyProof.Rows
theorem walk_of {l : PySem.W.OpenLaw} {n k : Nat} {q : Program} {loose : List Str} {XP : (Str → Option Value) → Heap → Prop} {YP : World → Heap → Prop} {d : DefRec} {K : Params → PySem.W.Frag} {CX : World → CXT} {sp : World → Sp} {x : Str}
  (hn : l.most = some n) (hn2 : n ≤ sizeLine) (hdf : d.params.defaults = []) (hr : Room k callerA)
  (hY : ∀ (w : World) (h : Heap), YP w h → (K w.params).In h)
  (F : ∀ (w : World) (mg : Str → Option Value) (fa : Addr) (h : Heap), (K w.params).In h → h.Ns mainGlobals mg → mg d.name = some (.ref fa) →
   ∃ fd : FuncData, (∀ (s : Shared) (u : Value), BindsTo s fd ⟨[u], []⟩ [(x, u)]) ∧
    ∀ base : Heap, (K w.params).In base → base.Ns mainGlobals mg → FnOk l.prog w (K w.params) mg base (CX w) k fa fd [x] (sp w))
  (hsp : ∀ (w : World) (H : Hp) (a : Addr) (ns : List Int), ns.length ≤ n → Only H → SqL (K w.params) H a (ns.map V.int) → sp w [.ref a] H (fun v _ => v = .bl true) fun _ _ _ => False)
  (hCX : ∀ (w : World) (H : Hp) (s : Shared) (e : Value) (s' : Shared), CX w [] H s (fun _ _ _ => False) e s' → False) :
  PySem.W.WalkO q loose XP YP l.row.toRowW d [] (fun f vs => PySem.call f vs):=by
 refine Att.attach_call hn hdf fun w s₀ s₁ mg mb fa o pm cd doc a vs ns G Y ho hd hcd hmg hobj hints hlen hg => ?_
 have KX:=hY w _ Y
 obtain ⟨fd, hb, hF⟩:=F w mg fa _ KX G.T.g hmg
 exact law_call KX G.T.g G.T.b G.T.builtins G.T.nolimit hg hobj hints (Nat.le_trans hlen hn2) hr hF hb (fun H hO hS => hsp w H a ns hlen hO hS) fun H e s' => hCX w H s₁ e s'
end L2
/- THE LAST THEOREM (shape; LID, My.* are yours):
   My.Adr: a structure of the addresses that your layer names (classes, functions); My.Txt K t: a structure (Prop) of the equations over K;
   My.txt_mk : {K} {implicit addresses ..} (e1 : nsIn K mainGlobals "law" = some (some (.ref f))) (e2 : K.lookup f = some ⟨oc, od, .func (fnOf "law" "law" params body scope dV kV doc pm an cdv ct), sl⟩) (e3 : codeIn K cdv "law" = true) .. : ∃ t, My.Txt K t
set_option maxRecDepth 100000 in
set_option maxHeartbeats 0 in
theorem PySem.Challenge.cw_LID_holds : PySem.Challenge.rw_LID.Holds := by
 w_on; o_law; k_head; (case hw => w_witness2)
 k_fill
 refine L2.walk_of (l := PySem.Challenge.rw_LID) (n := 63) (k := 40) (x := "script") (CX := fun w => ..) (sp := fun _ => My.sp_law) rfl (by decide) rfl ⟨rfl, by decide, by decide⟩ (fun w h Y => PySem.W.kIn_of Y) ?F ?S ?C
 case F =>
  intro w mg fa h KX G hmg
  have T : ∃ t, My.Txt (L2.KOf KX) t:=by
   dsimp only [L2.KOf]                          -- K must stand as «<heap const> w.params» for k_is
   refine' My.txt_mk ?e1 ?e2 ?e3 ..
   (case e1 => PySem.W.k_is)                    -- in the order: a name -> its address -> its object -> its parts
   (case e2 => PySem.W.k_is)
   ..
  obtain ⟨t, T⟩:=T
  have e0:=hmg.symm.trans (PySem.W.mg_of KX G T.law)
  cases e0                                       -- fa is the law's own address
  exact ⟨_, fun s u => .of_eq rfl, fun base kb nb => My.law_fn T kb nb⟩     -- if «.of_eq rfl» comes too early: refine' ⟨_, ?b, fun base kb nb => My.law_fn T kb nb⟩; exact fun s u => .of_eq rfl
 case S => exact fun w H a ns hl hO hS => ..
 case C => exact ..
(the tactic k_is has no namespace: write k_is) -/
namespace L2
open PySem PySem.Spec PyProof.Rows
noncomputable def defArgs (s : Stmt) : Arguments:=match s with
 | .FunctionDef _ a _ _ _ _ _ _ _ _ => a
 | _ => { posonlyargs:=[], args:=[], vararg:=none, kwonlyargs:=[], kw_defaults:=[], kwarg:=none, defaults:=[] }
noncomputable def defBody (s : Stmt) : List Stmt:=match s with
 | .FunctionDef _ _ b _ _ _ _ _ _ _ => b
 | _ => []
noncomputable def defScope (s : Stmt) : Scope:=match s with
 | .FunctionDef _ _ _ _ _ _ sc _ _ _ => sc
 | _ => { kind:=.function, names:=[], isGenerator:=false, isCoroutine:=false }
noncomputable abbrev CX0 : CXT:=fun _ _ _ _ _ _ => False
structure Fun (K : PySem.W.Frag) (x qual : Str) (st : Stmt) (f : Addr) (fd : FuncData) : Prop where
 ex : ∃ (oc : Value) (od : Option Addr) (kV doc pm : Value) (an : Option Addr) (cdv ct : Value) (osl : Array (Option Value)),
  fd = PySem.W.fnOf x qual (defArgs st) (defBody st) (defScope st) .none kV doc pm an cdv ct ∧ K.lookup f = some ⟨oc, od, .func fd, osl⟩ ∧ PySem.W.codeIn K cdv qual = true
 kp : PySem.W.keepIn K (.ref f) = true
section
variable {P : Program} {w : World} {K : PySem.W.Frag} {mg : Str → Option Value} {base : Heap}
theorem Fun.ok {x qual : Str} {st : Stmt} {f : Addr} {fd : FuncData} {N ps : List Str} {k : Nat} {sp : Sp} (F : Fun K x qual st f fd) (S : FnScope N ps (defScope st)) (len : ∀ vs H Q E, sp vs H Q E → vs.length = ps.length)
  (hbody : ∀ (cdv : Value) (A : Around) (outer : List Env) (s : Shared) (H : Hp) (vs : List V) (Q : VK) (E : XK), Room k (A.deeper (envOfC qual (defScope st) s.heap.objs.size f cdv)) → sp vs H Q E →
   ∃ t, PSs (cxOf CX0 P w K mg base N qual (defScope st) f cdv A outer s H E).nox (defBody st) t ∧ t { nx:=fun _ H' => Q .non H', rt:=Q } (start N vs) H) : FnOk P w K mg base CX0 (k + 1) f fd ps sp:=by
 obtain ⟨oc, od, kV, doc, pm, an, cdv, ct, osl, rfl, lk, hcd⟩:=F.ex
 refine fn_of lk hcd S len fun A outer s H vs Q E hr hsp => ?_
 obtain ⟨t, h, q⟩:=hbody cdv A outer s H vs Q E hr hsp
 exact ⟨t, h.nox, q⟩
theorem Fun.binds {x qual : Str} {st : Stmt} {f : Addr} {fd : FuncData} {ps : List Str} (F : Fun K x qual st f fd)
  (h : ∀ (kV doc pm : Value) (an : Option Addr) (cdv ct : Value) (us : List Value), us.length = ps.length → bindArgs (PySem.W.fnOf x qual (defArgs st) (defBody st) (defScope st) .none kV doc pm an cdv ct) ⟨us, []⟩ = pure (ps.zip us)) : Binds K fd ps []:=by
 obtain ⟨oc, od, kV, doc, pm, an, cdv, ct, osl, rfl, lk, hcd⟩:=F.ex
 exact .all (h kV doc pm an cdv ct)
theorem fun_mk {x qual : Str} {st : Stmt} {f : Addr} {oc : Value} {od an : Option Addr} {osl : Array (Option Value)} {kV doc pm cdv ct : Value} (l : K.lookup f = some ⟨oc, od, .func (PySem.W.fnOf x qual (defArgs st) (defBody st) (defScope st) .none kV doc pm an cdv ct), osl⟩)
  (c : PySem.W.codeIn K cdv qual = true) (k : PySem.W.keepIn K (.ref f) = true) : Fun K x qual st f (PySem.W.fnOf x qual (defArgs st) (defBody st) (defScope st) .none kV doc pm an cdv ct):=⟨⟨oc, od, kV, doc, pm, an, cdv, ct, osl, rfl, l, c⟩, k⟩
end
section
variable {X : Cx}
end
end L2
section
namespace DL
open PySem PySem.Spec PyProof.Rows L2
inductive D where
 | non | bl (b : Bool) | int (i : Int) | str (x : Str) | tup (xs : List D) | lst (xs : List D) | scr (xs : List D) | res (i : Nat) | exv (C : Addr)
inductive S where
 | lst (xs : List D)
 | ins (C : Addr) (fs : List (Str × D))
 | dct (kvs : List (D × D))
 | dtt (kvs : List (D × D))
 | fdc (kvs : List (D × D))
noncomputable abbrev Sto:=List S
noncomputable abbrev Ev:=List (Option D)
inductive Out (α : Type) where
 | ok (a : α) (st : Sto)
 | exc (c : Addr) (st : Sto)
 | bad
noncomputable def Out.bind {α β : Type} (r : Out α) (k : α → Sto → Out β) : Out β:=match r with
 | .ok a st => k a st
 | .exc c st => .exc c st
 | .bad => .bad
theorem bind_ok {α β : Type} (a : α) (st : Sto) (k : α → Sto → Out β) : (Out.ok a st).bind k = k a st:=rfl
theorem nodup_at {α : Type} {l : List α} (hl : l.Nodup) {i j : Nat} {x : α} (a : l[i]? = some x) (b : l[j]? = some x) : i = j:=by
 obtain ⟨h1, e1⟩:=List.getElem?_eq_some_iff.mp a
 obtain ⟨h2, e2⟩:=List.getElem?_eq_some_iff.mp b
 have hp:=List.pairwise_iff_getElem.mp hl
 rcases Nat.lt_trichotomy i j with h | h | h
 ·exact absurd (e1.trans e2.symm) (hp i j h1 h2 h)
 ·exact h
 ·exact absurd (e2.trans e1.symm) (hp j i h2 h1 h)
noncomputable def ExcO (a C : Addr) : Heap → Prop:=fun h => ∃ o vs, h.get? a = some o ∧ o.cls = .ref C ∧ o.data = .fields vs
theorem ExcO.inj {a C C' : Addr} {h : Heap} (x : ExcO a C h) (y : ExcO a C' h) : C = C':=by
 obtain ⟨o, _, e, c, _⟩:=x
 obtain ⟨o', _, e', c', _⟩:=y
 rw [e] at e'
 cases e'
 rw [c] at c'
 exact Value.ref.inj c'
section
variable (K : PySem.W.Frag)
noncomputable def SqF (H : Hp) (a : Addr) (vs : List V) : Prop :=
 (∃ o, H a = some (.frz o (.lst vs))) ∨ ∃ (o : Obj) (its : Array Value) (n : Nat), K.lookup a = some o ∧ o.cls = .type "list" ∧ o.dict = none ∧ o.data = .seq its n ∧ its.size ≤ sizeLine ∧ Vals vs its.toList
mutual
noncomputable def Rep (O : List Addr) (H : Hp) : D → V → Prop
 | .non, v => v = .non
 | .bl b, v => v = .bl b
 | .int i, v => v = .int i
 | .str x, v => v = .str x
 | .tup ds, v => ∃ a vs, v = .ref a ∧ H a = some (.tup vs) ∧ Reps O H ds vs
 | .lst ds, v => ∃ a vs, v = .ref a ∧ a ∉ O ∧ H a = some (.lst vs) ∧ Reps O H ds vs
 | .scr ds, v => ∃ a vs, v = .ref a ∧ SqF K H a vs ∧ Reps O H ds vs
 | .res i, v => ∃ a, v = .ref a ∧ O[i]? = some a
 | .exv C, v => ∃ a, v = .ref a ∧ H a = some (.ext (ExcO a C))
noncomputable def Reps (O : List Addr) (H : Hp) : List D → List V → Prop
 | [], vs => vs = []
 | d :: ds, vs => ∃ v r, vs = v :: r ∧ Rep O H d v ∧ Reps O H ds r
end
noncomputable def Flds (O : List Addr) (H : Hp) : List (Str × D) → List (Str × V) → Prop
 | [], vs => vs = []
 | (x, d) :: ds, vs => ∃ v r, vs = (x, v) :: r ∧ Rep K O H d v ∧ Flds O H ds r
noncomputable def keyD : D → Option Key
 | .int i => some (.inl i)
 | .str x => some (.inr x)
 | _ => none
noncomputable def keyDs : List D → Option (List Key)
 | [] => some []
 | d :: ds => match keyD d, keyDs ds with
  | some k, some ks => some (k :: ks)
  | _, _ => none
noncomputable def keyT : D → Option (List Key)
 | .tup ds => keyDs ds
 | _ => none
noncomputable def Kvs {κ : Type} (f : D → Option κ) (O : List Addr) (H : Hp) : List (D × D) → List (κ × V) → Prop
 | [], vs => vs = []
 | (k, d) :: ds, vs => ∃ q v r, vs = (q, v) :: r ∧ f k = some q ∧ Rep K O H d v ∧ Kvs f O H ds r
noncomputable def RepS (O : List Addr) (H : Hp) (a : Addr) : S → Prop
 | .dct ds => ∃ vs, H a = some (.dK vs) ∧ Kvs K keyD O H ds vs
 | .dtt ds => ∃ vs, H a = some (.dT vs) ∧ Kvs K keyT O H ds vs
 | .fdc ds => ∃ o vs, H a = some (.frz o (.dK vs)) ∧ Kvs K keyD O H ds vs
 | .lst ds => ∃ vs, H a = some (.lst vs) ∧ Reps K O H ds vs
 | .ins C fs => ∃ dx vfs, H a = some (.ins C dx vfs) ∧ Flds K O H fs vfs
structure WR (O : List Addr) (H : Hp) (st : Sto) : Prop where
 len : O.length = st.length
 nd : O.Nodup
 at_ : ∀ (i : Nat) (a : Addr) (s : S), O[i]? = some a → st[i]? = some s → RepS K O H a s
structure Keep (O : List Addr) (H : Hp) (O' : List Addr) (H' : Hp) : Prop where
 tup : ∀ a vs, H a = some (.tup vs) → H' a = some (.tup vs)
 lst : ∀ a vs, a ∉ O → H a = some (.lst vs) → a ∉ O' ∧ H' a = some (.lst vs)
 frz : ∀ a vs, SqF K H a vs → SqF K H' a vs
 pre : ∀ (i : Nat) (a : Addr), O[i]? = some a → O'[i]? = some a
 exv : ∀ a C, H a = some (.ext (ExcO a C)) → H' a = some (.ext (ExcO a C))
end
section
variable {K : PySem.W.Frag} {O O1 O2 O' : List Addr} {H H1 H2 H' : Hp} {st st' : Sto}
theorem SqF.sq {a : Addr} {vs : List V} (h : SqF K H a vs) : SqL K H a vs:=by
 rcases h with ⟨o, h⟩ | h
 ·exact .inl (.inr ⟨o, h⟩)
 ·exact .inr h
theorem SqF.of {a : Addr} {vs : List V} (h : SqL K H a vs) (hn : H a ≠ some (.lst vs)) : SqF K H a vs:=by
 rcases h with (h | ⟨o, h⟩) | h
 ·exact absurd h hn
 ·exact .inl ⟨o, h⟩
 ·exact .inr h
theorem Keep.refl : Keep K O H O H:=⟨fun _ _ h => h, fun _ _ n h => ⟨n, h⟩, fun _ _ h => h, fun _ _ h => h, fun _ _ h => h⟩
theorem Keep.trans (a : Keep K O H O1 H1) (b : Keep K O1 H1 O2 H2) : Keep K O H O2 H2 :=
 ⟨fun x vs h => b.tup x vs (a.tup x vs h), fun x vs n h => let ⟨n1, h1⟩:=a.lst x vs n h; b.lst x vs n1 h1, fun x vs h => b.frz x vs (a.frz x vs h), fun i x h => b.pre i x (a.pre i x h), fun x C h => b.exv x C (a.exv x C h)⟩
mutual
theorem Rep.mono (k : Keep K O H O' H') : ∀ (d : D) (v : V), Rep K O H d v → Rep K O' H' d v
 | .non, _, h => by unfold Rep at h ⊢; exact h
 | .bl _, _, h => by unfold Rep at h ⊢; exact h
 | .int _, _, h => by unfold Rep at h ⊢; exact h
 | .str _, _, h => by unfold Rep at h ⊢; exact h
 | .tup ds, v, h => by
  unfold Rep at h ⊢
  obtain ⟨a, vs, e, q, r⟩:=h
  exact ⟨a, vs, e, k.tup _ _ q, Reps.mono k ds vs r⟩
 | .lst ds, v, h => by
  unfold Rep at h ⊢
  obtain ⟨a, vs, e, n, q, r⟩:=h
  exact ⟨a, vs, e, (k.lst _ _ n q).1, (k.lst _ _ n q).2, Reps.mono k ds vs r⟩
 | .scr ds, v, h => by
  unfold Rep at h ⊢
  obtain ⟨a, vs, e, q, r⟩:=h
  exact ⟨a, vs, e, k.frz _ _ q, Reps.mono k ds vs r⟩
 | .res i, v, h => by
  unfold Rep at h ⊢
  obtain ⟨a, e, q⟩:=h
  exact ⟨a, e, k.pre _ _ q⟩
 | .exv C, v, h => by
  unfold Rep at h ⊢
  obtain ⟨a, e, q⟩:=h
  exact ⟨a, e, k.exv _ _ q⟩
theorem Reps.mono (k : Keep K O H O' H') : ∀ (ds : List D) (vs : List V), Reps K O H ds vs → Reps K O' H' ds vs
 | [], _, h => by unfold Reps at h ⊢; exact h
 | d :: ds, vs, h => by
  unfold Reps at h ⊢
  obtain ⟨v, r, e, q, t⟩:=h
  exact ⟨v, r, e, Rep.mono k d v q, Reps.mono k ds r t⟩
end
theorem Kvs.mono {κ : Type} {f : D → Option κ} (k : Keep K O H O' H') : ∀ (ds : List (D × D)) (vs : List (κ × V)), Kvs K f O H ds vs → Kvs K f O' H' ds vs
 | [], _, h => by unfold Kvs at h ⊢; exact h
 | (x, d) :: ds, vs, h => by
  unfold Kvs at h ⊢
  obtain ⟨q, v, r, e, z, y, t⟩:=h
  exact ⟨q, v, r, e, z, Rep.mono k d v y, Kvs.mono k ds r t⟩
theorem Flds.mono (k : Keep K O H O' H') : ∀ (ds : List (Str × D)) (vs : List (Str × V)), Flds K O H ds vs → Flds K O' H' ds vs
 | [], _, h => by unfold Flds at h ⊢; exact h
 | (x, d) :: ds, vs, h => by
  unfold Flds at h ⊢
  obtain ⟨v, r, e, q, t⟩:=h
  exact ⟨v, r, e, Rep.mono k d v q, Flds.mono k ds r t⟩
theorem Rep.non_i {v : V} : Rep K O H .non v ↔ v = .non:=by unfold Rep; exact Iff.rfl
theorem Rep.bl_i {b : Bool} {v : V} : Rep K O H (.bl b) v ↔ v = .bl b:=by unfold Rep; exact Iff.rfl
theorem Rep.int_i {i : Int} {v : V} : Rep K O H (.int i) v ↔ v = .int i:=by unfold Rep; exact Iff.rfl
theorem Rep.str_i {x : Str} {v : V} : Rep K O H (.str x) v ↔ v = .str x:=by unfold Rep; exact Iff.rfl
theorem Rep.tup_i {ds : List D} {v : V} : Rep K O H (.tup ds) v ↔ ∃ a vs, v = .ref a ∧ H a = some (.tup vs) ∧ Reps K O H ds vs:=by unfold Rep; exact Iff.rfl
theorem Rep.lst_i {ds : List D} {v : V} : Rep K O H (.lst ds) v ↔ ∃ a vs, v = .ref a ∧ a ∉ O ∧ H a = some (.lst vs) ∧ Reps K O H ds vs:=by unfold Rep; exact Iff.rfl
theorem Rep.scr_i {ds : List D} {v : V} : Rep K O H (.scr ds) v ↔ ∃ a vs, v = .ref a ∧ SqF K H a vs ∧ Reps K O H ds vs:=by unfold Rep; exact Iff.rfl
theorem Rep.res_i {i : Nat} {v : V} : Rep K O H (.res i) v ↔ ∃ a, v = .ref a ∧ O[i]? = some a:=by unfold Rep; exact Iff.rfl
theorem Rep.exv_i {C : Addr} {v : V} : Rep K O H (.exv C) v ↔ ∃ a, v = .ref a ∧ H a = some (.ext (ExcO a C)):=by unfold Rep; exact Iff.rfl
theorem Reps.nil_i {vs : List V} : Reps K O H [] vs ↔ vs = []:=by unfold Reps; exact Iff.rfl
theorem Reps.cons_i {d : D} {ds : List D} {vs : List V} : Reps K O H (d :: ds) vs ↔ ∃ v r, vs = v :: r ∧ Rep K O H d v ∧ Reps K O H ds r:=by
 constructor
 ·intro h; unfold Reps at h; exact h
 ·intro h; unfold Reps; exact h
theorem Reps.length : ∀ {ds : List D} {vs : List V}, Reps K O H ds vs → ds.length = vs.length
 | [], _, h => by rw [Reps.nil_i] at h; subst h; rfl
 | d :: ds, vs, h => by
  obtain ⟨v, r, rfl, _, t⟩:=Reps.cons_i.mp h
  rw [List.length_cons, List.length_cons, Reps.length t]
theorem Reps.get : ∀ {ds : List D} {vs : List V} {i : Nat} {d : D}, Reps K O H ds vs → ds[i]? = some d → ∃ v, vs[i]? = some v ∧ Rep K O H d v
 | [], _, i, d, _, e => by simp at e
 | x :: ds, vs, 0, d, h, e => by
  obtain ⟨v, r, rfl, q, _⟩:=Reps.cons_i.mp h
  simp at e; subst e
  exact ⟨v, rfl, q⟩
 | x :: ds, vs, i + 1, d, h, e => by
  obtain ⟨v, r, rfl, _, t⟩:=Reps.cons_i.mp h
  obtain ⟨u, e1, q⟩:=Reps.get (i:=i) (d:=d) t (by simpa using e)
  exact ⟨u, by simpa using e1, q⟩
theorem Reps.append : ∀ {ds es : List D} {vs us : List V}, Reps K O H ds vs → Reps K O H es us → Reps K O H (ds ++ es) (vs ++ us)
 | [], _, _, _, h, k => by rw [Reps.nil_i] at h; subst h; exact k
 | d :: ds, es, vs, us, h, k => by
  obtain ⟨v, r, rfl, q, t⟩:=Reps.cons_i.mp h
  exact Reps.cons_i.mpr ⟨v, r ++ us, rfl, q, Reps.append t k⟩
theorem Reps.take : ∀ {ds : List D} {vs : List V} (n : Nat), Reps K O H ds vs → Reps K O H (ds.take n) (vs.take n)
 | ds, vs, 0, _ => by rw [List.take_zero, List.take_zero]; exact Reps.nil_i.mpr rfl
 | [], vs, n + 1, h => by rw [Reps.nil_i] at h; subst h; exact Reps.nil_i.mpr rfl
 | d :: ds, vs, n + 1, h => by
  obtain ⟨v, r, rfl, q, t⟩:=Reps.cons_i.mp h
  exact Reps.cons_i.mpr ⟨v, r.take n, rfl, q, Reps.take n t⟩
theorem Reps.drop : ∀ {ds : List D} {vs : List V} (n : Nat), Reps K O H ds vs → Reps K O H (ds.drop n) (vs.drop n)
 | ds, vs, 0, h => by rw [List.drop_zero, List.drop_zero]; exact h
 | [], vs, n + 1, h => by rw [Reps.nil_i] at h; subst h; exact Reps.nil_i.mpr rfl
 | d :: ds, vs, n + 1, h => by
  obtain ⟨v, r, rfl, q, t⟩:=Reps.cons_i.mp h
  exact Reps.drop n t
theorem Reps.set {d : D} {v : V} (q : Rep K O H d v) : ∀ {ds : List D} {vs : List V} (n : Nat), Reps K O H ds vs → Reps K O H (ds.set n d) (vs.set n v)
 | [], vs, n, h => by rw [Reps.nil_i] at h; subst h; exact Reps.nil_i.mpr rfl
 | x :: ds, vs, 0, h => by
  obtain ⟨u, r, rfl, _, t⟩:=Reps.cons_i.mp h
  exact Reps.cons_i.mpr ⟨v, r, rfl, q, t⟩
 | x :: ds, vs, n + 1, h => by
  obtain ⟨u, r, rfl, q', t⟩:=Reps.cons_i.mp h
  exact Reps.cons_i.mpr ⟨u, r.set n v, rfl, q', Reps.set q n t⟩
theorem Reps.one {d : D} {v : V} (q : Rep K O H d v) : Reps K O H [d] [v]:=Reps.cons_i.mpr ⟨v, [], rfl, q, Reps.nil_i.mpr rfl⟩
theorem Reps.rep {ds : List D} {vs : List V} (h : Reps K O H ds vs) : ∀ k : Nat, Reps K O H (List.replicate k ds).flatten (List.replicate k vs).flatten
 | 0 => by simp only [List.replicate_zero, List.flatten_nil]; exact Reps.nil_i.mpr rfl
 | k + 1 => by simp only [List.replicate_succ, List.flatten_cons]; exact Reps.append h (Reps.rep h k)
noncomputable def isS : HO → Bool
 | .lst _ => true
 | .ins _ _ _ => true
 | .dK _ => true
 | .dT _ => true
 | .frz _ (.dK _) => true
 | _ => false
theorem tup_upd {a p : Addr} {o : HO} {vs : List V} (h : H a = some (.tup vs)) (hp : H p = none ∨ ∃ o, H p = some o ∧ isS o = true) : upd H p o a = some (.tup vs):=by
 rw [upd_ne]
 ·exact h
 ·rintro rfl
  rcases hp with q | ⟨u, q, z⟩
  ·rw [q] at h; cases h
  ·rw [q] at h; cases h; cases z
theorem sqF_upd {a p : Addr} {o : HO} {vs : List V} (h : SqF K H a vs) (hp : H p = none ∨ ∃ o, H p = some o ∧ isS o = true) : SqF K (upd H p o) a vs:=by
 rcases h with ⟨ob, h⟩ | h
 ·refine .inl ⟨ob, ?_⟩
  rw [upd_ne]
  ·exact h
  ·rintro rfl
   rcases hp with q | ⟨u, q, z⟩
   ·rw [q] at h; cases h
   ·rw [q] at h; cases h; cases z
 ·exact .inr h
theorem Keep.laid {p : Addr} {o : HO} (hp : H p = none) : Keep K O H O (upd H p o) :=
 ⟨fun _ _ h => tup_upd h (.inl hp), fun a vs n h => ⟨n, by rw [upd_ne (ne_of_none h hp)]; exact h⟩, fun _ _ h => sqF_upd h (.inl hp), fun _ _ h => h, fun a C h => by rw [upd_ne (ne_of_none h hp)]; exact h⟩
theorem RepS.mono' (k : Keep K O H O' H') {a : Addr} (e : H' a = H a) : ∀ {s : S}, RepS K O H a s → RepS K O' H' a s
 | .lst ds, h => by
  obtain ⟨vs, q, r⟩:=h
  exact ⟨vs, by rw [e]; exact q, Reps.mono k _ _ r⟩
 | .ins C fs, h => by
  obtain ⟨dx, vs, q, r⟩:=h
  exact ⟨dx, vs, by rw [e]; exact q, Flds.mono k _ _ r⟩
 | .dct ds, h => by
  obtain ⟨vs, q, r⟩:=h
  exact ⟨vs, by rw [e]; exact q, Kvs.mono k _ _ r⟩
 | .dtt ds, h => by
  obtain ⟨vs, q, r⟩:=h
  exact ⟨vs, by rw [e]; exact q, Kvs.mono k _ _ r⟩
 | .fdc ds, h => by
  obtain ⟨o, vs, q, r⟩:=h
  exact ⟨o, vs, by rw [e]; exact q, Kvs.mono k _ _ r⟩
theorem RepS.some_of {a : Addr} : ∀ {s : S}, RepS K O H a s → ∃ o, H a = some o ∧ isS o = true
 | .lst ds, ⟨vs, q, _⟩ => ⟨_, q, rfl⟩
 | .ins C fs, ⟨dx, vs, q, _⟩ => ⟨_, q, rfl⟩
 | .dct ds, ⟨vs, q, _⟩ => ⟨_, q, rfl⟩
 | .dtt ds, ⟨vs, q, _⟩ => ⟨_, q, rfl⟩
 | .fdc ds, ⟨_, vs, q, _⟩ => ⟨_, q, rfl⟩
theorem WR.some_of (W : WR K O H st) {i : Nat} {a : Addr} (h : O[i]? = some a) : ∃ o, H a = some o ∧ isS o = true:=by
 have hi : i < st.length:=by rw [← W.len]; exact (List.getElem?_eq_some_iff.mp h).1
 exact (W.at_ i a st[i] h (List.getElem?_eq_getElem hi)).some_of
theorem WR.ne (W : WR K O H st) {i : Nat} {a p : Addr} (h : O[i]? = some a) (hp : H p = none) : a ≠ p:=by
 rintro rfl
 obtain ⟨_, q, _⟩:=W.some_of h
 rw [hp] at q
 cases q
theorem WR.laid (W : WR K O H st) {p : Addr} {o : HO} (hp : H p = none) : WR K O (upd H p o) st :=
 ⟨W.len, W.nd, fun i a s h1 h2 => (W.at_ i a s h1 h2).mono' (Keep.laid hp) (by rw [upd_ne (W.ne h1 hp)])⟩
theorem Keep.push {p : Addr} {o : HO} (hp : H p = none) : Keep K O H (O ++ [p]) (upd H p o) :=
 ⟨fun _ _ h => tup_upd h (.inl hp), fun a vs n h => ⟨fun hm => by
   rcases List.mem_append.mp hm with q | q
   ·exact n q
   ·rw [List.mem_singleton] at q; exact ne_of_none h hp q, by rw [upd_ne (ne_of_none h hp)]; exact h⟩,
  fun _ _ h => sqF_upd h (.inl hp), fun i a h => by rw [List.getElem?_append_left (List.getElem?_eq_some_iff.mp h).1]; exact h, fun a C h => by rw [upd_ne (ne_of_none h hp)]; exact h⟩
theorem WR.push' (W : WR K O H st) {p : Addr} {o : HO} {s : S} (hp : H p = none) (hs : RepS K (O ++ [p]) (upd H p o) p s) : WR K (O ++ [p]) (upd H p o) (st ++ [s]):=by
 refine ⟨by simp [W.len], ?_, fun i a s' h1 h2 => ?_⟩
 ·refine List.nodup_append.mpr ⟨W.nd, by simp, fun a ha b hb => ?_⟩
  rw [List.mem_singleton] at hb
  subst hb
  obtain ⟨i, hi⟩:=List.mem_iff_getElem?.mp ha
  exact W.ne hi hp
 ·by_cases hi : i < O.length
  ·rw [List.getElem?_append_left hi] at h1
   rw [List.getElem?_append_left (by rw [← W.len]; exact hi)] at h2
   exact (W.at_ i a s' h1 h2).mono' (Keep.push hp) (by rw [upd_ne (W.ne h1 hp)])
  ·rw [List.getElem?_append_right (by omega)] at h1
   rw [List.getElem?_append_right (by rw [← W.len]; omega)] at h2
   rw [← W.len] at h2
   have e0 : i - O.length = 0:=by
    have:=(List.getElem?_eq_some_iff.mp h1).1
    simp at this
    omega
   rw [e0] at h1 h2
   simp at h1 h2
   subst h1 h2
   exact hs
theorem WR.push (W : WR K O H st) {p : Addr} {ds : List D} {vs : List V} (hp : H p = none) (r : Reps K O H ds vs) : WR K (O ++ [p]) (upd H p (.lst vs)) (st ++ [.lst ds]) :=
 W.push' hp ⟨vs, upd_same, Reps.mono (Keep.push hp) _ _ r⟩
theorem rep_last {p : Addr} {st : Sto} (e : O.length = st.length) : Rep K (O ++ [p]) H' (.res st.length) (.ref p):=by
 rw [Rep.res_i]
 exact ⟨p, rfl, by rw [← e, List.getElem?_append_right (Nat.le_refl _)]; simp⟩
theorem Keep.write (W : WR K O H st) {i : Nat} {a : Addr} {o : HO} (h : O[i]? = some a) : Keep K O H O (upd H a o):=by
 have q:=W.some_of h
 refine ⟨fun _ _ z => tup_upd z (.inr q), fun b vs n z => ⟨n, ?_⟩, fun _ _ z => sqF_upd z (.inr q), fun _ _ z => z, fun b C z => ?_⟩
 ·rw [upd_ne]
  ·exact z
  ·rintro rfl
   exact n (List.mem_of_getElem? h)
 ·rw [upd_ne]
  ·exact z
  ·rintro rfl
   obtain ⟨_, q, y⟩:=q
   rw [z] at q
   cases q
   cases y
theorem WR.write (W : WR K O H st) {i : Nat} {a : Addr} {o : HO} {s : S} (h : O[i]? = some a) (hs : RepS K O (upd H a o) a s) : WR K O (upd H a o) (st.set i s):=by
 refine ⟨by rw [List.length_set]; exact W.len, W.nd, fun j b s' h1 h2 => ?_⟩
 by_cases hj : i = j
 ·subst hj
  rw [h] at h1
  cases h1
  have hi : i < st.length:=by rw [← W.len]; exact (List.getElem?_eq_some_iff.mp h).1
  rw [List.getElem?_set_self hi] at h2
  cases h2
  exact hs
 ·rw [List.getElem?_set_ne hj] at h2
  refine (W.at_ j b s' h1 h2).mono' (Keep.write W h) ?_
  rw [upd_ne]
  rintro rfl
  exact hj (nodup_at W.nd h h1)
theorem WR.writeL (W : WR K O H st) {i : Nat} {a : Addr} {ds : List D} {vs : List V} (h : O[i]? = some a) (r : Reps K O H ds vs) : WR K O (upd H a (.lst vs)) (st.set i (.lst ds)) :=
 W.write h ⟨vs, upd_same, Reps.mono (Keep.write W h) _ _ r⟩
noncomputable def seqL (st : Sto) : D → Option (List D)
 | .lst xs => some xs
 | .scr xs => some xs
 | .res i => match st[i]? with
  | some (.lst xs) => some xs
  | _ => none
 | _ => none
noncomputable def ownL (st : Sto) : D → Option (List D)
 | .lst xs => some xs
 | .res i => match st[i]? with
  | some (.lst xs) => some xs
  | _ => none
 | _ => none
theorem rdO (W : WR K O H st) {d : D} {v : V} {ds : List D} (r : Rep K O H d v) (e : ownL st d = some ds) : ∃ a vs, v = .ref a ∧ H a = some (.lst vs) ∧ Reps K O H ds vs:=by
 cases d with
 | lst xs =>
  rw [Rep.lst_i] at r
  obtain ⟨a, vs, rfl, _, q, t⟩:=r
  simp only [ownL, Option.some.injEq] at e
  subst e
  exact ⟨a, vs, rfl, q, t⟩
 | res i =>
  rw [Rep.res_i] at r
  obtain ⟨a, rfl, q⟩:=r
  have hi : i < st.length:=by rw [← W.len]; exact (List.getElem?_eq_some_iff.mp q).1
  have z:=W.at_ i a st[i] q (List.getElem?_eq_getElem hi)
  simp only [ownL, List.getElem?_eq_getElem hi] at e
  cases hs : st[i] with
  | lst xs =>
   rw [hs] at e z
   simp only [Option.some.injEq] at e
   subst e
   obtain ⟨vs, z1, z2⟩:=z
   exact ⟨a, vs, rfl, z1, z2⟩
  | _ => rw [hs] at e; cases e
 | _ => cases e
theorem rdL (W : WR K O H st) {d : D} {v : V} {ds : List D} (r : Rep K O H d v) (e : seqL st d = some ds) : ∃ a vs, v = .ref a ∧ SqL K H a vs ∧ Reps K O H ds vs:=by
 cases d with
 | scr xs =>
  rw [Rep.scr_i] at r
  obtain ⟨a, vs, rfl, q, t⟩:=r
  simp only [seqL, Option.some.injEq] at e
  subst e
  exact ⟨a, vs, rfl, q.sq, t⟩
 | lst xs =>
  obtain ⟨a, vs, h1, h2, h3⟩:=rdO W r (show ownL st (.lst xs) = some ds from e)
  exact ⟨a, vs, h1, SqL.of h2, h3⟩
 | res i =>
  obtain ⟨a, vs, h1, h2, h3⟩:=rdO W r (show ownL st (.res i) = some ds from e)
  exact ⟨a, vs, h1, SqL.of h2, h3⟩
 | _ => cases e
section
variable {X : Cx} {pins : List (Addr × Obj)} {σ : L2.St} {s : Shared}
theorem K_none (I : Inv X pins σ H s) {a : Addr} {o : Obj} (h : X.K.lookup a = some o) : H a = none:=(I.bs a o (I.ok.mod.kin a o h)).2
end
end
end DL
end
section
namespace DL
open PySem PySem.Spec PyProof.Rows L2
noncomputable def Ans (A : Around) (s : Shared) (u w : Value) (k : Bool) : Prop:=SeqAt.EqAt A s u w k ∧ SeqAt.RcAt A s u w k ∧ SeqAt.RcNeAt A s u w (!k)
section
variable {A : Around} {s : Shared}
theorem eqc_non_non : Ans A s .none .none true:=⟨SeqAt.EqAt.same _, SeqAt.RcAt.none_none, SeqAt.RcNeAt.none_none⟩
theorem eqc_non_bl {b2 : Bool} : Ans A s .none (.bool b2) false:=⟨SeqAt.EqAt.none_bool _, SeqAt.RcAt.none_bool _, SeqAt.RcNeAt.none_bool _⟩
theorem eqc_non_int {i2 : Int} {t2 : Tok} : Ans A s .none (.int i2 t2) false:=⟨SeqAt.EqAt.none_int _ _, SeqAt.RcAt.none_int _ _, SeqAt.RcNeAt.none_int _ _⟩
theorem eqc_non_str {x2 : Str} {t2 : Tok} : Ans A s .none (.str x2 t2) false:=⟨SeqAt.EqAt.none_str _ _, SeqAt.RcAt.none_str _ _, SeqAt.RcNeAt.none_str _ _⟩
theorem eqc_non_tup {a2 : Addr} {its2 : Array Value} (z2 : s.heap.IsTuple a2 its2) (hu : A.units < cLine) : Ans A s .none (.ref a2) false:=⟨SeqAt.EqAt.none_tuple z2 hu, SeqAt.RcAt.none_tuple z2 hu, SeqAt.RcNeAt.none_tuple z2 hu⟩
theorem eqc_non_lst {a2 : Addr} {its2 : Array Value} (z2 : s.heap.IsList a2 its2) (hu : A.units < cLine) : Ans A s .none (.ref a2) false:=⟨SeqAt.EqAt.none_list z2 hu, SeqAt.RcAt.none_list z2 hu, SeqAt.RcNeAt.none_list z2 hu⟩
theorem eqc_bl_non {b1 : Bool} : Ans A s (.bool b1) .none false:=⟨SeqAt.EqAt.bool_none _, SeqAt.RcAt.bool_none _, SeqAt.RcNeAt.bool_none _⟩
theorem eqc_bl_bl {b1 : Bool} {b2 : Bool} : Ans A s (.bool b1) (.bool b2) (b1 == b2):=⟨SeqAt.EqAt.bool_bool _ _, SeqAt.RcAt.bool_bool _ _, SeqAt.RcNeAt.bool_bool _ _⟩
theorem eqc_bl_int {b1 : Bool} {i2 : Int} {t2 : Tok} : Ans A s (.bool b1) (.int i2 t2) ((if b1 then 1 else 0) == i2):=⟨SeqAt.EqAt.bool_int _ _ _, SeqAt.RcAt.bool_int _ _ _, SeqAt.RcNeAt.bool_int _ _ _⟩
theorem eqc_bl_str {b1 : Bool} {x2 : Str} {t2 : Tok} : Ans A s (.bool b1) (.str x2 t2) false:=⟨SeqAt.EqAt.bool_str _ _ _, SeqAt.RcAt.bool_str _ _ _, SeqAt.RcNeAt.bool_str _ _ _⟩
theorem eqc_bl_tup {b1 : Bool} {a2 : Addr} {its2 : Array Value} (z2 : s.heap.IsTuple a2 its2) (hu : A.units < cLine) : Ans A s (.bool b1) (.ref a2) false:=⟨SeqAt.EqAt.bool_tuple _ z2 hu, SeqAt.RcAt.bool_tuple _ z2 hu, SeqAt.RcNeAt.bool_tuple _ z2 hu⟩
theorem eqc_bl_lst {b1 : Bool} {a2 : Addr} {its2 : Array Value} (z2 : s.heap.IsList a2 its2) (hu : A.units < cLine) : Ans A s (.bool b1) (.ref a2) false:=⟨SeqAt.EqAt.bool_list _ z2 hu, SeqAt.RcAt.bool_list _ z2 hu, SeqAt.RcNeAt.bool_list _ z2 hu⟩
theorem eqc_int_non {i1 : Int} {t1 : Tok} : Ans A s (.int i1 t1) .none false:=⟨SeqAt.EqAt.int_none _ _, SeqAt.RcAt.int_none _ _, SeqAt.RcNeAt.int_none _ _⟩
theorem eqc_int_bl {i1 : Int} {t1 : Tok} {b2 : Bool} : Ans A s (.int i1 t1) (.bool b2) (i1 == (if b2 then 1 else 0)):=⟨SeqAt.EqAt.int_bool _ _ _, SeqAt.RcAt.int_bool _ _ _, SeqAt.RcNeAt.int_bool _ _ _⟩
theorem eqc_int_int {i1 : Int} {t1 : Tok} {i2 : Int} {t2 : Tok} : Ans A s (.int i1 t1) (.int i2 t2) (i1 == i2):=⟨SeqAt.EqAt.int_int _ _ _ _, SeqAt.RcAt.int_int _ _ _ _, SeqAt.RcNeAt.int_int _ _ _ _⟩
theorem eqc_int_str {i1 : Int} {t1 : Tok} {x2 : Str} {t2 : Tok} : Ans A s (.int i1 t1) (.str x2 t2) false:=⟨SeqAt.EqAt.int_str _ _ _ _, SeqAt.RcAt.int_str _ _ _ _, SeqAt.RcNeAt.int_str _ _ _ _⟩
theorem eqc_int_tup {i1 : Int} {t1 : Tok} {a2 : Addr} {its2 : Array Value} (z2 : s.heap.IsTuple a2 its2) (hu : A.units < cLine) : Ans A s (.int i1 t1) (.ref a2) false:=⟨SeqAt.EqAt.int_tuple _ _ z2 hu, SeqAt.RcAt.int_tuple _ _ z2 hu, SeqAt.RcNeAt.int_tuple _ _ z2 hu⟩
theorem eqc_int_lst {i1 : Int} {t1 : Tok} {a2 : Addr} {its2 : Array Value} (z2 : s.heap.IsList a2 its2) (hu : A.units < cLine) : Ans A s (.int i1 t1) (.ref a2) false:=⟨SeqAt.EqAt.int_list _ _ z2 hu, SeqAt.RcAt.int_list _ _ z2 hu, SeqAt.RcNeAt.int_list _ _ z2 hu⟩
theorem eqc_str_non {x1 : Str} {t1 : Tok} : Ans A s (.str x1 t1) .none false:=⟨SeqAt.EqAt.str_none _ _, SeqAt.RcAt.str_none _ _, SeqAt.RcNeAt.str_none _ _⟩
theorem eqc_str_bl {x1 : Str} {t1 : Tok} {b2 : Bool} : Ans A s (.str x1 t1) (.bool b2) false:=⟨SeqAt.EqAt.str_bool _ _ _, SeqAt.RcAt.str_bool _ _ _, SeqAt.RcNeAt.str_bool _ _ _⟩
theorem eqc_str_int {x1 : Str} {t1 : Tok} {i2 : Int} {t2 : Tok} : Ans A s (.str x1 t1) (.int i2 t2) false:=⟨SeqAt.EqAt.str_int _ _ _ _, SeqAt.RcAt.str_int _ _ _ _, SeqAt.RcNeAt.str_int _ _ _ _⟩
theorem eqc_str_str {x1 : Str} {t1 : Tok} {x2 : Str} {t2 : Tok} : Ans A s (.str x1 t1) (.str x2 t2) (x1 == x2):=⟨SeqAt.EqAt.str_str _ _ _ _, SeqAt.RcAt.str_str _ _ _ _, SeqAt.RcNeAt.str_str _ _ _ _⟩
theorem eqc_str_tup {x1 : Str} {t1 : Tok} {a2 : Addr} {its2 : Array Value} (z2 : s.heap.IsTuple a2 its2) (hu : A.units < cLine) : Ans A s (.str x1 t1) (.ref a2) false:=⟨SeqAt.EqAt.str_tuple _ _ z2 hu, SeqAt.RcAt.str_tuple _ _ z2 hu, SeqAt.RcNeAt.str_tuple _ _ z2 hu⟩
theorem eqc_str_lst {x1 : Str} {t1 : Tok} {a2 : Addr} {its2 : Array Value} (z2 : s.heap.IsList a2 its2) (hu : A.units < cLine) : Ans A s (.str x1 t1) (.ref a2) false:=⟨SeqAt.EqAt.str_list _ _ z2 hu, SeqAt.RcAt.str_list _ _ z2 hu, SeqAt.RcNeAt.str_list _ _ z2 hu⟩
theorem eqc_tup_non {a1 : Addr} {its1 : Array Value} (z1 : s.heap.IsTuple a1 its1) (hu : A.units < cLine) : Ans A s (.ref a1) .none false:=⟨SeqAt.EqAt.tuple_none z1 hu, SeqAt.RcAt.tuple_none z1 hu, SeqAt.RcNeAt.tuple_none z1 hu⟩
theorem eqc_tup_bl {a1 : Addr} {its1 : Array Value} (z1 : s.heap.IsTuple a1 its1) {b2 : Bool} (hu : A.units < cLine) : Ans A s (.ref a1) (.bool b2) false:=⟨SeqAt.EqAt.tuple_bool _ z1 hu, SeqAt.RcAt.tuple_bool _ z1 hu, SeqAt.RcNeAt.tuple_bool _ z1 hu⟩
theorem eqc_tup_int {a1 : Addr} {its1 : Array Value} (z1 : s.heap.IsTuple a1 its1) {i2 : Int} {t2 : Tok} (hu : A.units < cLine) : Ans A s (.ref a1) (.int i2 t2) false:=⟨SeqAt.EqAt.tuple_int _ _ z1 hu, SeqAt.RcAt.tuple_int _ _ z1 hu, SeqAt.RcNeAt.tuple_int _ _ z1 hu⟩
theorem eqc_tup_str {a1 : Addr} {its1 : Array Value} (z1 : s.heap.IsTuple a1 its1) {x2 : Str} {t2 : Tok} (hu : A.units < cLine) : Ans A s (.ref a1) (.str x2 t2) false:=⟨SeqAt.EqAt.tuple_str _ _ z1 hu, SeqAt.RcAt.tuple_str _ _ z1 hu, SeqAt.RcNeAt.tuple_str _ _ z1 hu⟩
theorem eqc_tup_lst {a1 : Addr} {its1 : Array Value} (z1 : s.heap.IsTuple a1 its1) {a2 : Addr} {its2 : Array Value} (z2 : s.heap.IsList a2 its2) (hu : A.units < cLine) : Ans A s (.ref a1) (.ref a2) false:=⟨SeqAt.EqAt.tuple_list z1 z2 hu, SeqAt.RcAt.tuple_list z1 z2 hu, SeqAt.RcNeAt.tuple_list z1 z2 hu⟩
theorem eqc_lst_non {a1 : Addr} {its1 : Array Value} (z1 : s.heap.IsList a1 its1) (hu : A.units < cLine) : Ans A s (.ref a1) .none false:=⟨SeqAt.EqAt.list_none z1 hu, SeqAt.RcAt.list_none z1 hu, SeqAt.RcNeAt.list_none z1 hu⟩
theorem eqc_lst_bl {a1 : Addr} {its1 : Array Value} (z1 : s.heap.IsList a1 its1) {b2 : Bool} (hu : A.units < cLine) : Ans A s (.ref a1) (.bool b2) false:=⟨SeqAt.EqAt.list_bool _ z1 hu, SeqAt.RcAt.list_bool _ z1 hu, SeqAt.RcNeAt.list_bool _ z1 hu⟩
theorem eqc_lst_int {a1 : Addr} {its1 : Array Value} (z1 : s.heap.IsList a1 its1) {i2 : Int} {t2 : Tok} (hu : A.units < cLine) : Ans A s (.ref a1) (.int i2 t2) false:=⟨SeqAt.EqAt.list_int _ _ z1 hu, SeqAt.RcAt.list_int _ _ z1 hu, SeqAt.RcNeAt.list_int _ _ z1 hu⟩
theorem eqc_lst_str {a1 : Addr} {its1 : Array Value} (z1 : s.heap.IsList a1 its1) {x2 : Str} {t2 : Tok} (hu : A.units < cLine) : Ans A s (.ref a1) (.str x2 t2) false:=⟨SeqAt.EqAt.list_str _ _ z1 hu, SeqAt.RcAt.list_str _ _ z1 hu, SeqAt.RcNeAt.list_str _ _ z1 hu⟩
theorem eqc_lst_tup {a1 : Addr} {its1 : Array Value} (z1 : s.heap.IsList a1 its1) {a2 : Addr} {its2 : Array Value} (z2 : s.heap.IsTuple a2 its2) (hu : A.units < cLine) : Ans A s (.ref a1) (.ref a2) false:=⟨SeqAt.EqAt.list_tuple z1 z2 hu, SeqAt.RcAt.list_tuple z1 z2 hu, SeqAt.RcNeAt.list_tuple z1 z2 hu⟩
end
inductive Kd where
 | non | bl (b : Bool) | int (i : Int) | str (x : Str) | tup (xs : List D) | lst (xs : List D) | no
noncomputable def kd (st : Sto) : D → Kd
 | .non => .non
 | .bl b => .bl b
 | .int i => .int i
 | .str x => .str x
 | .tup xs => .tup xs
 | .lst xs => .lst xs
 | .scr xs => .lst xs
 | .res i => match st[i]? with
  | some (.lst xs) => .lst xs
  | _ => .no
 | .exv _ => .no
noncomputable def eqItems (f : D → D → Option Bool) : List D → List D → Option Bool
 | [], [] => some true
 | [], _ :: _ => some false
 | _ :: _, [] => some false
 | x :: xs, y :: ys => match f x y, eqItems f xs ys with
  | some a, some b => some (a && b)
  | _, _ => none
noncomputable def eqN (st : Sto) : Nat → D → D → Option Bool
 | 0, _, _ => none
 | n + 1, a, b => match kd st a, kd st b with
  | .tup xs, .tup ys => eqItems (eqN st n) xs ys
  | .lst xs, .lst ys => eqItems (eqN st n) xs ys
  | .non, .non => some true
  | .bl x, .bl y => some (x == y)
  | .int x, .int y => some (x == y)
  | .str x, .str y => some (x == y)
  | .bl x, .int y => some ((if x then 1 else 0) == y)
  | .int x, .bl y => some (x == (if y then 1 else 0))
  | .no, _ => none
  | _, .no => none
  | _, _ => some false
section
variable {X : Cx} {pins : List (Addr × Obj)} {σ : L2.St} {s : Shared} {O : List Addr} {H : Hp} {st : Sto}
theorem sqT_lst (I : Inv X pins σ H s) {a : Addr} {vs xs : List V} (h : SqT X.K H a vs) (q : H a = some (.lst xs)) : False:=by
 rcases h with (h | ⟨ob, h⟩) | ⟨o, _, _, h, _⟩
 ·rw [h] at q; cases q
 ·rw [h] at q; cases q
 ·rw [K_none I h] at q; cases q
theorem sqF_lst (I : Inv X pins σ H s) {a : Addr} {vs xs : List V} (h : SqF X.K H a vs) (q : H a = some (.lst xs)) : False:=by
 rcases h with ⟨ob, h⟩ | ⟨o, _, _, h, _⟩
 ·rw [h] at q; cases q
 ·rw [K_none I h] at q; cases q
theorem sqT_sqF (I : Inv X pins σ H s) {a : Addr} {vs xs : List V} (h : SqT X.K H a vs) (q : SqF X.K H a xs) : False:=by
 rcases h with (h | ⟨ob, h⟩) | ⟨o, _, _, h, c, _⟩ <;> rcases q with ⟨ob', q⟩ | ⟨o', _, _, q, c', _⟩
 ·rw [h] at q; cases q
 ·rw [K_none I q] at h; cases h
 ·rw [h] at q; cases q
 ·rw [K_none I q] at h; cases h
 ·rw [K_none I h] at q; cases q
 ·rw [h] at q; cases q; rw [c] at c'; exact absurd (Value.type.inj c') (by decide)
theorem sqT_S (I : Inv X pins σ H s) {a : Addr} {vs : List V} {o : HO} (h : SqT X.K H a vs) (q : H a = some o) (z : isS o = true) : False:=by
 rcases h with (h | ⟨ob, h⟩) | ⟨_, _, _, h, _⟩
 ·rw [h] at q; cases q; cases z
 ·rw [h] at q; cases q; cases z
 ·rw [K_none I h] at q; cases q
theorem sqF_S (I : Inv X pins σ H s) {a : Addr} {vs : List V} {o : HO} (h : SqF X.K H a vs) (q : H a = some o) (z : isS o = true) : False:=by
 rcases h with ⟨ob, h⟩ | ⟨_, _, _, h, _⟩
 ·rw [h] at q; cases q; cases z
 ·rw [K_none I h] at q; cases q
theorem sqT_ext (I : Inv X pins σ H s) {a : Addr} {vs : List V} {φ : Heap → Prop} (h : SqT X.K H a vs) (q : H a = some (.ext φ)) : False:=by
 rcases h with (h | ⟨ob, h⟩) | ⟨_, _, _, h, _⟩
 ·rw [h] at q; cases q
 ·rw [h] at q; cases q
 ·rw [K_none I h] at q; cases q
theorem sqF_ext (I : Inv X pins σ H s) {a : Addr} {vs : List V} {φ : Heap → Prop} (h : SqF X.K H a vs) (q : H a = some (.ext φ)) : False:=by
 rcases h with ⟨ob, h⟩ | ⟨_, _, _, h, _⟩
 ·rw [h] at q; cases q
 ·rw [K_none I h] at q; cases q
theorem res_T (I : Inv X pins σ H s) (W : WR X.K O H st) {i : Nat} {a : Addr} {vs : List V} (h : O[i]? = some a) (q : SqT X.K H a vs) : False:=by
 obtain ⟨o, z, y⟩:=W.some_of h
 exact sqT_S I q z y
theorem res_F (I : Inv X pins σ H s) (W : WR X.K O H st) {i : Nat} {a : Addr} {vs : List V} (h : O[i]? = some a) (q : SqF X.K H a vs) : False:=by
 obtain ⟨o, z, y⟩:=W.some_of h
 exact sqF_S I q z y
theorem res_ext (W : WR X.K O H st) {i : Nat} {a : Addr} {φ : Heap → Prop} (h : O[i]? = some a) (q : H a = some (.ext φ)) : False:=by
 obtain ⟨o, z, y⟩:=W.some_of h
 rw [q] at z
 cases z
 cases y
mutual
theorem Rep.inj (I : Inv X pins σ H s) (W : WR X.K O H st) : ∀ (d d' : D) (v : V), Rep X.K O H d v → Rep X.K O H d' v → d = d'
 | .non, d', v, h, h' => by
  rw [Rep.non_i] at h; subst h
  cases d' <;> unfold Rep at h' <;> first | rfl | (cases h'; done) | (obtain ⟨_, _, e, _⟩:=h'; cases e) | (obtain ⟨_, e, _⟩:=h'; cases e)
 | .bl b, d', v, h, h' => by
  rw [Rep.bl_i] at h; subst h
  cases d' <;> unfold Rep at h' <;> first | (cases h'; rfl) | (cases h'; done) | (obtain ⟨_, _, e, _⟩:=h'; cases e) | (obtain ⟨_, e, _⟩:=h'; cases e)
 | .int b, d', v, h, h' => by
  rw [Rep.int_i] at h; subst h
  cases d' <;> unfold Rep at h' <;> first | (cases h'; rfl) | (cases h'; done) | (obtain ⟨_, _, e, _⟩:=h'; cases e) | (obtain ⟨_, e, _⟩:=h'; cases e)
 | .str b, d', v, h, h' => by
  rw [Rep.str_i] at h; subst h
  cases d' <;> unfold Rep at h' <;> first | (cases h'; rfl) | (cases h'; done) | (obtain ⟨_, _, e, _⟩:=h'; cases e) | (obtain ⟨_, e, _⟩:=h'; cases e)
 | .tup ds, d', v, h, h' => by
  rw [Rep.tup_i] at h
  obtain ⟨a, vs, rfl, q, r⟩:=h
  cases d' with
  | tup ds' =>
   rw [Rep.tup_i] at h'
   obtain ⟨a', vs', e, q', r'⟩:=h'
   cases e
   have ev : vs = vs':=I.tuple_inj (SqT.of q) (SqT.of q')
   subst ev
   rw [Reps.inj I W ds ds' vs r r']
  | lst ds' => rw [Rep.lst_i] at h'; obtain ⟨a', vs', e, _, q', _⟩:=h'; cases e; exact (sqT_lst I (SqT.of q) q').elim
  | scr ds' => rw [Rep.scr_i] at h'; obtain ⟨a', vs', e, q', _⟩:=h'; cases e; exact (sqT_sqF I (SqT.of q) q').elim
  | res i => rw [Rep.res_i] at h'; obtain ⟨a', e, q'⟩:=h'; cases e; exact (res_T I W q' (SqT.of q)).elim
  | exv C => rw [Rep.exv_i] at h'; obtain ⟨a', e, q'⟩:=h'; cases e; exact (sqT_ext I (SqT.of q) q').elim
  | _ => unfold Rep at h'; cases h'
 | .lst ds, d', v, h, h' => by
  rw [Rep.lst_i] at h
  obtain ⟨a, vs, rfl, n, q, r⟩:=h
  cases d' with
  | tup ds' => rw [Rep.tup_i] at h'; obtain ⟨a', vs', e, q', _⟩:=h'; cases e; exact (sqT_lst I (SqT.of q') q).elim
  | lst ds' =>
   rw [Rep.lst_i] at h'
   obtain ⟨a', vs', e, _, q', r'⟩:=h'
   cases e
   rw [q] at q'
   cases q'
   rw [Reps.inj I W ds ds' vs r r']
  | scr ds' => rw [Rep.scr_i] at h'; obtain ⟨a', vs', e, q', _⟩:=h'; cases e; exact (sqF_lst I q' q).elim
  | res i => rw [Rep.res_i] at h'; obtain ⟨a', e, q'⟩:=h'; cases e; exact (n (List.mem_of_getElem? q')).elim
  | exv C => rw [Rep.exv_i] at h'; obtain ⟨a', e, q'⟩:=h'; cases e; rw [q] at q'; cases q'
  | _ => unfold Rep at h'; cases h'
 | .scr ds, d', v, h, h' => by
  rw [Rep.scr_i] at h
  obtain ⟨a, vs, rfl, q, r⟩:=h
  cases d' with
  | tup ds' => rw [Rep.tup_i] at h'; obtain ⟨a', vs', e, q', _⟩:=h'; cases e; exact (sqT_sqF I (SqT.of q') q).elim
  | lst ds' => rw [Rep.lst_i] at h'; obtain ⟨a', vs', e, _, q', _⟩:=h'; cases e; exact (sqF_lst I q q').elim
  | scr ds' =>
   rw [Rep.scr_i] at h'
   obtain ⟨a', vs', e, q', r'⟩:=h'
   cases e
   have ev : vs = vs':=I.list_inj q.sq q'.sq
   subst ev
   rw [Reps.inj I W ds ds' vs r r']
  | res i => rw [Rep.res_i] at h'; obtain ⟨a', e, q'⟩:=h'; cases e; exact (res_F I W q' q).elim
  | exv C => rw [Rep.exv_i] at h'; obtain ⟨a', e, q'⟩:=h'; cases e; exact (sqF_ext I q q').elim
  | _ => unfold Rep at h'; cases h'
 | .res i, d', v, h, h' => by
  rw [Rep.res_i] at h
  obtain ⟨a, rfl, q⟩:=h
  cases d' with
  | tup ds' => rw [Rep.tup_i] at h'; obtain ⟨a', vs', e, q', _⟩:=h'; cases e; exact (res_T I W q (SqT.of q')).elim
  | lst ds' => rw [Rep.lst_i] at h'; obtain ⟨a', vs', e, n, _, _⟩:=h'; cases e; exact (n (List.mem_of_getElem? q)).elim
  | scr ds' => rw [Rep.scr_i] at h'; obtain ⟨a', vs', e, q', _⟩:=h'; cases e; exact (res_F I W q q').elim
  | res j =>
   rw [Rep.res_i] at h'
   obtain ⟨a', e, q'⟩:=h'
   cases e
   rw [nodup_at W.nd q q']
  | exv C => rw [Rep.exv_i] at h'; obtain ⟨a', e, q'⟩:=h'; cases e; exact (res_ext W q q').elim
  | _ => unfold Rep at h'; cases h'
 | .exv C, d', v, h, h' => by
  rw [Rep.exv_i] at h
  obtain ⟨a, rfl, q⟩:=h
  cases d' with
  | tup ds' => rw [Rep.tup_i] at h'; obtain ⟨a', vs', e, q', _⟩:=h'; cases e; exact (sqT_ext I (SqT.of q') q).elim
  | lst ds' => rw [Rep.lst_i] at h'; obtain ⟨a', vs', e, n, q', _⟩:=h'; cases e; rw [q] at q'; cases q'
  | scr ds' => rw [Rep.scr_i] at h'; obtain ⟨a', vs', e, q', _⟩:=h'; cases e; exact (sqF_ext I q' q).elim
  | res j => rw [Rep.res_i] at h'; obtain ⟨a', e, q'⟩:=h'; cases e; exact (res_ext W q' q).elim
  | exv C' =>
   rw [Rep.exv_i] at h'
   obtain ⟨a', e, q'⟩:=h'
   cases e
   rw [(I.hok _ _ q).1.inj (I.hok _ _ q').1]
  | _ => unfold Rep at h'; cases h'
theorem Reps.inj (I : Inv X pins σ H s) (W : WR X.K O H st) : ∀ (ds ds' : List D) (vs : List V), Reps X.K O H ds vs → Reps X.K O H ds' vs → ds = ds'
 | [], ds', vs, h, h' => by
  rw [Reps.nil_i] at h; subst h
  cases ds' with
  | nil => rfl
  | cons d r => obtain ⟨_, _, e, _⟩:=Reps.cons_i.mp h'; cases e
 | d :: ds, ds', vs, h, h' => by
  obtain ⟨v, r, rfl, q, t⟩:=Reps.cons_i.mp h
  cases ds' with
  | nil => rw [Reps.nil_i] at h'; cases h'
  | cons d' r' =>
   obtain ⟨v', r2, e, q', t'⟩:=Reps.cons_i.mp h'
   cases e
   rw [Rep.inj I W d d' v q q', Reps.inj I W ds r' r t t']
end
theorem eqItems_refl {f : D → D → Option Bool} (hf : ∀ d k, f d d = some k → k = true) : ∀ (xs : List D) (k : Bool), eqItems f xs xs = some k → k = true
 | [], k, h => by simp only [eqItems, Option.some.injEq] at h; exact h.symm
 | x :: xs, k, h => by
  unfold eqItems at h
  cases e1 : f x x with
  | none => rw [e1] at h; cases h
  | some a =>
   cases e2 : eqItems f xs xs with
   | none => rw [e1, e2] at h; cases h
   | some b =>
    rw [e1, e2] at h
    simp only [Option.some.injEq] at h
    rw [← h, hf x a e1, eqItems_refl hf xs b e2]
    rfl
theorem eqN_refl : ∀ (n : Nat) (d : D) (k : Bool), eqN st n d d = some k → k = true
 | 0, d, k, h => by cases h
 | n + 1, d, k, h => by
  unfold eqN at h
  cases e : kd st d <;> rw [e] at h <;> simp only [beq_self_eq_true, Option.some.injEq] at h
  case tup xs => exact eqItems_refl (eqN_refl n) xs k h
  case lst xs => exact eqItems_refl (eqN_refl n) xs k h
  case no => cases h
  all_goals exact h.symm
theorem eqItems_len {f : D → D → Option Bool} : ∀ (xs ys : List D) (k : Bool), eqItems f xs ys = some k →
  (∀ (j : Nat) (x y : D), xs[j]? = some x → ys[j]? = some y → ∃ kj, f x y = some kj) ∧
  k = ((List.range (min xs.length ys.length)).all (fun j => ((xs[j]?.bind fun x => ys[j]?.bind fun y => f x y).getD false)) && xs.length == ys.length)
 | [], [], k, h => by
  simp only [eqItems, Option.some.injEq] at h
  subst h
  exact ⟨fun j x y e => by simp at e, rfl⟩
 | [], y :: ys, k, h => by
  simp only [eqItems, Option.some.injEq] at h
  subst h
  exact ⟨fun j x y e => by simp at e, by simp⟩
 | x :: xs, [], k, h => by
  simp only [eqItems, Option.some.injEq] at h
  subst h
  exact ⟨fun j x y _ e => by simp at e, by simp⟩
 | x :: xs, y :: ys, k, h => by
  unfold eqItems at h
  cases e1 : f x y with
  | none => rw [e1] at h; cases h
  | some a =>
   cases e2 : eqItems f xs ys with
   | none => rw [e1, e2] at h; cases h
   | some b =>
    rw [e1, e2] at h
    simp only [Option.some.injEq] at h
    obtain ⟨h1, h2⟩:=eqItems_len xs ys b e2
    refine ⟨fun j u w eu ew => ?_, ?_⟩
    ·cases j with
     | zero => simp at eu ew; subst eu ew; exact ⟨a, e1⟩
     | succ j => exact h1 j u w (by simpa using eu) (by simpa using ew)
    ·rw [← h, h2]
     have em : min (x :: xs).length (y :: ys).length = min xs.length ys.length + 1:=by simp only [List.length_cons]; omega
     rw [em, List.range_succ_eq_map]
     simp only [List.all_cons, List.all_map, List.getElem?_cons_zero, Option.bind_some, e1, Option.getD_some, List.length_cons, Function.comp_def, List.getElem?_cons_succ, Nat.succ_eq_add_one, Bool.and_assoc]
     congr 2
     by_cases hl : xs.length = ys.length
     ·simp [hl]
     ·have : ¬ (xs.length + 1 = ys.length + 1):=by omega
      simp [hl]
noncomputable def KdV (K : PySem.W.Frag) (O : List Addr) (H : Hp) (s : Shared) : Kd → Value → Prop
 | .non, u => u = .none
 | .bl b, u => u = .bool b
 | .int i, u => ∃ t, u = .int i t
 | .str x, u => ∃ t, u = .str x t
 | .tup xs, u => ∃ a vs its, u = .ref a ∧ Reps K O H xs vs ∧ Vals vs its ∧ s.heap.IsTuple a its.toArray
 | .lst xs, u => ∃ a vs its, u = .ref a ∧ Reps K O H xs vs ∧ Vals vs its ∧ s.heap.IsList a its.toArray
 | .no, _ => True
theorem kdV_lst (I : Inv X pins σ H s) (W : WR X.K O H st) {d : D} {v : V} {u : Value} {xs : List D} (r : Rep X.K O H d v) (q : RelV v u) (e : seqL st d = some xs) : KdV X.K O H s (.lst xs) u:=by
 obtain ⟨a, vs, rfl, z, t⟩:=rdL W r e
 obtain ⟨its, hv, hp, _⟩:=I.list z
 have q' : u = Value.ref a:=q
 subst q'
 exact ⟨a, vs, its, rfl, t, hv, hp.isList⟩
theorem kdV (I : Inv X pins σ H s) (W : WR X.K O H st) : ∀ {d : D} {v : V} {u : Value}, Rep X.K O H d v → RelV v u → KdV X.K O H s (kd st d) u
 | .non, v, u, r, q => by rw [Rep.non_i] at r; subst r; exact q
 | .bl b, v, u, r, q => by rw [Rep.bl_i] at r; subst r; exact q
 | .int b, v, u, r, q => by rw [Rep.int_i] at r; subst r; exact q
 | .str b, v, u, r, q => by rw [Rep.str_i] at r; subst r; exact q
 | .tup ds, v, u, r, q => by
  rw [Rep.tup_i] at r
  obtain ⟨a, vs, rfl, z, t⟩:=r
  obtain ⟨its, hv, hp, _⟩:=I.tuple (SqT.of z)
  have q' : u = Value.ref a:=q
  subst q'
  exact ⟨a, vs, its, rfl, t, hv, hp⟩
 | .lst ds, v, u, r, q => kdV_lst I W r q rfl
 | .scr ds, v, u, r, q => kdV_lst I W r q rfl
 | .res i, v, u, r, q => by
  have e : seqL st (.res i) = match st[i]? with
   | some (.lst xs) => some xs
   | _ => none:=rfl
  have e' : kd st (.res i) = match st[i]? with
   | some (.lst xs) => .lst xs
   | _ => .no:=rfl
  rw [e']
  cases hs : st[i]? with
  | none => exact trivial
  | some so =>
   cases so with
   | ins C fs => exact trivial
   | dct kvs => exact trivial
   | dtt kvs => exact trivial
   | fdc kvs => exact trivial
   | lst xs =>
    rw [hs] at e
    exact kdV_lst I W r q e
 | .exv C, v, u, r, q => trivial
theorem in1_units (A : Around) : A.in1.units = A.units + 1:=rfl
theorem eq_sound (I : Inv X pins σ H s) (W : WR X.K O H st) : ∀ (n : Nat) (a b : D) (k : Bool), eqN st n a b = some k → ∀ (A : Around) (x y : V) (u w : Value),
  Rep X.K O H a x → Rep X.K O H b y → RelV x u → RelV y w → A.units + n < cLine → Ans A s u w k
 | 0, a, b, k, h => by cases h
 | n + 1, a, b, k, h => by
  intro A x y u w ra rb qa qb hn
  have hu : A.units < cLine:=by omega
  have same : u = w → k = true:=by
   intro e
   subst e
   have e2 : x = y:=qa.inj qb
   subst e2
   have e3:=Rep.inj I W a b x ra rb
   subst e3
   exact eqN_refl (n + 1) a k h
  have ka:=kdV I W ra qa
  have kb:=kdV I W rb qb
  have items : ∀ {xs ys : List D} {vs ws : List V} {its its2 : List Value}, eqItems (eqN st n) xs ys = some k → Reps X.K O H xs vs → Reps X.K O H ys ws → Vals vs its → Vals ws its2 →
    (∀ j (h1 : j < its.toArray.size) (h2 : j < its2.toArray.size), SeqAt.EqAt A.in1 s its.toArray[j] its2.toArray[j] ((xs[j]?.bind fun x => ys[j]?.bind fun y => eqN st n x y).getD false)) ∧
    k = ((List.range (min its.toArray.size its2.toArray.size)).all (fun j => ((xs[j]?.bind fun x => ys[j]?.bind fun y => eqN st n x y).getD false)) && its.toArray.size == its2.toArray.size):=by
   intro xs ys vs ws its its2 he r1 r2 v1 v2
   obtain ⟨h1, h2⟩:=eqItems_len xs ys k he
   have l1 : its.toArray.size = xs.length:=by rw [List.size_toArray, ← v1.length, r1.length]
   have l2 : its2.toArray.size = ys.length:=by rw [List.size_toArray, ← v2.length, r2.length]
   refine ⟨fun j j1 j2 => ?_, by rw [l1, l2]; exact h2⟩
   have j1' : j < xs.length:=by rw [← l1]; exact j1
   have j2' : j < ys.length:=by rw [← l2]; exact j2
   have ex : xs[j]? = some xs[j]:=List.getElem?_eq_getElem j1'
   have ey : ys[j]? = some ys[j]:=List.getElem?_eq_getElem j2'
   obtain ⟨kj, ek⟩:=h1 j xs[j] ys[j] ex ey
   obtain ⟨vx, e3, rx⟩:=r1.get ex
   obtain ⟨vy, e4, ry⟩:=r2.get ey
   obtain ⟨ux, e5, qx⟩:=v1.get e3
   obtain ⟨uy, e6, qy⟩:=v2.get e4
   have e7 : its.toArray[j] = ux:=by
    have:=(List.getElem?_eq_some_iff.mp e5).2
    simpa using this
   have e8 : its2.toArray[j] = uy:=by
    have:=(List.getElem?_eq_some_iff.mp e6).2
    simpa using this
   rw [ex, ey, e7, e8]
   simp only [Option.bind_some, ek, Option.getD_some]
   exact (eq_sound I W n xs[j] ys[j] kj ek A.in1 vx vy ux uy rx ry qx qy (by rw [in1_units]; omega)).1
  unfold eqN at h
  generalize kd st a = da at h ka
  generalize kd st b = db at h kb
  cases da with
  | no => cases db <;> cases h
  | non =>
   cases db with
   | no => cases h
   | non =>
    have e1 : u = _:=ka
    subst e1
    have e2 : w = _:=kb
    subst e2
    cases h
    exact eqc_non_non
   | bl b2 =>
    have e1 : u = _:=ka
    subst e1
    have e2 : w = _:=kb
    subst e2
    cases h
    exact eqc_non_bl
   | int i2 =>
    have e1 : u = _:=ka
    subst e1
    obtain ⟨t2, rfl⟩:=kb
    cases h
    exact eqc_non_int
   | str x2 =>
    have e1 : u = _:=ka
    subst e1
    obtain ⟨t2, rfl⟩:=kb
    cases h
    exact eqc_non_str
   | tup ys =>
    have e1 : u = _:=ka
    subst e1
    obtain ⟨a2, vs2, its2, rfl, r2, q2, z2⟩:=kb
    cases h
    exact eqc_non_tup z2 hu
   | lst ys =>
    have e1 : u = _:=ka
    subst e1
    obtain ⟨a2, vs2, its2, rfl, r2, q2, z2⟩:=kb
    cases h
    exact eqc_non_lst z2 hu
  | bl b1 =>
   cases db with
   | no => cases h
   | non =>
    have e1 : u = _:=ka
    subst e1
    have e2 : w = _:=kb
    subst e2
    cases h
    exact eqc_bl_non
   | bl b2 =>
    have e1 : u = _:=ka
    subst e1
    have e2 : w = _:=kb
    subst e2
    cases h
    exact eqc_bl_bl
   | int i2 =>
    have e1 : u = _:=ka
    subst e1
    obtain ⟨t2, rfl⟩:=kb
    cases h
    exact eqc_bl_int
   | str x2 =>
    have e1 : u = _:=ka
    subst e1
    obtain ⟨t2, rfl⟩:=kb
    cases h
    exact eqc_bl_str
   | tup ys =>
    have e1 : u = _:=ka
    subst e1
    obtain ⟨a2, vs2, its2, rfl, r2, q2, z2⟩:=kb
    cases h
    exact eqc_bl_tup z2 hu
   | lst ys =>
    have e1 : u = _:=ka
    subst e1
    obtain ⟨a2, vs2, its2, rfl, r2, q2, z2⟩:=kb
    cases h
    exact eqc_bl_lst z2 hu
  | int i1 =>
   cases db with
   | no => cases h
   | non =>
    obtain ⟨t1, rfl⟩:=ka
    have e2 : w = _:=kb
    subst e2
    cases h
    exact eqc_int_non
   | bl b2 =>
    obtain ⟨t1, rfl⟩:=ka
    have e2 : w = _:=kb
    subst e2
    cases h
    exact eqc_int_bl
   | int i2 =>
    obtain ⟨t1, rfl⟩:=ka
    obtain ⟨t2, rfl⟩:=kb
    cases h
    exact eqc_int_int
   | str x2 =>
    obtain ⟨t1, rfl⟩:=ka
    obtain ⟨t2, rfl⟩:=kb
    cases h
    exact eqc_int_str
   | tup ys =>
    obtain ⟨t1, rfl⟩:=ka
    obtain ⟨a2, vs2, its2, rfl, r2, q2, z2⟩:=kb
    cases h
    exact eqc_int_tup z2 hu
   | lst ys =>
    obtain ⟨t1, rfl⟩:=ka
    obtain ⟨a2, vs2, its2, rfl, r2, q2, z2⟩:=kb
    cases h
    exact eqc_int_lst z2 hu
  | str x1 =>
   cases db with
   | no => cases h
   | non =>
    obtain ⟨t1, rfl⟩:=ka
    have e2 : w = _:=kb
    subst e2
    cases h
    exact eqc_str_non
   | bl b2 =>
    obtain ⟨t1, rfl⟩:=ka
    have e2 : w = _:=kb
    subst e2
    cases h
    exact eqc_str_bl
   | int i2 =>
    obtain ⟨t1, rfl⟩:=ka
    obtain ⟨t2, rfl⟩:=kb
    cases h
    exact eqc_str_int
   | str x2 =>
    obtain ⟨t1, rfl⟩:=ka
    obtain ⟨t2, rfl⟩:=kb
    cases h
    exact eqc_str_str
   | tup ys =>
    obtain ⟨t1, rfl⟩:=ka
    obtain ⟨a2, vs2, its2, rfl, r2, q2, z2⟩:=kb
    cases h
    exact eqc_str_tup z2 hu
   | lst ys =>
    obtain ⟨t1, rfl⟩:=ka
    obtain ⟨a2, vs2, its2, rfl, r2, q2, z2⟩:=kb
    cases h
    exact eqc_str_lst z2 hu
  | tup xs =>
   cases db with
   | no => cases h
   | non =>
    obtain ⟨a1, vs1, its1, rfl, r1, q1, z1⟩:=ka
    have e2 : w = _:=kb
    subst e2
    cases h
    exact eqc_tup_non z1 hu
   | bl b2 =>
    obtain ⟨a1, vs1, its1, rfl, r1, q1, z1⟩:=ka
    have e2 : w = _:=kb
    subst e2
    cases h
    exact eqc_tup_bl z1 hu
   | int i2 =>
    obtain ⟨a1, vs1, its1, rfl, r1, q1, z1⟩:=ka
    obtain ⟨t2, rfl⟩:=kb
    cases h
    exact eqc_tup_int z1 hu
   | str x2 =>
    obtain ⟨a1, vs1, its1, rfl, r1, q1, z1⟩:=ka
    obtain ⟨t2, rfl⟩:=kb
    cases h
    exact eqc_tup_str z1 hu
   | tup ys =>
    obtain ⟨a1, vs1, its1, rfl, r1, q1, z1⟩:=ka
    obtain ⟨a2, vs2, its2, rfl, r2, q2, z2⟩:=kb
    obtain ⟨he, hk⟩:=items h r1 r2 q1 q2
    have R:=SeqAt.RcAt.tuples z1 z2 hu he
    have N:=SeqAt.RcNeAt.tuples z1 z2 hu he
    rw [← hk] at R N
    refine ⟨?_, R, N⟩
    by_cases ea : a1 = a2
    ·subst ea
     rw [same rfl]
     exact SeqAt.EqAt.same _
    ·exact SeqAt.EqAt.of_refs ea R
   | lst ys =>
    obtain ⟨a1, vs1, its1, rfl, r1, q1, z1⟩:=ka
    obtain ⟨a2, vs2, its2, rfl, r2, q2, z2⟩:=kb
    cases h
    exact eqc_tup_lst z1 z2 hu
  | lst xs =>
   cases db with
   | no => cases h
   | non =>
    obtain ⟨a1, vs1, its1, rfl, r1, q1, z1⟩:=ka
    have e2 : w = _:=kb
    subst e2
    cases h
    exact eqc_lst_non z1 hu
   | bl b2 =>
    obtain ⟨a1, vs1, its1, rfl, r1, q1, z1⟩:=ka
    have e2 : w = _:=kb
    subst e2
    cases h
    exact eqc_lst_bl z1 hu
   | int i2 =>
    obtain ⟨a1, vs1, its1, rfl, r1, q1, z1⟩:=ka
    obtain ⟨t2, rfl⟩:=kb
    cases h
    exact eqc_lst_int z1 hu
   | str x2 =>
    obtain ⟨a1, vs1, its1, rfl, r1, q1, z1⟩:=ka
    obtain ⟨t2, rfl⟩:=kb
    cases h
    exact eqc_lst_str z1 hu
   | tup ys =>
    obtain ⟨a1, vs1, its1, rfl, r1, q1, z1⟩:=ka
    obtain ⟨a2, vs2, its2, rfl, r2, q2, z2⟩:=kb
    cases h
    exact eqc_lst_tup z1 z2 hu
   | lst ys =>
    obtain ⟨a1, vs1, its1, rfl, r1, q1, z1⟩:=ka
    obtain ⟨a2, vs2, its2, rfl, r2, q2, z2⟩:=kb
    obtain ⟨he, hk⟩:=items h r1 r2 q1 q2
    have RN : SeqAt.RcAt A s (.ref a1) (.ref a2) k ∧ SeqAt.RcNeAt A s (.ref a1) (.ref a2) (!k):=by
     by_cases hz : its1.toArray.size = its2.toArray.size
     ·have R:=SeqAt.RcAt.lists z1 z2 hz hu he
      have N:=SeqAt.RcNeAt.lists z1 z2 hz hu he
      have hk2 : k = (List.range its1.toArray.size).all (fun j => ((xs[j]?.bind fun x => ys[j]?.bind fun y => eqN st n x y).getD false)):=by
       rw [hk, ← hz, Nat.min_self]
       simp
      rw [← hk2] at R N
      exact ⟨R, N⟩
     ·have hk2 : k = false:=by
       rw [hk]
       simp only [beq_eq_false_iff_ne.mpr hz, Bool.and_false]
      have hb : (its1.toArray.size != its2.toArray.size) = true:=by simpa using hz
      subst hk2
      exact ⟨SeqAt.RcAt.lists_lengths z1 z2 hb hu, SeqAt.RcNeAt.lists_lengths z1 z2 hb hu⟩
    refine ⟨?_, RN.1, RN.2⟩
    by_cases ea : a1 = a2
    ·subst ea
     rw [same rfl]
     exact SeqAt.EqAt.same _
    ·exact SeqAt.EqAt.of_refs ea RN.1
end
end DL
end
section
namespace DL
open PySem PySem.Spec PyProof.Rows L2
noncomputable abbrev EXT:=Addr → Sto → List Addr → Hp → Prop
noncomputable def Run (K : PySem.W.Frag) (EX : EXT) {α : Type} (O : List Addr) (H : Hp) (r : Out α) (k : α → Sto → List Addr → Hp → Prop) : Prop:=match r with
 | .ok a st => ∀ O' H', Keep K O H O' H' → WR K O' H' st → k a st O' H'
 | .exc c st => ∀ O' H', Keep K O H O' H' → WR K O' H' st → EX c st O' H'
 | .bad => False
section
variable {K : PySem.W.Frag} {EX : EXT} {α β : Type} {O O' : List Addr} {H H' : Hp} {st : Sto}
theorem Run.now {a : α} {k : α → Sto → List Addr → Hp → Prop} (h : Run K EX O H (.ok a st) k) (W : WR K O H st) : k a st O H:=h O H Keep.refl W
theorem Run.later {r : Out α} {k : α → Sto → List Addr → Hp → Prop} (h : Run K EX O H r k) (kp : Keep K O H O' H') : Run K EX O' H' r k:=by
 cases r with
 | ok a st => exact fun O2 H2 k2 W2 => h O2 H2 (kp.trans k2) W2
 | exc c st => exact fun O2 H2 k2 W2 => h O2 H2 (kp.trans k2) W2
 | bad => exact h
theorem Run.mono {r : Out α} {k k' : α → Sto → List Addr → Hp → Prop} (h : Run K EX O H r k) (f : ∀ a st O' H', Keep K O H O' H' → WR K O' H' st → k a st O' H' → k' a st O' H') : Run K EX O H r k':=by
 cases r with
 | ok a st => exact fun O' H' kp W => f a st O' H' kp W (h O' H' kp W)
 | exc c st => exact h
 | bad => exact h
theorem Run.bind {r : Out α} {g : α → Sto → Out β} {k : β → Sto → List Addr → Hp → Prop} (h : Run K EX O H (r.bind g) k) : Run K EX O H r (fun a st O' H' => Run K EX O' H' (g a st) k):=by
 cases r with
 | ok a st => exact fun O' H' kp W => Run.later (r:=g a st) h kp
 | exc c st => exact h
 | bad => exact h
end
structure REnv (K : PySem.W.Frag) (O : List Addr) (H : Hp) (ρ : Ev) (σ : L2.St) : Prop where
 len : ρ.length = σ.length
 at_ : ∀ (i : Nat) (d : D), ρ[i]? = some (some d) → ∃ v, σ[i]? = some (some v) ∧ Rep K O H d v
section
variable {K : PySem.W.Frag} {O O' : List Addr} {H H' : Hp} {ρ : Ev} {σ : L2.St}
theorem REnv.mono (E : REnv K O H ρ σ) (k : Keep K O H O' H') : REnv K O' H' ρ σ :=
 ⟨E.len, fun i d e => let ⟨v, h, r⟩:=E.at_ i d e; ⟨v, h, Rep.mono k d v r⟩⟩
theorem REnv.set (E : REnv K O H ρ σ) {i : Nat} {d : D} {v : V} (r : Rep K O H d v) : REnv K O H (ρ.set i (some d)) (σ.set i (some v)):=by
 refine ⟨by rw [List.length_set, List.length_set, E.len], fun j e h => ?_⟩
 by_cases hij : i = j
 ·subst hij
  have hl : i < ρ.length:=by
   have:=(List.getElem?_eq_some_iff.mp h).1
   rwa [List.length_set] at this
  rw [List.getElem?_set_self hl] at h
  cases h
  exact ⟨v, List.getElem?_set_self (by rw [← E.len]; exact hl), r⟩
 ·rw [List.getElem?_set_ne hij] at h
  obtain ⟨u, h1, h2⟩:=E.at_ j e h
  exact ⟨u, by rw [List.getElem?_set_ne hij]; exact h1, h2⟩
end
noncomputable abbrev DE:=Ev → Sto → Out D
noncomputable abbrev DT:=Ev → Sto → Out Bool
noncomputable abbrev DA:=Ev → Sto → Out (List D)
noncomputable def EX0 : EXT:=fun _ _ _ _ => False
section
variable (K : PySem.W.Frag) (EX : EXT)
noncomputable def Val (Q : VK) (d : D) (_ : Sto) (O : List Addr) (H : Hp) : Prop:=∀ v, Rep K O H d v → Q v H
noncomputable def Vls (Q : List V → Hp → Prop) (ds : List D) (_ : Sto) (O : List Addr) (H : Hp) : Prop:=∀ vs, Reps K O H ds vs → Q vs H
noncomputable def New (Q : VK) (ds : List D) (_ : Sto) (O : List Addr) (H : Hp) : Prop:=∀ p vs, Reps K O H ds vs → H p = none → Q (.ref p) (upd H p (.lst vs))
noncomputable def tD (f : DE) : TE:=fun σ H Q => ∃ O ρ st, WR K O H st ∧ REnv K O H ρ σ ∧ Run K EX O H (f ρ st) (Val K Q)
noncomputable def tDT (f : DT) : TT:=fun σ H Q => ∃ O ρ st, WR K O H st ∧ REnv K O H ρ σ ∧ Run K EX O H (f ρ st) (fun b _ _ H' => Q b H')
noncomputable def tDA (f : DA) : TA:=fun σ H Q => ∃ O ρ st, WR K O H st ∧ REnv K O H ρ σ ∧ Run K EX O H (f ρ st) (Vls K Q)
noncomputable def tDF (f : DA) : TE:=fun σ H Q => ∃ O ρ st, WR K O H st ∧ REnv K O H ρ σ ∧ Run K EX O H (f ρ st) (New K Q)
noncomputable def rD2 (g : D → D → Sto → Out D) : R2:=fun x y H Q => ∃ O a b st, WR K O H st ∧ Rep K O H a x ∧ Rep K O H b y ∧ Run K EX O H (g a b st) (Val K Q)
noncomputable def rDF2 (g : D → D → Sto → Out (List D)) : R2:=fun x y H Q => ∃ O a b st, WR K O H st ∧ Rep K O H a x ∧ Rep K O H b y ∧ Run K EX O H (g a b st) (New K Q)
noncomputable def rDC (g : List D → Sto → Out D) : List V → Hp → VK → Prop:=fun xs H Q => ∃ O ds st, WR K O H st ∧ Reps K O H ds xs ∧ Run K EX O H (g ds st) (Val K Q)
noncomputable def rDCF (g : List D → Sto → Out (List D)) : List V → Hp → VK → Prop:=fun xs H Q => ∃ O ds st, WR K O H st ∧ Reps K O H ds xs ∧ Run K EX O H (g ds st) (New K Q)
end
section
variable (X : Cx) (EX : EXT)
noncomputable def PD (e : Expr) (f : DE) : Prop:=PE X e (tD X.K EX f)
noncomputable def PDT (e : Expr) (f : DT) : Prop:=PT X e (tDT X.K EX f)
noncomputable def PDW (e : Expr) (f : DT) : Prop:=PW X e (tDT X.K EX f)
noncomputable def PDA (es : List Expr) (f : DA) : Prop:=PA X es (tDA X.K EX f)
noncomputable def PDF (e : Expr) (f : DA) : Prop:=PE X e (tDF X.K EX f)
noncomputable def OpD (f : Value → Value → Sem Value) (g : D → D → Sto → Out D) : Prop:=OpR X f (rD2 X.K EX g)
noncomputable def OpF (f : Value → Value → Sem Value) (g : D → D → Sto → Out (List D)) : Prop:=OpR X f (rDF2 X.K EX g)
noncomputable def CallD (f : Value) (g : List D → Sto → Out D) : Prop:=CallR X f (rDC X.K EX g)
noncomputable def CallF (f : Value) (g : List D → Sto → Out (List D)) : Prop:=CallR X f (rDCF X.K EX g)
end
theorem PE.mono {X : Cx} {e : Expr} {t t' : TE} (h : PE X e t) (f : ∀ σ H Q, t' σ H Q → t σ H Q) : PE X e t':=fun pins s σ H Q I q => h pins s σ H Q I (f σ H Q q)
theorem PT.mono {X : Cx} {e : Expr} {t t' : TT} (h : PT X e t) (f : ∀ σ H Q, t' σ H Q → t σ H Q) : PT X e t':=fun pins s σ H Q I q => h pins s σ H Q I (f σ H Q q)
theorem PW.mono {X : Cx} {e : Expr} {t t' : TT} (h : PW X e t) (f : ∀ σ H Q, t' σ H Q → t σ H Q) : PW X e t':=fun wh pins s σ H Q I q => h wh pins s σ H Q I (f σ H Q q)
theorem PA.mono {X : Cx} {es : List Expr} {t t' : TA} (h : PA X es t) (f : ∀ σ H Q, t' σ H Q → t σ H Q) : PA X es t':=fun pos pins s σ H Q I q => h pos pins s σ H Q I (f σ H Q q)
theorem PS.mono {X : Cx} {e : Stmt} {t t' : TS} (h : PS X e t) (f : ∀ D σ H, t' D σ H → t D σ H) : PS X e t':=fun pins s σ H D I q => h pins s σ H D I (f D σ H q)
theorem PSs.mono {X : Cx} {e : List Stmt} {t t' : TS} (h : PSs X e t) (f : ∀ D σ H, t' D σ H → t D σ H) : PSs X e t':=fun pins s σ H D I q => h pins s σ H D I (f D σ H q)
theorem OpR.mono {X : Cx} {f : Value → Value → Sem Value} {r r' : R2} (h : OpR X f r) (g : ∀ x y H Q, r' x y H Q → r x y H Q) : OpR X f r':=fun pins s σ H x y v u Q I rx ry q => h pins s σ H x y v u Q I rx ry (g x y H Q q)
section
variable {X : Cx} {EX : EXT} {a b c e : Expr} {fa fb fc : DE} {pos : Pos} {ta tb : DT}
noncomputable def dVar (i : Nat) : DE:=fun ρ st => match ρ[i]? with
 | some (some d) => .ok d st
 | _ => .bad
theorem pd_var (i : Nat) {x : Str} {pos : Pos} (hN : X.N[i]? = some x := by rfl) (hv : Vis X.env.scope x := by first | exact Or.inl rfl | exact Or.inr (Or.inl rfl) | exact Or.inr (Or.inr rfl)) (hd : (x == ("__debug__" : Str)) = false := by decide)
  (hcd : (x == ("__classdict__" : Str)) = false := by decide) : PD X EX (.Name x pos) (dVar i) := by
 refine PE.mono (pe_var hN hv hd hcd) ?_
 rintro σ H Q ⟨O, ρ, st, W, E, R⟩
 unfold dVar at R
 cases h : ρ[i]? with
 | none => rw [h] at R; exact R.elim
 | some z =>
  cases z with
  | none => rw [h] at R; exact R.elim
  | some d =>
   rw [h] at R
   obtain ⟨v, h1, r⟩:=E.at_ i d h
   exact ⟨v, h1, R.now W v r⟩
noncomputable def dC (d : D) : DE:=fun _ st => .ok d st
theorem pd_C {v : V} {d : D} (h : PE X e (tC v)) (hr : ∀ O H, Rep X.K O H d v) : PD X EX e (dC d):=by
 refine PE.mono h ?_
 rintro σ H Q ⟨O, ρ, st, W, E, R⟩
 exact R.now W v (hr O H)
theorem pd_int {i j pos} : PD X EX (.Constant (.int i) j pos) (dC (.int i)):=pd_C pe_int fun _ _ => Rep.int_i.mpr rfl
theorem pd_bl {b j pos} : PD X EX (.Constant (.bool b) j pos) (dC (.bl b)):=pd_C pe_bl fun _ _ => Rep.bl_i.mpr rfl
theorem pd_non {j pos} : PD X EX (.Constant .none j pos) (dC .non):=pd_C pe_non fun _ _ => Rep.non_i.mpr rfl
theorem pd_str {x j pos} : PD X EX (.Constant (.str x) j pos) (dC (.str x)):=pd_C pe_str fun _ _ => Rep.str_i.mpr rfl
theorem pd_glob {x : Str} {v : V} {u : Value} {d : D} {pos : Pos} (hg : Gl X x) (hm : X.mg x = some u) (r : RelV v u) (hr : ∀ O H, Rep X.K O H d v) (hd : (x == ("__debug__" : Str)) = false := by decide) : PD X EX (.Name x pos) (dC d) :=
 pd_C (pe_glob hg hm r hd) hr
noncomputable def dBin (g : D → D → Sto → Out D) (fa fb : DE) : DE:=fun ρ st => (fa ρ st).bind fun x st1 => (fb ρ st1).bind fun y st2 => g x y st2
noncomputable def dBinF (g : D → D → Sto → Out (List D)) (fa fb : DE) : DA:=fun ρ st => (fa ρ st).bind fun x st1 => (fb ρ st1).bind fun y st2 => g x y st2
theorem bin_imp {g : D → D → Sto → Out D} : ∀ σ H Q, tD X.K EX (dBin g fa fb) σ H Q → tOp (rD2 X.K EX g) (tD X.K EX fa) (tD X.K EX fb) σ H Q:=by
 rintro σ H Q ⟨O, ρ, st, W, E, R⟩
 refine ⟨O, ρ, st, W, E, R.bind.mono fun x st1 O1 H1 k1 W1 R1 v r => ?_⟩
 refine ⟨O1, ρ, st1, W1, E.mono k1, R1.bind.mono fun y st2 O2 H2 k2 W2 R2 u r2 => ?_⟩
 exact ⟨O2, x, y, st2, W2, Rep.mono k2 x v r, r2, R2⟩
theorem binF_imp {g : D → D → Sto → Out (List D)} : ∀ σ H Q, tDF X.K EX (dBinF g fa fb) σ H Q → tOp (rDF2 X.K EX g) (tD X.K EX fa) (tD X.K EX fb) σ H Q:=by
 rintro σ H Q ⟨O, ρ, st, W, E, R⟩
 refine ⟨O, ρ, st, W, E, R.bind.mono fun x st1 O1 H1 k1 W1 R1 v r => ?_⟩
 refine ⟨O1, ρ, st1, W1, E.mono k1, R1.bind.mono fun y st2 O2 H2 k2 W2 R2 u r2 => ?_⟩
 exact ⟨O2, x, y, st2, W2, Rep.mono k2 x v r, r2, R2⟩
theorem pd_op {op : Operator} {g : D → D → Sto → Out D} (ho : OpD X EX (binaryOp op) g) (ha : PD X EX a fa) (hb : PD X EX b fb) : PD X EX (.BinOp a op b pos) (dBin g fa fb) :=
 PE.mono (pe_op ho ha hb) bin_imp
theorem pdf_op {op : Operator} {g : D → D → Sto → Out (List D)} (ho : OpF X EX (binaryOp op) g) (ha : PD X EX a fa) (hb : PD X EX b fb) : PDF X EX (.BinOp a op b pos) (dBinF g fa fb) :=
 PE.mono (pe_op ho ha hb) binF_imp
theorem pd_cmp {op : CmpOp} {g : D → D → Sto → Out D} (ho : OpD X EX (compareOp op) g) (ha : PD X EX a fa) (hb : PD X EX b fb) (hm : behindInMarks op b = false:=by first | exact nomark _ (by decide) (by decide) | with_unfolding_all rfl) : PD X EX (.Compare a [op] [b] pos) (dBin g fa fb) :=
 PE.mono (pe_cmpR ho ha hb hm) bin_imp
noncomputable def asB : D → Sto → Out Bool
 | .bl b, st => .ok b st
 | _, _ => .bad
noncomputable def dB (f : DE) : DT:=fun ρ st => (f ρ st).bind asB
theorem asB_run {O : List Addr} {H : Hp} {st : Sto} {d : D} {v : V} {Q : Bool → Hp → Prop} (W : WR X.K O H st) (r : Rep X.K O H d v) (R : Run X.K EX O H (asB d st) (fun b _ _ H' => Q b H')) : ∃ k, v = .bl k ∧ Q k H:=by
 cases d with
 | bl b => exact ⟨b, Rep.bl_i.mp r, Run.now (k:=fun b _ _ H' => Q b H') R W⟩
 | _ => exact R.elim
theorem pdt_cmp {op : CmpOp} {g : D → D → Sto → Out D} (ho : OpD X EX (compareOp op) g) (ha : PD X EX a fa) (hb : PD X EX b fb) (hm : behindInMarks op b = false:=by first | exact nomark _ (by decide) (by decide) | with_unfolding_all rfl) : PDT X EX (.Compare a [op] [b] pos) (dB (dBin g fa fb)):=by
 refine PT.mono (pt_cmpR ho ha hb hm) ?_
 rintro σ H Q ⟨O, ρ, st, W, E, R⟩
 exact bin_imp (X:=X) (EX:=EX) σ H _ ⟨O, ρ, st, W, E, R.bind.mono fun d st1 O1 H1 k1 W1 R1 v r => asB_run W1 r R1⟩
theorem pdt_val {f : DE} (h : PD X EX e f) (he : ∀ whole, isTrue e X.env whole = (do let v ← whole; standAt e.pos; holding [v] (truthy v)):=by intro _; rfl) : PDT X EX e (dB f):=by
 refine PT.mono (pt_val h he) ?_
 rintro σ H Q ⟨O, ρ, st, W, E, R⟩
 exact ⟨O, ρ, st, W, E, R.bind.mono fun d st1 O1 H1 k1 W1 R1 v r => asB_run W1 r R1⟩
noncomputable def dAnd (ta tb : DT) : DT:=fun ρ st => (ta ρ st).bind fun x st1 => if x = true then tb ρ st1 else .ok false st1
noncomputable def dOr (ta tb : DT) : DT:=fun ρ st => (ta ρ st).bind fun x st1 => if x = true then .ok true st1 else tb ρ st1
noncomputable def dNot (ta : DT) : DT:=fun ρ st => (ta ρ st).bind fun x st1 => .ok (!x) st1
theorem pdw_and1 (ha : PDT X EX a ta) : PDW X EX (.BoolOp .And [a] pos) ta:=pw_and1 ha
theorem pdw_or1 (ha : PDT X EX a ta) : PDW X EX (.BoolOp .Or [a] pos) ta:=pw_or1 ha
theorem pdw_and {rest : List Expr} (ha : PDT X EX a ta) (hb : PDW X EX (.BoolOp .And (b :: rest) pos) tb) : PDW X EX (.BoolOp .And (a :: b :: rest) pos) (dAnd ta tb):=by
 refine PW.mono (pw_and ha hb) ?_
 rintro σ H Q ⟨O, ρ, st, W, E, R⟩
 refine ⟨O, ρ, st, W, E, R.bind.mono fun x st1 O1 H1 k1 W1 R1 => ?_⟩
 cases x with
 | true => exact ⟨O1, ρ, st1, W1, E.mono k1, R1⟩
 | false => exact Run.now (k:=fun b _ _ H' => Q b H') R1 W1
theorem pdw_or {rest : List Expr} (ha : PDT X EX a ta) (hb : PDW X EX (.BoolOp .Or (b :: rest) pos) tb) : PDW X EX (.BoolOp .Or (a :: b :: rest) pos) (dOr ta tb):=by
 refine PW.mono (pw_or ha hb) ?_
 rintro σ H Q ⟨O, ρ, st, W, E, R⟩
 refine ⟨O, ρ, st, W, E, R.bind.mono fun x st1 O1 H1 k1 W1 R1 => ?_⟩
 cases x with
 | true => exact Run.now (k:=fun b _ _ H' => Q b H') R1 W1
 | false => exact ⟨O1, ρ, st1, W1, E.mono k1, R1⟩
theorem PDW.pt (h : PDW X EX e ta) : PDT X EX e ta:=PW.pt h
theorem pdt_not (ha : PDT X EX a ta) : PDT X EX (.UnaryOp .Not a pos) (dNot ta):=by
 refine PT.mono (pt_not ha) ?_
 rintro σ H Q ⟨O, ρ, st, W, E, R⟩
 exact ⟨O, ρ, st, W, E, R.bind.mono fun x st1 O1 H1 k1 W1 R1 => Run.now (k:=fun b _ _ H' => Q b H') R1 W1⟩
noncomputable def dAndV (fa fb : DE) : DE:=fun ρ st => (fa ρ st).bind fun d st1 => (asB d st1).bind fun x st2 => if x = true then fb ρ st2 else .ok (.bl false) st2
noncomputable def dOrV (fa fb : DE) : DE:=fun ρ st => (fa ρ st).bind fun d st1 => (asB d st1).bind fun x st2 => if x = true then .ok (.bl true) st2 else fb ρ st2
noncomputable def dNotV (fa : DE) : DE:=fun ρ st => (fa ρ st).bind fun d st1 => (asB d st1).bind fun x st2 => .ok (.bl (!x)) st2
theorem asB_runB {O : List Addr} {H : Hp} {st : Sto} {d : D} {v : V} {β : Type} {g : Bool → Sto → Out β} {k : β → Sto → List Addr → Hp → Prop} (r : Rep X.K O H d v) (R : Run X.K EX O H ((asB d st).bind g) k) : ∃ x, v = .bl x ∧ Run X.K EX O H (g x st) k:=by
 cases d with
 | bl b => exact ⟨b, Rep.bl_i.mp r, R⟩
 | _ => exact R.elim
theorem pd_one {op} (h : PD X EX a fa) : PD X EX (.BoolOp op [a] pos) fa:=pe_one h
theorem pd_and {rest : List Expr} (ha : PD X EX a fa) (hb : PD X EX (.BoolOp .And (b :: rest) pos) fb) : PD X EX (.BoolOp .And (a :: b :: rest) pos) (dAndV fa fb):=by
 refine PE.mono (pe_and ha hb) ?_
 rintro σ H Q ⟨O, ρ, st, W, E, R⟩
 refine ⟨O, ρ, st, W, E, R.bind.mono fun d st1 O1 H1 k1 W1 R1 v r => ?_⟩
 obtain ⟨x, rfl, R2⟩:=asB_runB r R1
 refine ⟨x, rfl, ?_⟩
 cases x with
 | true => exact ⟨O1, ρ, st1, W1, E.mono k1, R2⟩
 | false => exact Run.now (k:=Val X.K Q) R2 W1 _ (Rep.bl_i.mpr rfl)
theorem pd_or {rest : List Expr} (ha : PD X EX a fa) (hb : PD X EX (.BoolOp .Or (b :: rest) pos) fb) : PD X EX (.BoolOp .Or (a :: b :: rest) pos) (dOrV fa fb):=by
 refine PE.mono (pe_or ha hb) ?_
 rintro σ H Q ⟨O, ρ, st, W, E, R⟩
 refine ⟨O, ρ, st, W, E, R.bind.mono fun d st1 O1 H1 k1 W1 R1 v r => ?_⟩
 obtain ⟨x, rfl, R2⟩:=asB_runB r R1
 refine ⟨x, rfl, ?_⟩
 cases x with
 | true => exact Run.now (k:=Val X.K Q) R2 W1 _ (Rep.bl_i.mpr rfl)
 | false => exact ⟨O1, ρ, st1, W1, E.mono k1, R2⟩
theorem pd_not (ha : PD X EX a fa) : PD X EX (.UnaryOp .Not a pos) (dNotV fa):=by
 refine PE.mono (pe_not ha) ?_
 rintro σ H Q ⟨O, ρ, st, W, E, R⟩
 refine ⟨O, ρ, st, W, E, R.bind.mono fun d st1 O1 H1 k1 W1 R1 v r => ?_⟩
 obtain ⟨x, rfl, R2⟩:=asB_runB r R1
 exact ⟨x, rfl, Run.now (k:=Val X.K Q) R2 W1 _ (Rep.bl_i.mpr rfl)⟩
noncomputable def dIf (t : DT) (fa fb : DE) : DE:=fun ρ st => (t ρ st).bind fun x st1 => if x = true then fa ρ st1 else fb ρ st1
theorem pd_ifExp (hc : PDT X EX c ta) (ha : PD X EX a fa) (hb : PD X EX b fb) : PD X EX (.IfExp c a b pos) (dIf ta fa fb):=by
 refine PE.mono (pe_ifExp hc ha hb) ?_
 rintro σ H Q ⟨O, ρ, st, W, E, R⟩
 refine ⟨O, ρ, st, W, E, R.bind.mono fun x st1 O1 H1 k1 W1 R1 => ?_⟩
 cases x with
 | true => exact ⟨O1, ρ, st1, W1, E.mono k1, R1⟩
 | false => exact ⟨O1, ρ, st1, W1, E.mono k1, R1⟩
noncomputable def dChain (g g' : D → D → Sto → Out D) (fa fb fc : DE) : DE:=fun ρ st => (fa ρ st).bind fun x st1 => (fb ρ st1).bind fun y st2 => (g x y st2).bind fun z st3 => (asB z st3).bind fun k st4 =>
 if k = true then (fc ρ st4).bind fun w st5 => g' y w st5 else .ok (.bl false) st4
theorem chain_imp {g g' : D → D → Sto → Out D} : ∀ σ H Q, tD X.K EX (dChain g g' fa fb fc) σ H Q → tChain (rD2 X.K EX g) (rD2 X.K EX g') (tD X.K EX fa) (tD X.K EX fb) (tD X.K EX fc) σ H Q:=by
 rintro σ H Q ⟨O, ρ, st, W, E, R⟩
 refine ⟨O, ρ, st, W, E, R.bind.mono fun x st1 O1 H1 k1 W1 R1 v r => ?_⟩
 refine ⟨O1, ρ, st1, W1, E.mono k1, R1.bind.mono fun y st2 O2 H2 k2 W2 R2 u r2 => ?_⟩
 refine ⟨O2, x, y, st2, W2, Rep.mono k2 x v r, r2, R2.bind.mono fun z st3 O3 H3 k3 W3 R3 z' rz => ?_⟩
 obtain ⟨k, rfl, R4⟩:=asB_runB rz R3
 refine ⟨k, rfl, ?_⟩
 cases k with
 | true =>
  refine ⟨O3, ρ, st3, W3, E.mono (k1.trans (k2.trans k3)), R4.bind.mono fun w st5 O5 H5 k5 W5 R5 w' rw => ?_⟩
  exact ⟨O5, y, w, st5, W5, Rep.mono (k3.trans k5) y u r2, rw, R5⟩
 | false => exact Run.now (k:=Val X.K Q) R4 W3 _ (Rep.bl_i.mpr rfl)
theorem pd_chain {op op' : CmpOp} {g g' : D → D → Sto → Out D} (ho : OpD X EX (compareOp op) g) (ho' : OpD X EX (compareOp op') g') (ha : PD X EX a fa) (hb : PD X EX b fb) (hc : PD X EX c fc)
  (hm : lastMarks [op, op'] [b, c] = false:=by with_unfolding_all rfl) : PD X EX (.Compare a [op, op'] [b, c] pos) (dChain g g' fa fb fc):=PE.mono (pe_chain ho ho' ha hb hc hm) chain_imp
theorem pdt_chain {op op' : CmpOp} {g g' : D → D → Sto → Out D} (ho : OpD X EX (compareOp op) g) (ho' : OpD X EX (compareOp op') g') (ha : PD X EX a fa) (hb : PD X EX b fb) (hc : PD X EX c fc)
  (hm : lastMarks [op, op'] [b, c] = false:=by with_unfolding_all rfl) : PDT X EX (.Compare a [op, op'] [b, c] pos) (dB (dChain g g' fa fb fc)):=by
 refine PT.mono (pt_chain ho ho' ha hb hc hm) ?_
 rintro σ H Q ⟨O, ρ, st, W, E, R⟩
 exact chain_imp (X:=X) (EX:=EX) σ H _ ⟨O, ρ, st, W, E, R.bind.mono fun d st1 O1 H1 k1 W1 R1 v r => asB_run W1 r R1⟩
noncomputable def dNil : DA:=fun _ st => .ok [] st
noncomputable def dCons (f : DE) (g : DA) : DA:=fun ρ st => (f ρ st).bind fun x st1 => (g ρ st1).bind fun xs st2 => .ok (x :: xs) st2
theorem pda_nil : PDA X EX [] dNil:=by
 refine PA.mono pa_nil ?_
 rintro σ H Q ⟨O, ρ, st, W, E, R⟩
 exact Run.now (k:=Vls X.K Q) R W _ (Reps.nil_i.mpr rfl)
theorem pda_cons {es : List Expr} {g : DA} (ha : PD X EX a fa) (hr : PDA X EX es g) (hs : starEach (a :: es) X.env = (false, eval a X.env) :: starEach es X.env:=by rfl) : PDA X EX (a :: es) (dCons fa g):=by
 refine PA.mono (pa_cons ha hr hs) ?_
 rintro σ H Q ⟨O, ρ, st, W, E, R⟩
 refine ⟨O, ρ, st, W, E, R.bind.mono fun x st1 O1 H1 k1 W1 R1 v r => ?_⟩
 refine ⟨O1, ρ, st1, W1, E.mono k1, R1.bind.mono fun xs st2 O2 H2 k2 W2 R2 vs rs => ?_⟩
 exact Run.now (k:=Vls X.K Q) R2 W2 _ (Reps.cons_i.mpr ⟨v, vs, rfl, Rep.mono k2 x v r, rs⟩)
noncomputable def small : Nat:=10000
theorem small_le : small ≤ sizeLine:=by rw [sizeLine_eq]; decide
noncomputable def dTup (g : DA) : DE:=fun ρ st => (g ρ st).bind fun xs st1 => if xs.length ≤ small then .ok (.tup xs) st1 else .bad
noncomputable def dLst (g : DA) : DA:=fun ρ st => (g ρ st).bind fun xs st1 => if xs.length ≤ small then .ok xs st1 else .bad
theorem new_tup {O : List Addr} {H : Hp} {st : Sto} {xs : List D} {vs : List V} {p : Addr} {Q : VK} (W : WR X.K O H st) (r : Reps X.K O H xs vs) (hp : H p = none) (R : Run X.K EX O H (.ok (.tup xs) st) (Val X.K Q)) : Q (.ref p) (upd H p (.tup vs)) :=
 R O (upd H p (.tup vs)) (Keep.laid hp) (W.laid hp) _ (Rep.tup_i.mpr ⟨p, vs, rfl, upd_same, Reps.mono (Keep.laid hp) _ _ r⟩)
theorem new_lst {O : List Addr} {H : Hp} {st : Sto} {xs : List D} {vs : List V} {p : Addr} {Q : VK} (W : WR X.K O H st) (r : Reps X.K O H xs vs) (hp : H p = none) (R : Run X.K EX O H (.ok (.lst xs) st) (Val X.K Q)) : Q (.ref p) (upd H p (.lst vs)):=by
 refine R O (upd H p (.lst vs)) (Keep.laid hp) (W.laid hp) _ (Rep.lst_i.mpr ⟨p, vs, rfl, fun hm => ?_, upd_same, Reps.mono (Keep.laid hp) _ _ r⟩)
 obtain ⟨i, hi⟩:=List.mem_iff_getElem?.mp hm
 exact W.ne hi hp rfl
theorem pd_tup {es : List Expr} {x1} {g : DA} (h : PDA X EX es g) : PD X EX (.Tuple es x1 pos) (dTup g):=by
 refine PE.mono (pe_tup h) ?_
 rintro σ H Q ⟨O, ρ, st, W, E, R⟩
 refine ⟨O, ρ, st, W, E, R.bind.mono fun xs st1 O1 H1 k1 W1 R1 vs r => ?_⟩
 by_cases hz : xs.length ≤ small
 ·rw [if_pos hz] at R1
  exact ⟨by rw [← r.length]; exact Nat.le_trans hz small_le, fun p hp => new_tup W1 r hp R1⟩
 ·rw [if_neg hz] at R1
  exact R1.elim
theorem pdf_lst {es : List Expr} {g : DA} (h : PDA X EX es g) : PDF X EX (.List es pos) (dLst g):=by
 refine PE.mono (pe_lst h) ?_
 rintro σ H Q ⟨O, ρ, st, W, E, R⟩
 refine ⟨O, ρ, st, W, E, R.bind.mono fun xs st1 O1 H1 k1 W1 R1 vs r => ?_⟩
 by_cases hz : xs.length ≤ small
 ·rw [if_pos hz] at R1
  exact ⟨by rw [← r.length]; exact Nat.le_trans hz small_le, fun p hp => Run.now (k:=New X.K Q) R1 W1 p vs r hp⟩
 ·rw [if_neg hz] at R1
  exact R1.elim
noncomputable def dF (f : DA) : DE:=fun ρ st => (f ρ st).bind fun xs st1 => .ok (.lst xs) st1
theorem pd_F {f : DA} (h : PDF X EX e f) : PD X EX e (dF f):=by
 refine PE.mono h ?_
 rintro σ H Q ⟨O, ρ, st, W, E, R⟩
 exact ⟨O, ρ, st, W, E, R.bind.mono fun xs st1 O1 H1 k1 W1 R1 p vs r hp => new_lst W1 r hp R1⟩
end
end DL
end
section
namespace HT
open PySem PyProof.Rows
section
open PySem.SeqAt
open PySem.AutoSeq1 (wpAny_loadPart')
open PySem.MeetsSeq PySem.MeetsSeq2 PySem.MeetsSeq3
variable {prog : Program} {w : World} {A : Around} {E : Value → Shared → Prop} {s : Shared}
theorem cat_tup0 {t b : Addr} {ws : List Value} {Q : Value → Shared → Prop} (ht : IsTup s.heap t #[]) (hb : IsTup s.heap b ws.toArray) (h : Q (.ref b) s) : wpAny (model prog w) A (binaryOp .Add (.ref t) (.ref b)) Q E s:=by
 obtain ⟨⟨cls, dd, data, sl⟩, ho, hc, n, hd⟩:=id ht
 obtain ⟨⟨cls2, dd2, data2, sl2⟩, ho2, hc2, n2, hd2⟩:=id hb
 simp only at hc hd hc2 hd2
 subst hc hd hc2 hd2
 exact concat_meets ⟨_, ho, rfl⟩ ⟨_, ho2, rfl⟩ noFill_tuple_add seq_tuple_add PySem.F.slot_tuple_add PySem.F.entry_tuple_add (PySem.F.args_tuple_add_2 _ _)
   (tuple_addW0 t b #[] ws.toArray n n2 dd dd2 sl sl2 rfl) ⟨ho, ho2, h⟩
theorem getItem_tuple_whole {t sl : Addr} {items : Array Value} {vl vu : Value} {lo hi : Option Int} {Q : Value → Shared → Prop} (ht : IsTup s.heap t items) (hs : s.heap.IsSliceOf sl vl vu .none) (pl : IsPart vl lo) (pu : IsPart vu hi)
  (hw : sIx items.size 0 lo = 0 ∧ sIx items.size items.size hi = items.size) (h : Q (.ref t) s) : wpAny (model prog w) A (getItem (.ref t) (.ref sl)) Q E s:=by
 obtain ⟨os, hos, hcs, hds⟩:=id hs
 have hTs : s.TypeIs (.ref sl) "slice" := ⟨os, hos, hcs⟩
 unfold getItem
 try with_reducible refine wpAny_holding ?_
 first | refine wpAny_bind (wpAny_pure ?_) | skip
 refine wpAny_bind (wpAny_sequenceKey ht.typeIs (by decide) ?_)
 refine wpAny_bind (wpAny_callSpecial?_slot (name := Str.ofString "__getitem__") ht.typeIs PyProof.Rows.slot_tuple_getitem
  (wpAny_call_entry PyProof.Rows.slot_tuple_getitem ht.typeIs entry_tuple_getitem ?_ (args_tuple_getitem _ _)))
 show wpAny _ _ (Builtin.Tuple.tupleItemsOf (.ref t) >>= _) _ _ s
 refine wpAny_bind (tupleItemsOf_ ht ?_)
 refine wpAny_bind (wpAny_typeOf hTs ?_)
 rw [if_pos (by decide)]
 refine wpAny_bind (sliceApplied_gen hs pl pu ?_)
 have hyes : ((((sIx items.size 0 lo : Nat) : Int) == 0 && (1 : Int) == 1 && (sIx items.size items.size hi - sIx items.size 0 lo) == items.size) = true):=by
  rw [hw.1, hw.2]
  simp
 show wpAny _ _ (if (((sIx items.size 0 lo : Nat) : Int) == 0 && (1 : Int) == 1 && (sIx items.size items.size hi - sIx items.size 0 lo) == items.size) = true then _ else _) _ _ s
 rw [if_pos hyes]
 unfold Builtin.Tuple.tupleIsExact
 refine wpAny_bind (wpAny_bind (wpAny_typeOf ht.typeIs (wpAny_pure ?_)))
 rw [if_pos (by decide)]
 refine wpAny_bind (wpAny_rule ?_)
 first
  | exact wpAny_bind (wpAny_pure (wpAny_pure ⟨_, rfl, wpAny_pure h⟩))
  | exact wpAny_bind (wpAny_bind (wpAny_pure (wpAny_pure ⟨_, rfl, wpAny_pure h⟩)))
  | exact wpAny_pure ⟨_, rfl, wpAny_pure h⟩
end
end HT
namespace DL
open PySem PySem.Spec PyProof.Rows L2
section
variable {X : Cx} {EX : EXT}
noncomputable def addD : D → D → Sto → Out D
 | .int a, .int b, st => .ok (.int (a + b)) st
 | .str a, .str b, st => if a.length + b.length ≤ small then .ok (.str (a ++ b)) st else .bad
 | .tup xs, .tup ys, st => if xs.length + ys.length ≤ small then .ok (.tup (xs ++ ys)) st else .bad
 | _, _, _ => .bad
theorem op_addD : OpD X EX (binaryOp .Add) addD:=by
 intro pins s σ H x y v u Q I rx ry h
 obtain ⟨O, a, b, st, W, ra, rb, R⟩:=h
 cases a <;> cases b <;> first | exact R.elim | skip
 case int.int i j =>
  rw [Rep.int_i] at ra rb
  subst ra rb
  exact op_add pins s σ H _ _ v u Q I rx ry ⟨i, j, rfl, rfl, Run.now (k:=Val X.K Q) R W _ (Rep.int_i.mpr rfl)⟩
 case str.str i j =>
  rw [Rep.str_i] at ra rb
  subst ra rb
  dsimp only [addD] at R
  by_cases hz : i.length + j.length ≤ small
  ·rw [if_pos hz] at R
   exact op_add_str pins s σ H _ _ v u Q I rx ry ⟨i, j, rfl, rfl, Nat.le_trans hz small_le, Run.now (k:=Val X.K Q) R W _ (Rep.str_i.mpr rfl)⟩
  ·rw [if_neg hz] at R; exact R.elim
 case tup.tup xs ys =>
  dsimp only [addD] at R
  by_cases hz : xs.length + ys.length ≤ small
  ·rw [if_pos hz] at R
   rw [Rep.tup_i] at ra rb
   obtain ⟨a, vs, rfl, q1, r1⟩:=ra
   obtain ⟨b, ws, rfl, q2, r2⟩:=rb
   by_cases h0 : xs = []
   ·subst h0
    rw [Reps.nil_i] at r1
    subst r1
    cases rx
    cases ry
    obtain ⟨its, v1, p1, _⟩:=I.tuple (SqT.of q1)
    obtain ⟨its2, v2, p2, _⟩:=I.tuple (SqT.of q2)
    cases v1
    exact HT.cat_tup0 p1 p2 ⟨.ref b, H, I, rfl, Run.now (k:=Val X.K Q) R W _ (Rep.tup_i.mpr ⟨b, ws, rfl, q2, r2⟩)⟩
   ·refine op_catT pins s σ H _ _ v u Q I rx ry ⟨a, b, vs, ws, rfl, rfl, SqT.of q1, SqT.of q2, fun z => h0 ?_, ?_, fun z => ?_, fun z p hp => ?_⟩
    ·have:=r1.length; rw [z] at this; exact List.length_eq_zero_iff.mp this
    ·rw [← r1.length, ← r2.length]; exact Nat.le_trans hz small_le
    ·have e : ys = []:=by have:=r2.length; rw [z] at this; exact List.length_eq_zero_iff.mp this
     subst e
     rw [List.append_nil] at R
     exact Run.now (k:=Val X.K Q) R W _ (Rep.tup_i.mpr ⟨a, vs, rfl, q1, r1⟩)
    ·exact new_tup W (r1.append r2) hp R
  ·rw [if_neg hz] at R; exact R.elim
noncomputable def catL (a b : D) (st : Sto) : Out (List D):=match ownL st a, ownL st b with
 | some xs, some ys => if xs.length + ys.length ≤ small then .ok (xs ++ ys) st else .bad
 | _, _ => .bad
theorem op_catL : OpF X EX (binaryOp .Add) catL:=by
 intro pins s σ H x y v u Q I rx ry h
 obtain ⟨O, a, b, st, W, ra, rb, R⟩:=h
 unfold catL at R
 cases ea : ownL st a with
 | none => rw [ea] at R; exact R.elim
 | some xs =>
  cases eb : ownL st b with
  | none => rw [ea, eb] at R; exact R.elim
  | some ys =>
   rw [ea, eb] at R
   dsimp only at R
   by_cases hz : xs.length + ys.length ≤ small
   ·rw [if_pos hz] at R
    obtain ⟨p1, vs, rfl, q1, r1⟩:=rdO W ra ea
    obtain ⟨p2, ws, rfl, q2, r2⟩:=rdO W rb eb
    exact op_cat pins s σ H _ _ v u Q I rx ry ⟨p1, p2, vs, ws, rfl, rfl, q1, q2, by rw [← r1.length, ← r2.length]; exact Nat.le_trans hz small_le, fun p hp => Run.now (k:=New X.K Q) R W p _ (r1.append r2) hp⟩
   ·rw [if_neg hz] at R; exact R.elim
noncomputable def intOp (C : Int → Int → Bool) (g : Int → Int → Int) : D → D → Sto → Out D
 | .int a, .int b, st => if C a b = true then .ok (.int (g a b)) st else .bad
 | _, _, _ => .bad
theorem op_intOp {f : Value → Value → Sem Value} {C : Int → Int → Bool} {P : Int → Int → Prop} {g : Int → Int → Int} (h : OpR X f (rI P fun i j => .int (g i j))) (hC : ∀ i j, C i j = true → P i j) : OpD X EX f (intOp C g):=by
 intro pins s σ H x y v u Q I rx ry h'
 obtain ⟨O, a, b, st, W, ra, rb, R⟩:=h'
 cases a <;> cases b <;> first | exact R.elim | skip
 rename_i i j
 rw [Rep.int_i] at ra rb
 subst ra rb
 dsimp only [intOp] at R
 by_cases hz : C i j = true
 ·rw [if_pos hz] at R
  exact h pins s σ H _ _ v u Q I rx ry ⟨i, j, rfl, rfl, hC i j hz, Run.now (k:=Val X.K Q) R W _ (Rep.int_i.mpr rfl)⟩
 ·rw [if_neg hz] at R; exact R.elim
noncomputable def subD : D → D → Sto → Out D
 | .int a, .int b, st => .ok (.int (a - b)) st
 | _, _, _ => .bad
theorem op_subD : OpD X EX (binaryOp .Sub) subD:=by
 intro pins s σ H x y v u Q I rx ry h
 obtain ⟨O, a, b, st, W, ra, rb, R⟩:=h
 cases a <;> cases b <;> first | exact R.elim | skip
 rename_i i j
 rw [Rep.int_i] at ra rb
 subst ra rb
 exact op_sub pins s σ H _ _ v u Q I rx ry ⟨i, j, rfl, rfl, Run.now (k:=Val X.K Q) R W _ (Rep.int_i.mpr rfl)⟩
noncomputable def mulOk (i j : Int) : Bool:=(decide (-(2 ^ 64) < i) && decide (i < 2 ^ 64)) || (decide (-(2 ^ 64) < j) && decide (j < 2 ^ 64))
noncomputable def mulD : D → D → Sto → Out D:=intOp mulOk fun i j => i * j
theorem op_mulD : OpD X EX (binaryOp .Mult) mulD:=op_intOp op_mul fun i j h => by
 unfold mulOk at h
 rw [Bool.or_eq_true, Bool.and_eq_true, Bool.and_eq_true] at h
 rcases h with ⟨h1, h2⟩ | ⟨h1, h2⟩
 ·exact .inl ⟨of_decide_eq_true h1, of_decide_eq_true h2⟩
 ·exact .inr ⟨of_decide_eq_true h1, of_decide_eq_true h2⟩
noncomputable def divOk (_ j : Int) : Bool:=@decide (0 < j ∧ j < 1073741824) (Classical.propDecidable _)
noncomputable def fdivD : D → D → Sto → Out D:=intOp divOk fun i j => i / j
theorem op_fdivD : OpD X EX (binaryOp .FloorDiv) fdivD:=op_intOp op_fdiv fun i j h => @of_decide_eq_true (0 < j ∧ j < 1073741824) (Classical.propDecidable _) h
noncomputable def modD : D → D → Sto → Out D:=intOp (fun _ j => decide (0 < j)) fun i j => i % j
theorem op_modD : OpD X EX (binaryOp .Mod) modD:=op_intOp op_mod fun i j h => of_decide_eq_true h
noncomputable def depth : Nat:=50
noncomputable def eqD (a b : D) (st : Sto) : Out D:=match eqN st depth a b with
 | some k => .ok (.bl k) st
 | none => .bad
noncomputable def neD (a b : D) (st : Sto) : Out D:=match eqN st depth a b with
 | some k => .ok (.bl (!k)) st
 | none => .bad
theorem op_eqD (hu : X.A.units + 64 < cLine) : OpD X EX (compareOp .Eq) eqD:=by
 intro pins s σ H x y v u Q I rx ry h
 obtain ⟨O, a, b, st, W, ra, rb, R⟩:=h
 unfold eqD at R
 cases e : eqN st depth a b with
 | none => rw [e] at R; exact R.elim
 | some k =>
  rw [e] at R
  have h:=(eq_sound I W depth a b k e X.A x y v u ra rb rx ry (by show X.A.units + 50 < cLine; omega)).2.1
  exact h X.prog X.w X.xe _ ⟨.bl k, H, I, rfl, Run.now (k:=Val X.K Q) R W _ (Rep.bl_i.mpr rfl)⟩
theorem op_neD (hu : X.A.units + 64 < cLine) : OpD X EX (compareOp .NotEq) neD:=by
 intro pins s σ H x y v u Q I rx ry h
 obtain ⟨O, a, b, st, W, ra, rb, R⟩:=h
 unfold neD at R
 cases e : eqN st depth a b with
 | none => rw [e] at R; exact R.elim
 | some k =>
  rw [e] at R
  have h:=(eq_sound I W depth a b k e X.A x y v u ra rb rx ry (by show X.A.units + 50 < cLine; omega)).2.2
  exact h X.prog X.w X.xe _ ⟨.bl (!k), H, I, rfl, Run.now (k:=Val X.K Q) R W _ (Rep.bl_i.mpr rfl)⟩
noncomputable def cmpD (g : Int → Int → Bool) : D → D → Sto → Out D
 | .int a, .int b, st => .ok (.bl (g a b)) st
 | _, _, _ => .bad
theorem op_cmpD {f : Value → Value → Sem Value} {g : Int → Int → Bool} (h : OpR X f (rI0 fun i j => .bl (g i j))) : OpD X EX f (cmpD g):=by
 intro pins s σ H x y v u Q I rx ry h'
 obtain ⟨O, a, b, st, W, ra, rb, R⟩:=h'
 cases a <;> cases b <;> first | exact R.elim | skip
 rename_i i j
 rw [Rep.int_i] at ra rb
 subst ra rb
 exact h pins s σ H _ _ v u Q I rx ry ⟨i, j, rfl, rfl, Run.now (k:=Val X.K Q) R W _ (Rep.bl_i.mpr rfl)⟩
noncomputable def gtD:=cmpD fun i j => decide (j < i)
theorem op_gtD : OpD X EX (compareOp .Gt) gtD:=op_cmpD op_gt
noncomputable def inN (st : Sto) (n : Nat) (x : D) : List D → Option Bool
 | [] => some false
 | y :: ys => match eqN st n y x, inN st n x ys with
  | some a, some b => some (a || b)
  | _, _ => none
noncomputable def itemsOf (st : Sto) : D → Option (List D)
 | .tup xs => some xs
 | d => seqL st d
noncomputable def inD (x c : D) (st : Sto) : Out D:=match itemsOf st c with
 | some ys => match inN st depth x ys with
  | some k => .ok (.bl k) st
  | none => .bad
 | none => .bad
noncomputable def notInD (x c : D) (st : Sto) : Out D:=match itemsOf st c with
 | some ys => match inN st depth x ys with
  | some k => .ok (.bl (!k)) st
  | none => .bad
 | none => .bad
open Classical in
theorem in_items {pins : List (Addr × Obj)} {σ : L2.St} {s : Shared} {O : List Addr} {H : Hp} {st : Sto} (I : Inv X pins σ H s) (W : WR X.K O H st) {x : D} {vx : V} {ux : Value} (rx : Rep X.K O H x vx) (qx : RelV vx ux) {A : Around} (hA : A.units + depth < cLine) :
  ∀ {ys : List D} {vs : List V} {its : List Value} {k : Bool}, inN st depth x ys = some k → Reps X.K O H ys vs → Vals vs its →
   ∃ e : Value → Bool, (∀ z, e z = decide (∃ d v, Rep X.K O H d v ∧ RelV v z ∧ eqN st depth d x = some true)) ∧ (∀ z ∈ its, SeqAt.EqAt A s z ux (e z)) ∧ its.any e = k
 | [], vs, its, k, h, r, q => by
  rw [Reps.nil_i] at r
  subst r
  cases q
  simp only [inN, Option.some.injEq] at h
  subst h
  exact ⟨fun z => decide (∃ d v, Rep X.K O H d v ∧ RelV v z ∧ eqN st depth d x = some true), fun _ => rfl, (fun z hz => (by cases hz)), rfl⟩
 | y :: ys, vs, its, k, h, r, q => by
  obtain ⟨v, vs', rfl, ry, rs⟩:=Reps.cons_i.mp r
  cases q with
  | cons q1 q2 =>
   rename_i u us
   unfold inN at h
   cases e1 : eqN st depth y x with
   | none => rw [e1] at h; cases h
   | some a =>
    cases e2 : inN st depth x ys with
    | none => rw [e1, e2] at h; cases h
    | some b =>
     rw [e1, e2] at h
     simp only [Option.some.injEq] at h
     obtain ⟨e, he, h1, h2⟩:=in_items I W rx qx hA e2 rs q2
     have hu : e u = a:=by
      rw [he u]
      cases a with
      | true => exact decide_eq_true ⟨y, v, ry, q1, e1⟩
      | false =>
       refine decide_eq_false ?_
       rintro ⟨d, v', r', q', e'⟩
       have ev : v' = v:=q'.inj q1
       subst ev
       have ed:=Rep.inj I W d y v' r' ry
       subst ed
       rw [e1] at e'
       cases e'
     refine ⟨e, he, fun z hz => ?_, ?_⟩
     ·rcases List.mem_cons.mp hz with rfl | hz
      ·rw [hu]
       exact (eq_sound I W depth y x a e1 A v vx z ux ry rx q1 qx hA).1
      ·exact h1 z hz
     ·rw [List.any_cons, hu, h2]
      exact h
theorem in_units {A : Around} (hu : A.units + 64 < cLine) : A.in1.units + depth < cLine:=by
 show A.units + 1 + 50 < cLine
 omega
theorem op_inD (hu : X.A.units + 64 < cLine) : OpD X EX (compareOp .In) inD:=by
 intro pins s σ H x y v u Q I rx ry h
 obtain ⟨O, a, b, st, W, ra, rb, R⟩:=h
 unfold inD at R
 cases e1 : itemsOf st b with
 | none => rw [e1] at R; exact R.elim
 | some ys =>
  rw [e1] at R
  dsimp only at R
  cases e2 : inN st depth a ys with
  | none => rw [e2] at R; exact R.elim
  | some k =>
   rw [e2] at R
   have fin : EP X pins σ Q (.bool k) s:=⟨.bl k, H, I, rfl, Run.now (k:=Val X.K Q) R W _ (Rep.bl_i.mpr rfl)⟩
   by_cases hb : ∃ zs, b = .tup zs
   ·obtain ⟨zs, rfl⟩:=hb
    simp only [itemsOf, Option.some.injEq] at e1
    subst e1
    rw [Rep.tup_i] at rb
    obtain ⟨p, vs, rfl, q, r⟩:=rb
    cases ry
    obtain ⟨its, hv, hp, _⟩:=I.tuple (SqT.of q)
    obtain ⟨e, _, h1, h2⟩:=in_items I W ra rx (in_units hu) e2 r hv
    exact SeqAt.in_tupleAt e hp (fun z hz => h1 z (by simpa using hz)) (by simpa [h2] using fin)
   ·have e3 : seqL st b = some ys:=by
     cases b <;> first | exact e1 | exact absurd ⟨_, rfl⟩ hb
    obtain ⟨p, vs, rfl, q, r⟩:=rdL W rb e3
    cases ry
    obtain ⟨its, hv, hp, _⟩:=I.list q
    obtain ⟨e, _, h1, h2⟩:=in_items I W ra rx (in_units hu) e2 r hv
    exact SeqAt.in_listAt e hp.isList (fun z hz => h1 z (by simpa using hz)) (by simpa [h2] using fin)
theorem op_notInD (hu : X.A.units + 64 < cLine) : OpD X EX (compareOp .NotIn) notInD:=by
 intro pins s σ H x y v u Q I rx ry h
 obtain ⟨O, a, b, st, W, ra, rb, R⟩:=h
 unfold notInD at R
 cases e1 : itemsOf st b with
 | none => rw [e1] at R; exact R.elim
 | some ys =>
  rw [e1] at R
  dsimp only at R
  cases e2 : inN st depth a ys with
  | none => rw [e2] at R; exact R.elim
  | some k =>
   rw [e2] at R
   have fin : EP X pins σ Q (.bool (!k)) s:=⟨.bl (!k), H, I, rfl, Run.now (k:=Val X.K Q) R W _ (Rep.bl_i.mpr rfl)⟩
   by_cases hb : ∃ zs, b = .tup zs
   ·obtain ⟨zs, rfl⟩:=hb
    simp only [itemsOf, Option.some.injEq] at e1
    subst e1
    rw [Rep.tup_i] at rb
    obtain ⟨p, vs, rfl, q, r⟩:=rb
    cases ry
    obtain ⟨its, hv, hp, _⟩:=I.tuple (SqT.of q)
    obtain ⟨e, _, h1, h2⟩:=in_items I W ra rx (in_units hu) e2 r hv
    exact SeqAt.notIn_tupleAt e hp (fun z hz => h1 z (by simpa using hz)) (by simpa [h2] using fin)
   ·have e3 : seqL st b = some ys:=by
     cases b <;> first | exact e1 | exact absurd ⟨_, rfl⟩ hb
    obtain ⟨p, vs, rfl, q, r⟩:=rdL W rb e3
    cases ry
    obtain ⟨its, hv, hp, _⟩:=I.list q
    obtain ⟨e, _, h1, h2⟩:=in_items I W ra rx (in_units hu) e2 r hv
    exact SeqAt.notIn_listAt e hp.isList (fun z hz => h1 z (by simpa using hz)) (by simpa [h2] using fin)
end
end DL
end
section
namespace DL
open PySem PySem.Spec PyProof.Rows L2
section
variable {X : Cx} {EX : EXT} {a b c e : Expr} {fa fb fc : DE} {pos p2 : Pos} {ta tb : DT}
noncomputable abbrev DO:=Ev → Sto → Out (Option Int)
noncomputable def tDO (K : PySem.W.Frag) (EX : EXT) (f : DO) : TO:=fun σ H Q => ∃ O ρ st, WR K O H st ∧ REnv K O H ρ σ ∧ Run K EX O H (f ρ st) (fun o _ _ H' => Q o H')
noncomputable def PDO (X : Cx) (EX : EXT) (e : Option Expr) (f : DO) : Prop:=PO X e (tDO X.K EX f)
noncomputable def dNoPart : DO:=fun _ st => .ok none st
noncomputable def asInt : D → Sto → Out (Option Int)
 | .int i, st => .ok (some i) st
 | _, _ => .bad
noncomputable def dPart (f : DE) : DO:=fun ρ st => (f ρ st).bind asInt
theorem PO.mono {e : Option Expr} {t t' : TO} (h : PO X e t) (f : ∀ σ H Q, t' σ H Q → t σ H Q) : PO X e t':=fun pins s σ H Q I q => h pins s σ H Q I (f σ H Q q)
theorem pdo_none : PDO X EX none dNoPart:=by
 refine PO.mono po_none ?_
 rintro σ H Q ⟨O, ρ, st, W, E, R⟩
 exact Run.now (k:=fun o _ _ H' => Q o H') R W
theorem pdo_some {f : DE} (h : PD X EX e f) : PDO X EX (some e) (dPart f):=by
 refine PO.mono (po_some h) ?_
 rintro σ H Q ⟨O, ρ, st, W, E, R⟩
 refine ⟨O, ρ, st, W, E, R.bind.mono fun d st1 O1 H1 k1 W1 R1 v r => ?_⟩
 cases d with
 | int i => exact ⟨i, Rep.int_i.mp r, Run.now (k:=fun o _ _ H' => Q o H') R1 W1⟩
 | _ => exact R1.elim
noncomputable def cutL {α : Type} (xs : List α) (lo hi : Option Int) : List α:=(xs.drop (HT.sIx xs.length 0 lo)).take (HT.sIx xs.length xs.length hi - HT.sIx xs.length 0 lo)
theorem Reps.cut {K : PySem.W.Frag} {O : List Addr} {H : Hp} {ds : List D} {vs : List V} (r : Reps K O H ds vs) (lo hi : Option Int) : Reps K O H (cutL ds lo hi) (cutV vs lo hi):=by
 unfold cutL cutV
 rw [r.length]
 exact (r.drop _).take _
noncomputable def rDS (K : PySem.W.Frag) (EX : EXT) (g : D → Option Int → Option Int → Sto → Out D) : V → Option Int → Option Int → Hp → VK → Prop:=fun x lo hi H Q => ∃ O d st, WR K O H st ∧ Rep K O H d x ∧ Run K EX O H (g d lo hi st) (Val K Q)
noncomputable def dSl {α : Type} (g : D → Option Int → Option Int → Sto → Out α) (f : DE) (l h : DO) : Ev → Sto → Out α:=fun ρ st => (f ρ st).bind fun x st1 => (l ρ st1).bind fun lo st2 => (h ρ st2).bind fun hi st3 => g x lo hi st3
theorem pd_slice {g : D → Option Int → Option Int → Sto → Out D} {lo hi : Option Expr} {fl fh : DO} (hr : SlR X (rDS X.K EX g)) (he : PD X EX e fa) (hl : PDO X EX lo fl) (hh : PDO X EX hi fh) : PD X EX (.Subscript e (.Slice lo hi none p2) pos) (dSl g fa fl fh):=by
 refine PE.mono (pe_slice hr he hl hh) ?_
 rintro σ H Q ⟨O, ρ, st, W, E, R⟩
 refine ⟨O, ρ, st, W, E, R.bind.mono fun x st1 O1 H1 k1 W1 R1 v r => ?_⟩
 refine ⟨O1, ρ, st1, W1, E.mono k1, R1.bind.mono fun lo st2 O2 H2 k2 W2 R2 => ?_⟩
 refine ⟨O2, ρ, st2, W2, E.mono (k1.trans k2), R2.bind.mono fun hi st3 O3 H3 k3 W3 R3 => ?_⟩
 exact ⟨O3, x, st3, W3, Rep.mono (k2.trans k3) x v r, R3⟩
noncomputable def cutT : D → Option Int → Option Int → Sto → Out D
 | .tup xs, lo, hi, st => .ok (.tup (cutL xs lo hi)) st
 | _, _, _, _ => .bad
theorem sl_T : SlR X (rDS X.K EX cutT):=by
 intro pins s σ H x v vl vu lo hi sl Q I rx hs pl pu h
 obtain ⟨O, d, st, W, r, R⟩:=h
 cases d with
 | tup xs =>
  rw [Rep.tup_i] at r
  obtain ⟨a, vs, rfl, q, rs⟩:=r
  by_cases hw : HT.sIx vs.length 0 lo = 0 ∧ HT.sIx vs.length vs.length hi = vs.length
  ·cases rx
   obtain ⟨its, hv, ht, hz⟩:=I.tuple (SqT.of q)
   have hlen : its.toArray.size = vs.length:=by rw [List.size_toArray]; exact hv.length.symm
   refine ⟨"tuple", _, PyProof.Rows.slot_tuple_getitem.lookup, ht.typeIs, HT.getItem_tuple_whole ht hs pl pu (by rw [hlen]; exact hw) ?_⟩
   have e : cutL xs lo hi = xs:=by
    unfold cutL
    rw [rs.length, hw.1, hw.2, List.drop_zero, Nat.sub_zero, ← rs.length, List.take_length]
   refine ⟨.ref a, H, I, rfl, ?_⟩
   dsimp only [cutT] at R
   rw [e] at R
   exact Run.now (k:=Val X.K Q) R W _ (Rep.tup_i.mpr ⟨a, vs, rfl, q, rs⟩)
  ·exact sl_tup pins s σ H _ v vl vu lo hi sl Q I rx hs pl pu ⟨a, vs, rfl, SqT.of q, hw, fun p hp => new_tup W (rs.cut lo hi) hp R⟩
 | _ => exact R.elim
noncomputable def ixD (d : D) (i : D) (st : Sto) : Out D:=match i with
 | .int k => match d with
  | .str z => if z.length ≤ small then (match atI z.cps.toList k with
   | some c => .ok (.str ⟨#[c]⟩) st
   | none => .bad) else .bad
  | _ => match itemsOf st d with
   | some xs => match atI xs k with
    | some x => .ok x st
    | none => .bad
   | none => .bad
 | _ => .bad
theorem Reps.atI {K : PySem.W.Frag} {O : List Addr} {H : Hp} {ds : List D} {vs : List V} {k : Int} {d : D} (r : Reps K O H ds vs) (h : L2.atI ds k = some d) : ∃ v, L2.atI vs k = some v ∧ Rep K O H d v:=by
 unfold L2.atI at h ⊢
 rw [← r.length]
 cases e : ixN ds.length k with
 | none => rw [e] at h; cases h
 | some j =>
  rw [e] at h
  obtain ⟨v, h1, h2⟩:=r.get (i:=j) (d:=d) h
  exact ⟨v, h1, h2⟩
theorem ix_D : IxR X (rD2 X.K EX ixD):=by
 intro value slice pins s σ H x y v u Q I rx ry h hsub
 obtain ⟨O, d, i, st, W, rd, ri, R⟩:=h
 cases i with
 | int k =>
  rw [Rep.int_i] at ri
  subst ri
  have seq : ∀ xs, itemsOf st d = some xs → Run X.K EX O H (match L2.atI xs k with
    | some x => .ok x st
    | none => .bad) (Val X.K Q) → wpAny (model X.prog X.w) X.A (subscriptTail value slice v u) (EP X pins σ Q) X.xe s:=by
   intro xs e1 R'
   clear R
   cases e2 : L2.atI xs k with
   | none => rw [e2] at R'; exact R'.elim
   | some z =>
    rw [e2] at R'
    by_cases hb : ∃ zs, d = .tup zs
    ·obtain ⟨zs, rfl⟩:=hb
     simp only [itemsOf, Option.some.injEq] at e1
     subst e1
     rw [Rep.tup_i] at rd
     obtain ⟨p, vs, rfl, q, r⟩:=rd
     obtain ⟨w, h1, h2⟩:=r.atI e2
     exact ix_tup value slice pins s σ H _ _ v u Q I rx ry ⟨p, vs, k, w, rfl, rfl, SqT.of q, h1, Run.now (k:=Val X.K Q) R' W _ h2⟩ hsub
    ·have e3 : seqL st d = some xs:=by
      cases d <;> first | exact e1 | exact absurd ⟨_, rfl⟩ hb
     obtain ⟨p, vs, rfl, q, r⟩:=rdL W rd e3
     obtain ⟨w, h1, h2⟩:=r.atI e2
     exact ix_list value slice pins s σ H _ _ v u Q I rx ry ⟨p, vs, k, w, rfl, rfl, q, h1, Run.now (k:=Val X.K Q) R' W _ h2⟩ hsub
  cases d with
  | str z =>
   rw [Rep.str_i] at rd
   subst rd
   dsimp only [ixD] at R
   by_cases hz : z.length ≤ small
   ·rw [if_pos hz] at R
    cases e : L2.atI z.cps.toList k with
    | none => rw [e] at R; exact R.elim
    | some c =>
     rw [e] at R
     exact ix_str value slice pins s σ H _ _ v u Q I rx ry ⟨z, k, c, rfl, rfl, Nat.le_trans hz small_le, e, Run.now (k:=Val X.K Q) R W _ (Rep.str_i.mpr rfl)⟩ hsub
   ·rw [if_neg hz] at R; exact R.elim
  | tup xs => exact seq xs rfl R
  | lst xs => exact seq xs rfl R
  | scr xs => exact seq xs rfl R
  | res j =>
   dsimp only [ixD] at R
   cases e : itemsOf st (.res j) with
   | none => rw [e] at R; exact R.elim
   | some xs => rw [e] at R; exact seq xs e R
  | _ => exact R.elim
 | _ => exact R.elim
theorem pd_ix (ha : PD X EX a fa) (hb : PD X EX b fb) (hs : PlainIx b:=by intro _ _; rfl) : PD X EX (.Subscript a b pos) (dBin ixD fa fb):=PE.mono (pe_ix ix_D ha hb hs) bin_imp
noncomputable def dCall {α : Type} (g : List D → Sto → Out α) (f : DA) : Ev → Sto → Out α:=fun ρ st => (f ρ st).bind g
theorem call_imp {g : List D → Sto → Out D} {f : DA} : ∀ σ H Q, tD X.K EX (dCall g f) σ H Q → tCB (rDC X.K EX g) (tDA X.K EX f) σ H Q:=by
 rintro σ H Q ⟨O, ρ, st, W, E, R⟩
 exact ⟨O, ρ, st, W, E, R.bind.mono fun ds st1 O1 H1 k1 W1 R1 vs r => ⟨O1, ds, st1, W1, r, R1⟩⟩
theorem callF_imp {g : List D → Sto → Out (List D)} {f : DA} : ∀ σ H Q, tDF X.K EX (dCall g f) σ H Q → tCB (rDCF X.K EX g) (tDA X.K EX f) σ H Q:=by
 rintro σ H Q ⟨O, ρ, st, W, E, R⟩
 exact ⟨O, ρ, st, W, E, R.bind.mono fun ds st1 O1 H1 k1 W1 R1 vs r => ⟨O1, ds, st1, W1, r, R1⟩⟩
theorem pd_callB {x : Str} {p : Pos} {es : List Expr} {id : String} {g : List D → Sto → Out D} {f : DA} (hc : CallD X EX (.builtin id) g) (hg : Gl X x) (hm : X.mg x = none) (hv : bootBuiltins x = some (.builtin id)) (ha : PDA X EX (e :: es) f) (hn : x ≠ "__name__" := by decide) (hdb : (x == ("__debug__" : Str)) = false := by decide)
  (he : starEach (e :: es) X.env = (false, eval e X.env) :: starEach es X.env:=by rfl) (hpl : (backTo pos (starEach es X.env)).any (·.1) = false:=by rfl) : PD X EX (.Call (.Name x p) (e :: es) [] pos) (dCall g f):=PE.mono (pe_callB hc hg hm hv ha hn hdb he hpl) call_imp
theorem pd_callTy {x : Str} {p : Pos} {es : List Expr} {T : String} {g : List D → Sto → Out D} {f : DA} (hc : CallD X EX (.type T) g) (hg : Gl X x) (hm : X.mg x = none) (hv : bootBuiltins x = some (.type T)) (ha : PDA X EX (e :: es) f) (hn : x ≠ "__name__" := by decide) (hdb : (x == ("__debug__" : Str)) = false := by decide)
  (he : starEach (e :: es) X.env = (false, eval e X.env) :: starEach es X.env:=by rfl) (hpl : (backTo pos (starEach es X.env)).any (·.1) = false:=by rfl) : PD X EX (.Call (.Name x p) (e :: es) [] pos) (dCall g f):=PE.mono (pe_callTy hc hg hm hv ha hn hdb he hpl) call_imp
theorem pdf_callTy {x : Str} {p : Pos} {es : List Expr} {T : String} {g : List D → Sto → Out (List D)} {f : DA} (hc : CallF X EX (.type T) g) (hg : Gl X x) (hm : X.mg x = none) (hv : bootBuiltins x = some (.type T)) (ha : PDA X EX (e :: es) f) (hn : x ≠ "__name__" := by decide) (hdb : (x == ("__debug__" : Str)) = false := by decide)
  (he : starEach (e :: es) X.env = (false, eval e X.env) :: starEach es X.env:=by rfl) (hpl : (backTo pos (starEach es X.env)).any (·.1) = false:=by rfl) : PDF X EX (.Call (.Name x p) (e :: es) [] pos) (dCall g f):=PE.mono (pe_callTy hc hg hm hv ha hn hdb he hpl) callF_imp
noncomputable def lenD : List D → Sto → Out D
 | [.str x], st => if x.length ≤ small then .ok (.int x.length) st else .bad
 | [d], st => match itemsOf st d with
  | some xs => .ok (.int xs.length) st
  | none => .bad
 | _, _ => .bad
theorem itemsOf_rd {O : List Addr} {H : Hp} {st : Sto} (W : WR X.K O H st) {d : D} {v : V} {xs : List D} (r : Rep X.K O H d v) (e : itemsOf st d = some xs) : ∃ p vs, v = .ref p ∧ (SqL X.K H p vs ∨ H p = some (.tup vs)) ∧ Reps X.K O H xs vs:=by
 by_cases hb : ∃ zs, d = .tup zs
 ·obtain ⟨zs, rfl⟩:=hb
  simp only [itemsOf, Option.some.injEq] at e
  subst e
  rw [Rep.tup_i] at r
  obtain ⟨p, vs, rfl, q, r⟩:=r
  exact ⟨p, vs, rfl, .inr q, r⟩
 ·have e3 : seqL st d = some xs:=by
   cases d <;> first | exact e | exact absurd ⟨_, rfl⟩ hb
  obtain ⟨p, vs, rfl, q, r⟩:=rdL W r e3
  exact ⟨p, vs, rfl, .inl q, r⟩
theorem Reps.one_of {K : PySem.W.Frag} {O : List Addr} {H : Hp} {d : D} {vs : List V} (h : Reps K O H [d] vs) : ∃ v, vs = [v] ∧ Rep K O H d v:=by
 obtain ⟨v, r, rfl, q, t⟩:=Reps.cons_i.mp h
 rw [Reps.nil_i] at t
 subst t
 exact ⟨v, rfl, q⟩
theorem call_lenD : CallD X EX (.builtin "len") lenD := by
 intro pins s σ H xs us Q I rx h
 obtain ⟨O, ds, st, W, r, R⟩:=h
 match ds, r, R with
 | [], _, R => exact R.elim
 | [d], r, R =>
  obtain ⟨v, rfl, rv⟩:=r.one_of
  have seq : ∀ zs, itemsOf st d = some zs → Run X.K EX O H (.ok (.int zs.length) st) (Val X.K Q) → wpAny (model X.prog X.w) X.A (PySem.call (.builtin "len") us) (EP X pins σ Q) X.xe s := by
   intro zs e R
   obtain ⟨p, vs, rfl, q, rs⟩:=itemsOf_rd W rv e
   exact call_len_seq pins s σ H _ us Q I rx ⟨p, vs, rfl, q.imp_right SqT.of, by rw [← rs.length]; exact Run.now (k:=Val X.K Q) R W _ (Rep.int_i.mpr rfl)⟩
  cases d with
  | str x =>
   rw [Rep.str_i] at rv
   subst rv
   dsimp only [lenD] at R
   by_cases hz : x.length ≤ small
   ·rw [if_pos hz] at R
    exact call_len_str pins s σ H _ us Q I rx ⟨x, rfl, Nat.le_trans hz small_le, Run.now (k:=Val X.K Q) R W _ (Rep.int_i.mpr rfl)⟩
   ·rw [if_neg hz] at R; exact R.elim
  | tup zs => exact seq zs rfl R
  | lst zs => exact seq zs rfl R
  | scr zs => exact seq zs rfl R
  | res j =>
   dsimp only [lenD] at R
   cases e : itemsOf st (.res j) with
   | none => rw [e] at R; exact R.elim
   | some xs => rw [e] at R; exact seq xs e R
  | _ => exact R.elim
 | d1 :: _ :: _, _, R => cases d1 <;> exact R.elim
noncomputable def listF : List D → Sto → Out (List D)
 | [d], st => match itemsOf st d with
  | some xs => .ok xs st
  | none => .bad
 | _, _ => .bad
noncomputable def tupleD : List D → Sto → Out D
 | [d], st => match itemsOf st d with
  | some xs => .ok (.tup xs) st
  | none => .bad
 | _, _ => .bad
theorem call_listF : CallF X EX (.type "list") listF := by
 intro pins s σ H xs us Q I rx h
 obtain ⟨O, ds, st, W, r, R⟩:=h
 match ds, r, R with
 | [], _, R => exact R.elim
 | [d], r, R =>
  obtain ⟨v, rfl, rv⟩:=r.one_of
  dsimp only [listF] at R
  cases e : itemsOf st d with
  | none => rw [e] at R; exact R.elim
  | some zs =>
   rw [e] at R
   obtain ⟨p, vs, rfl, q, rs⟩:=itemsOf_rd W rv e
   exact call_list_of pins s σ H _ us Q I rx ⟨p, vs, rfl, q.imp_right SqT.of, fun l hl => Run.now (k:=New X.K Q) R W l _ rs hl⟩
 | _ :: _ :: _, _, R => exact R.elim
theorem call_tupleD : CallD X EX (.type "tuple") tupleD := by
 intro pins s σ H xs us Q I rx h
 obtain ⟨O, ds, st, W, r, R⟩:=h
 match ds, r, R with
 | [], _, R => exact R.elim
 | [d], r, R =>
  obtain ⟨v, rfl, rv⟩:=r.one_of
  dsimp only [tupleD] at R
  cases e : itemsOf st d with
  | none => rw [e] at R; exact R.elim
  | some zs =>
   rw [e] at R
   obtain ⟨p, vs, rfl, q, rs⟩:=itemsOf_rd W rv e
   rcases q with q | q
   ·exact call_tuple_of pins s σ H _ us Q I rx ⟨p, vs, rfl, .inl ⟨q, fun l hl => new_tup W rs hl R⟩⟩
   ·exact call_tuple_of pins s σ H _ us Q I rx ⟨p, vs, rfl, .inr ⟨SqT.of q, Run.now (k:=Val X.K Q) R W _ (Rep.tup_i.mpr ⟨p, vs, rfl, q, rs⟩)⟩⟩
 | _ :: _ :: _, _, R => exact R.elim
end
end DL
end
section
namespace DL
open PySem PySem.Spec PyProof.Rows L2
noncomputable abbrev FD:=List D → Sto → Out D
noncomputable def spD (K : PySem.W.Frag) (F : FD) : Sp:=fun vs H Q E => ∃ O ds st, WR K O H st ∧ Reps K O H ds vs ∧ Run K (fun c _ _ H' => E (.ref c) Option.none H') O H (F ds st) (Val K Q)
noncomputable def eOf (EX : EXT) : XK:=fun Cv _ H' => ∃ c st O', Cv = .ref c ∧ EX c st O' H'
noncomputable abbrev XeOk (CX : CXT) (X : Cx) (EX : EXT) : Prop:=Passes CX X (eOf EX)
theorem xe0 {X : Cx} {EX : EXT} : XeOk CX0 X EX:=fun _ _ _ _ _ _ _ h => h.elim
theorem Run.ex {K : PySem.W.Frag} {EX EX' : EXT} {α : Type} {O : List Addr} {H : Hp} {r : Out α} {k : α → Sto → List Addr → Hp → Prop} (h : Run K EX O H r k) (f : ∀ c st O' H', EX c st O' H' → EX' c st O' H') : Run K EX' O H r k:=by
 cases r with
 | ok a st => exact h
 | exc c st => exact fun O' H' kp W => f _ _ _ _ (h O' H' kp W)
 | bad => exact h
theorem Run.eOf {K : PySem.W.Frag} {EX : EXT} {α : Type} {O : List Addr} {H : Hp} {r : Out α} {k : α → Sto → List Addr → Hp → Prop} (h : Run K EX O H r k) : Run K (fun c _ _ H' => eOf EX (.ref c) Option.none H') O H r k :=
 h.ex fun c st O' H' z => ⟨c, st, O', rfl, z⟩
noncomputable def putFD (f : Str) (d : D) : List (Str × D) → List (Str × D)
 | [] => [(f, d)]
 | (g, x) :: r => if g = f then (g, d) :: r else (g, x) :: putFD f d r
theorem Flds.put {K : PySem.W.Frag} {O : List Addr} {H : Hp} {f : Str} {d : D} {v : V} (q : Rep K O H d v) : ∀ {ds : List (Str × D)} {vs : List (Str × V)}, Flds K O H ds vs → Flds K O H (putFD f d ds) (putF f v vs)
 | [], vs, h => by
  unfold Flds at h
  subst h
  show Flds K O H [(f, d)] [(f, v)]
  unfold Flds
  exact ⟨v, [], rfl, q, by unfold Flds; rfl⟩
 | (x, e) :: ds, vs, h => by
  unfold Flds at h
  obtain ⟨u, r, rfl, q', t⟩:=h
  unfold putFD putF
  by_cases hx : x = f
  ·rw [if_pos hx, if_pos hx]
   unfold Flds
   exact ⟨v, r, rfl, q, t⟩
  ·rw [if_neg hx, if_neg hx]
   unfold Flds
   exact ⟨u, putF f v r, rfl, q', Flds.put q t⟩
theorem Flds.length {K : PySem.W.Frag} {O : List Addr} {H : Hp} : ∀ {ds : List (Str × D)} {vs : List (Str × V)}, Flds K O H ds vs → ds.length = vs.length
 | [], vs, h => by unfold Flds at h; subst h; rfl
 | (x, e) :: ds, vs, h => by
  unfold Flds at h
  obtain ⟨u, r, rfl, q', t⟩:=h
  rw [List.length_cons, List.length_cons, Flds.length t]
section
variable {X : Cx} {EX : EXT} {a b c e o : Expr} {fa fb fc fo : DE} {pos p apos : Pos} {ta tb : DT} {CX : CXT} {k : Nat} {f C : Addr} {fd : FuncData} {ps : List Str} {n : Nat} {F : FD} {x m : Str} {es : List Expr} {g : DA}
theorem pd_call (G : FnOk X.prog X.w X.K X.mg X.base CX k f fd ps (spD X.K F)) (hr : Room k X.A) (hg : Gl X x) (hm : X.mg x = some (.ref f)) (hk : PySem.W.keepIn X.K (.ref f) = true) (hb : Binds X.K fd ps []) (hx : XeOk CX X EX) (ha : PDA X EX (e :: es) g)
  (hdb : (x == ("__debug__" : Str)) = false := by decide) (he : starEach (e :: es) X.env = (false, eval e X.env) :: starEach es X.env := by rfl) (hpl : (backTo pos (starEach es X.env)).any (·.1) = false := by rfl) :
  PD X EX (.Call (.Name x p) (e :: es) [] pos) (dCall F g):=by
 refine PE.mono (pe_call G hr hg hm hk hb .nil hx ha hdb he hpl) ?_
 rintro σ H Q ⟨O, ρ, st, W, E, R⟩
 refine ⟨O, ρ, st, W, E, R.bind.mono fun ds st1 O1 H1 k1 W1 R2 vs r => ?_⟩
 dsimp only
 rw [List.append_nil]
 exact ⟨O1, ds, st1, W1, r, R2.eOf⟩
end
inductive OutS where
 | nx (ρ : Ev) (st : Sto) | rt (d : D) (st : Sto) | bk (ρ : Ev) (st : Sto) | ct (ρ : Ev) (st : Sto) | exc (c : Addr) (st : Sto) | bad
noncomputable abbrev DS:=Ev → Sto → OutS
noncomputable def RunS (K : PySem.W.Frag) (EX : EXT) (Dn : Ends) (O : List Addr) (H : Hp) : OutS → Prop
 | .nx ρ st => ∀ O' H' σ, Keep K O H O' H' → WR K O' H' st → REnv K O' H' ρ σ → Dn.nx σ H'
 | .bk ρ st => ∀ O' H' σ, Keep K O H O' H' → WR K O' H' st → REnv K O' H' ρ σ → Dn.bk σ H'
 | .ct ρ st => ∀ O' H' σ, Keep K O H O' H' → WR K O' H' st → REnv K O' H' ρ σ → Dn.ct σ H'
 | .rt d st => ∀ O' H' v, Keep K O H O' H' → WR K O' H' st → Rep K O' H' d v → Dn.rt v H'
 | .exc c st => ∀ O' H', Keep K O H O' H' → WR K O' H' st → EX c st O' H'
 | .bad => False
noncomputable def tDS (K : PySem.W.Frag) (EX : EXT) (g : DS) : TS:=fun Dn σ H => ∃ O ρ st, WR K O H st ∧ REnv K O H ρ σ ∧ RunS K EX Dn O H (g ρ st)
noncomputable def PDs (X : Cx) (EX : EXT) (s : Stmt) (g : DS) : Prop:=PS X s (tDS X.K EX g)
noncomputable def PDS (X : Cx) (EX : EXT) (ss : List Stmt) (g : DS) : Prop:=PSs X ss (tDS X.K EX g)
theorem RunS.later {K : PySem.W.Frag} {EX : EXT} {Dn : Ends} {O O' : List Addr} {H H' : Hp} {r : OutS} (h : RunS K EX Dn O H r) (kp : Keep K O H O' H') : RunS K EX Dn O' H' r:=by
 cases r with
 | bad => exact h
 | exc c st => exact fun O2 H2 k2 W2 => h O2 H2 (kp.trans k2) W2
 | rt d st => exact fun O2 H2 v k2 W2 r2 => h O2 H2 v (kp.trans k2) W2 r2
 | nx ρ st => exact fun O2 H2 v k2 W2 r2 => h O2 H2 v (kp.trans k2) W2 r2
 | bk ρ st => exact fun O2 H2 v k2 W2 r2 => h O2 H2 v (kp.trans k2) W2 r2
 | ct ρ st => exact fun O2 H2 v k2 W2 r2 => h O2 H2 v (kp.trans k2) W2 r2
noncomputable def Out.to {α : Type} (r : Out α) (k : α → Sto → OutS) : OutS:=match r with
 | .ok a st => k a st
 | .exc c st => .exc c st
 | .bad => .bad
theorem RunS.to {K : PySem.W.Frag} {EX : EXT} {Dn : Ends} {α : Type} {O : List Addr} {H : Hp} {r : Out α} {g : α → Sto → OutS} (h : RunS K EX Dn O H (r.to g)) : Run K EX O H r (fun a st O' H' => RunS K EX Dn O' H' (g a st)):=by
 cases r with
 | ok a st => exact fun O' H' kp W => RunS.later (r:=g a st) h kp
 | exc c st => exact h
 | bad => exact h
section
variable {X : Cx} {EX : EXT} {a b c e o tg : Expr} {fa fb fc fo : DE} {pos p apos : Pos} {ta tb : DT} {s : Stmt} {ss : List Stmt} {g g' : DS} {x : Str} {C : Addr}
noncomputable def sNext : DS:=fun ρ st => .nx ρ st
noncomputable def sSeq (g g' : DS) : DS:=fun ρ st => match g ρ st with
 | .nx ρ' st' => g' ρ' st'
 | r => r
theorem pds_nil : PDS X EX [] sNext:=by
 refine PSs.mono pss_nil ?_
 rintro Dn σ H ⟨O, ρ, st, W, E, R⟩
 exact R O H σ Keep.refl W E
theorem pds_cons (h1 : PDs X EX s g) (h2 : PDS X EX ss g') : PDS X EX (s :: ss) (sSeq g g'):=by
 refine PSs.mono (pss_cons h1 h2) ?_
 rintro Dn σ H ⟨O, ρ, st, W, E, R⟩
 refine ⟨O, ρ, st, W, E, ?_⟩
 unfold sSeq at R
 cases hg : g ρ st with
 | nx ρ' st' =>
  rw [hg] at R
  exact fun O' H' σ' kp W' E' => ⟨O', ρ', st', W', E', RunS.later R kp⟩
 | _ => rw [hg] at R; exact R
theorem pds_one (h1 : PDs X EX s g) : PDS X EX [s] g:=pss_one h1
noncomputable def sExpr (f : DE) : DS:=fun ρ st => (f ρ st).to fun _ st1 => .nx ρ st1
theorem pd_expr (he : PD X EX e fa) (hs : swapsWith e none pos.line X.env = pure false:=by rfl) : PDs X EX (.Expr e pos) (sExpr fa):=by
 refine PS.mono (ps_expr he hs) ?_
 rintro Dn σ H ⟨O, ρ, st, W, E, R⟩
 exact ⟨O, ρ, st, W, E, R.to.mono fun d st1 O1 H1 k1 W1 R1 v r => R1 O1 H1 σ Keep.refl W1 (E.mono k1)⟩
noncomputable def sRet (f : DE) : DS:=fun ρ st => (f ρ st).to fun d st1 => .rt d st1
theorem pd_ret (he : PD X EX e fa) : PDs X EX (.Return (some e) pos) (sRet fa):=by
 refine PS.mono (ps_ret he) ?_
 rintro Dn σ H ⟨O, ρ, st, W, E, R⟩
 exact ⟨O, ρ, st, W, E, R.to.mono fun d st1 O1 H1 k1 W1 R1 v r => R1 O1 H1 v Keep.refl W1 r⟩
noncomputable def sIf (t : DT) (g g' : DS) : DS:=fun ρ st => (t ρ st).to fun x st1 => if x = true then g ρ st1 else g' ρ st1
theorem pd_if {sa sb : List Stmt} (hc : PDT X EX c ta) (ha : PDS X EX sa g) (hb : PDS X EX sb g') : PDs X EX (.If c sa sb pos) (sIf ta g g'):=by
 refine PS.mono (ps_if hc ha hb) ?_
 rintro Dn σ H ⟨O, ρ, st, W, E, R⟩
 refine ⟨O, ρ, st, W, E, R.to.mono fun x st1 O1 H1 k1 W1 R1 => ?_⟩
 cases x with
 | true => exact ⟨O1, ρ, st1, W1, E.mono k1, R1⟩
 | false => exact ⟨O1, ρ, st1, W1, E.mono k1, R1⟩
noncomputable def sSet (i : Nat) (f : DE) : DS:=fun ρ st => (f ρ st).to fun d st1 => .nx (ρ.set i (some d)) st1
theorem pd_set (i : Nat) {pos' : Pos} (hN : X.N.Nodup) (hi : X.N[i]? = some x) (hx : Loc X.env.scope x) (he : PD X EX e fa) (hs : swapsWith e (some (.Name x pos')) pos.line X.env = pure false:=by rfl)
  (hf : X.fn x = true ∨ X.env.scope.names.lookup x = some .local:=by first | exact .inl rfl | exact .inr rfl | assumption) : PDs X EX (.Assign [.Name x pos'] e pos) (sSet i fa):=by
 refine PS.mono (ps_set hN hi hx he hs hf) ?_
 rintro Dn σ H ⟨O, ρ, st, W, E, R⟩
 exact ⟨O, ρ, st, W, E, R.to.mono fun d st1 O1 H1 k1 W1 R1 v r => R1 O1 H1 _ Keep.refl W1 ((E.mono k1).set r)⟩
noncomputable def sSetF (i : Nat) (f : DA) : DS:=fun ρ st => (f ρ st).to fun ds st1 => .nx (ρ.set i (some (.res st1.length))) (st1 ++ [.lst ds])
theorem pd_setF (i : Nat) {f : DA} {pos' : Pos} (hN : X.N.Nodup) (hi : X.N[i]? = some x) (hx : Loc X.env.scope x) (he : PDF X EX e f) (hs : swapsWith e (some (.Name x pos')) pos.line X.env = pure false:=by rfl)
  (hf : X.fn x = true ∨ X.env.scope.names.lookup x = some .local:=by first | exact .inl rfl | exact .inr rfl | assumption) : PDs X EX (.Assign [.Name x pos'] e pos) (sSetF i f):=by
 refine PS.mono (ps_set hN hi hx he hs hf) ?_
 rintro Dn σ H ⟨O, ρ, st, W, E, R⟩
 exact ⟨O, ρ, st, W, E, R.to.mono fun ds st1 O1 H1 k1 W1 R1 p vs r hp => R1 (O1 ++ [p]) _ _ (Keep.push hp) (W1.push hp r) ((E.mono (k1.trans (Keep.push hp))).set (rep_last W1.len))⟩
noncomputable def runF (N n : Nat) (g : DS) : FD:=fun ds st => if ds.length = n then (match g (ds.map some ++ List.replicate (N - n) none) st with
 | .nx _ st' => .ok .non st'
 | .rt d st' => .ok d st'
 | _ => .bad) else .bad
end
section
variable {P : Program} {w : World} {K : PySem.W.Frag} {mg : Str → Option Value} {base : Heap}
theorem renv_start {O : List Addr} {H : Hp} {N : List Str} : ∀ {ds : List D} {vs : List V} (m : Nat), Reps K O H ds vs → REnv K O H (ds.map some ++ List.replicate m none) (vs.map some ++ List.replicate m none):=by
 intro ds vs m r
 refine ⟨by simp [r.length], fun i d h => ?_⟩
 by_cases hi : i < ds.length
 ·rw [List.getElem?_append_left (by simpa using hi)] at h
  rw [List.getElem?_map] at h
  cases e : ds[i]? with
  | none => rw [e] at h; cases h
  | some d' =>
   rw [e] at h
   simp only [Option.map_some, Option.some.injEq] at h
   subst h
   obtain ⟨v, h1, h2⟩:=r.get e
   exact ⟨v, by rw [List.getElem?_append_left (by rw [List.length_map, ← r.length]; exact hi), List.getElem?_map, h1]; rfl, h2⟩
 ·rw [List.getElem?_append_right (by rw [List.length_map]; omega), List.getElem?_replicate] at h
  split at h <;> cases h
theorem fnD {x qual : Str} {st : Stmt} {f : Addr} {fd : FuncData} {N ps : List Str} {k : Nat} {g : DS} (F : Fun K x qual st f fd) (S : FnScope N ps (defScope st))
  (hbody : ∀ (cdv : Value) (A : Around) (outer : List Env) (s : Shared) (H : Hp) (E : XK), Room k (A.deeper (envOfC qual (defScope st) s.heap.objs.size f cdv)) →
   PDS (cxOf CX0 P w K mg base N qual (defScope st) f cdv A outer s H E).nox EX0 (defBody st) g) : FnOk P w K mg base CX0 (k + 1) f fd ps (spD K (runF N.length ps.length g)):=by
 have hlen : ∀ vs H Q E, spD K (runF N.length ps.length g) vs H Q E → vs.length = ps.length:=by
  rintro vs H Q E ⟨O, ds, st, W, r, R⟩
  unfold runF at R
  by_cases hl : ds.length = ps.length
  ·rw [← r.length]; exact hl
  ·rw [if_neg hl] at R; exact R.elim
 refine F.ok S hlen fun cdv A outer s H vs Q E hr h => ?_
 refine ⟨_, hbody cdv A outer s H E hr, ?_⟩
 have hl:=hlen vs H Q E h
 obtain ⟨O, ds, st, W, r, R⟩:=h
 have hd : ds.length = ps.length:=by rw [r.length]; exact hl
 unfold runF at R
 rw [if_pos hd] at R
 refine ⟨O, ds.map some ++ List.replicate (N.length - ps.length) none, st, W, ?_, ?_⟩
 ·unfold L2.start
  rw [hl]
  exact renv_start (N:=N) _ r
 ·cases hg : g (ds.map some ++ List.replicate (N.length - ps.length) none) st with
  | nx ρ st' => rw [hg] at R; exact fun O' H' σ kp W' _ => R O' H' kp W' _ (Rep.non_i.mpr rfl)
  | rt d st' => rw [hg] at R; exact fun O' H' v kp W' rv => R O' H' kp W' v rv
  | exc c st' => rw [hg] at R; exact R.elim
  | bad => rw [hg] at R; exact R
  | bk ρ st' => rw [hg] at R; exact R.elim
  | ct ρ st' => rw [hg] at R; exact R.elim
end
end DL
end
section
namespace DL
open PySem PySem.Spec PyProof.Rows L2
noncomputable abbrev TgD:=D → Ev → Option Ev
noncomputable def tgD (K : PySem.W.Frag) (t : TgD) : TG:=fun v σ H Q => ∃ O d ρ ρ', Rep K O H d v ∧ REnv K O H ρ σ ∧ t d ρ = some ρ' ∧ ∀ σ', REnv K O H ρ' σ' → Q σ' H
noncomputable def PGD (X : Cx) (tg : Expr) (t : TgD) : Prop:=PG X tg (tgD X.K t)
theorem PG.mono {X : Cx} {tg : Expr} {t t' : TG} (h : PG X tg t) (f : ∀ v σ H Q, t' v σ H Q → t v σ H Q) : PG X tg t':=fun pins s σ H v u Q I r q => h pins s σ H v u Q I r (f v σ H Q q)
theorem PGs.mono {X : Cx} {tg : List Expr} {t t' : TGs} (h : PGs X tg t) (f : ∀ v σ H Q, t' v σ H Q → t v σ H Q) : PGs X tg t':=fun pins s σ H v u Q I r q => h pins s σ H v u Q I r (f v σ H Q q)
noncomputable def tgName (i : Nat) : TgD:=fun d ρ => some (ρ.set i (some d))
noncomputable def setAll : List Nat → List D → Ev → Ev
 | i :: is, d :: ds, ρ => setAll is ds (ρ.set i (some d))
 | _, _, ρ => ρ
noncomputable def tgsD (K : PySem.W.Frag) (is : List Nat) : TGs:=fun vs σ H Q => ∃ O ds ρ, Reps K O H ds vs ∧ REnv K O H ρ σ ∧ ds.length = is.length ∧ ∀ σ', REnv K O H (setAll is ds ρ) σ' → Q σ' H
noncomputable def tgTup (is : List Nat) : TgD
 | .tup ds, ρ => if ds.length = is.length then some (setAll is ds ρ) else none
 | _, _ => none
section
variable {X : Cx} {EX : EXT} {pos : Pos} {x : Str}
theorem pgd_name (i : Nat) (hN : X.N.Nodup) (hi : X.N[i]? = some x) (hx : Loc X.env.scope x) (hf : X.fn x = true ∨ X.env.scope.names.lookup x = some .local:=by first | exact .inl rfl | exact .inr rfl | assumption) : PGD X (.Name x pos) (tgName i):=by
 refine PG.mono (pg_name hN hi hx hf) ?_
 rintro v σ H Q ⟨O, d, ρ, ρ', r, E, ht, q⟩
 cases ht
 exact q _ (E.set r)
theorem pgsd_nil : PGs X [] (tgsD X.K []):=by
 refine PGs.mono pgs_nil ?_
 rintro vs σ H Q ⟨O, ds, ρ, r, E, hl, q⟩
 have e : ds = []:=List.length_eq_zero_iff.mp hl
 subst e
 rw [Reps.nil_i] at r
 exact ⟨r, q _ E⟩
theorem pgsd_cons (i : Nat) {is : List Nat} {es : List Expr} (hN : X.N.Nodup) (hi : X.N[i]? = some x) (hx : Loc X.env.scope x) (h2 : PGs X es (tgsD X.K is)) (hf : X.fn x = true ∨ X.env.scope.names.lookup x = some .local:=by first | exact .inl rfl | exact .inr rfl | assumption)
  (hs : (assignEach (.Name x pos :: es) X.env).map (·.2) = assign (.Name x pos) X.env :: (assignEach es X.env).map (·.2):=by rfl) : PGs X (.Name x pos :: es) (tgsD X.K (i :: is)):=by
 refine PGs.mono (pgs_cons (pg_name hN hi hx hf) h2 hs) ?_
 rintro vs σ H Q ⟨O, ds, ρ, r, E, hl, q⟩
 cases ds with
 | nil => cases hl
 | cons d ds =>
  obtain ⟨v, vs', rfl, q1, t⟩:=Reps.cons_i.mp r
  exact ⟨v, vs', rfl, O, ds, _, t, E.set q1, by simpa using hl, q⟩
theorem pgd_tup {is : List Nat} {es : List Expr} {k : Nat} (hc : X.calm = true) (h : PGs X es (tgsD X.K is)) (hn : (assignEach es X.env).length = is.length:=by rfl) (hst : (assignEach es X.env).findIdx? (·.1) = none:=by rfl) : PGD X (.Tuple es k pos) (tgTup is):=by
 refine PG.mono (pg_tup hc h hn hst) ?_
 rintro v σ H Q ⟨O, d, ρ, ρ', r, E, ht, q⟩
 cases d with
 | tup ds =>
  dsimp only [tgTup] at ht
  by_cases hl : ds.length = is.length
  ·rw [if_pos hl] at ht
   cases ht
   rw [Rep.tup_i] at r
   obtain ⟨a, vs, rfl, hq, rs⟩:=r
   exact ⟨a, vs, rfl, SqT.of hq, by rw [← rs.length]; exact hl, O, ds, ρ, rs, E, hl, q⟩
  ·rw [if_neg hl] at ht; cases ht
 | _ => cases ht
end
noncomputable abbrev Wk:=List D × (Sto → Prop)
noncomputable def ItD (K : PySem.W.Frag) (J : It) (O0 : List Addr) (H0 : Hp) (q : Wk) : Prop :=
 ∀ (i : Nat) (O : List Addr) (H : Hp) (st : Sto), Keep K O0 H0 O H → WR K O H st → q.2 st →
  (∀ d, q.1[i]? = some d → J.go i H ∧ ∀ x H', J.yld i H x H' → Keep K O H O H' ∧ WR K O H' st ∧ Rep K O H' d x) ∧ (q.1.length ≤ i → J.stop i H)
noncomputable abbrev DI:=Ev → Sto → Out Wk
noncomputable def wiD (K : PySem.W.Frag) (EX : EXT) (f : DI) : TI:=fun σ H R => ∃ O ρ st, WR K O H st ∧ REnv K O H ρ σ ∧ Run K EX O H (f ρ st) (fun q _ O' H' => ∀ J, ItD K J O' H' q → R J H')
noncomputable def PID (X : Cx) (EX : EXT) (tg iter : Expr) (f : DI) : Prop:=PI X tg iter (wiD X.K EX f)
theorem PI.mono {X : Cx} {tg it : Expr} {t t' : TI} (h : PI X tg it t) (f : ∀ σ H Q, t' σ H Q → t σ H Q) : PI X tg it t':=fun pins s σ H Q I q => h pins s σ H Q I (f σ H Q q)
theorem PI.or {X : Cx} {tg it : Expr} {t t' : TI} (h : PI X tg it t) (h' : PI X tg it t') : PI X tg it (fun σ H R => t σ H R ∨ t' σ H R):=fun pins s σ H Q I q => by
 rcases q with q | q
 ·exact h pins s σ H Q I q
 ·exact h' pins s σ H Q I q
section
variable {K : PySem.W.Frag} {O : List Addr} {H : Hp} {st : Sto}
theorem it_tup {a : Addr} {vs : List V} {xs : List D} {P : Sto → Prop} (q : H a = some (.tup vs)) (r : Reps K O H xs vs) : ItD K (Itt K a) O H (xs, P):=by
 intro i O' H' st' kp W' _
 refine ⟨fun d hd => ?_, fun hl => ⟨vs, SqT.of (kp.tup _ _ q), by rw [← r.length]; exact hl⟩⟩
 obtain ⟨v, h1, h2⟩:=r.get hd
 refine ⟨⟨vs, v, SqT.of (kp.tup _ _ q), h1⟩, ?_⟩
 rintro x H2 ⟨rfl, h3⟩
 have h4:=h3 vs (SqT.of (kp.tup _ _ q))
 rw [h1] at h4
 cases h4
 exact ⟨Keep.refl, W', Rep.mono kp _ _ h2⟩
theorem it_list {a : Addr} {xs : List D} {P : Sto → Prop} (h : ∀ (O' : List Addr) (H' : Hp) (st' : Sto), Keep K O H O' H' → WR K O' H' st' → P st' → ∃ vs, SqL K H' a vs ∧ Reps K O' H' xs vs) : ItD K (Itl K a) O H (xs, P):=by
 intro i O' H' st' kp W' hp
 obtain ⟨vs, q, r⟩:=h O' H' st' kp W' hp
 refine ⟨fun d hd => ?_, fun hl => ⟨vs, q, by rw [← r.length]; exact hl⟩⟩
 obtain ⟨v, h1, h2⟩:=r.get hd
 refine ⟨⟨vs, v, q, h1⟩, ?_⟩
 rintro x H2 ⟨rfl, h3⟩
 have h4:=h3 vs q
 rw [h1] at h4
 cases h4
 exact ⟨Keep.refl, W', h2⟩
theorem it_range {lo : Int} {n : Nat} {P : Sto → Prop} : ItD K (Itr lo n) O H ((List.range n).map (fun (i : Nat) => D.int (lo + i)), P):=by
 intro i O' H' st' kp W' hp
 refine ⟨fun d hd => ?_, fun hl => (show n ≤ i by simpa using hl)⟩
 have hi : i < n:=by
  have:=(List.getElem?_eq_some_iff.mp hd).1
  simpa using this
 have e : d = D.int (lo + i):=by
  rw [List.getElem?_map, List.getElem?_range hi] at hd
  simpa using hd.symm
 subst e
 refine ⟨hi, ?_⟩
 rintro x H2 ⟨rfl, rfl⟩
 exact ⟨Keep.refl, W', Rep.int_i.mpr rfl⟩
end
section
variable {X : Cx} {EX : EXT} {tg e a b : Expr} {f : DE} {g : DA} {pos p : Pos}
noncomputable def dSeq (f : DE) : DI:=fun ρ st => (f ρ st).bind fun d st1 => match itemsOf st1 d with
 | some xs => .ok (xs, fun st => itemsOf st d = some xs) st1
 | none => .bad
theorem pid_seq (h : PD X EX e f) : PID X EX tg e (dSeq f):=by
 refine PI.mono (PI.or (pi_tup h) (pi_list h)) ?_
 rintro σ H R ⟨O, ρ, st, W, E, R0⟩
 have R1:=R0.bind
 cases hf : f ρ st with
 | bad => rw [hf] at R1; exact R1.elim
 | exc c st' =>
  rw [hf] at R1
  exact .inl ⟨O, ρ, st, W, E, by rw [hf]; exact R1⟩
 | ok d st' =>
  rw [hf] at R1
  by_cases hb : ∃ zs, d = .tup zs
  ·obtain ⟨zs, rfl⟩:=hb
   refine .inl ⟨O, ρ, st, W, E, ?_⟩
   rw [hf]
   intro O1 H1 k1 W1 v r
   have R2:=R1 O1 H1 k1 W1
   rw [Rep.tup_i] at r
   obtain ⟨q, vs, rfl, hq, rs⟩:=r
   exact ⟨q, rfl, ⟨vs, SqT.of hq⟩, Run.now (k:=fun q _ O' H' => ∀ J, ItD X.K J O' H' q → R J H') R2 W1 _ (it_tup hq rs)⟩
  ·refine .inr ⟨O, ρ, st, W, E, ?_⟩
   rw [hf]
   intro O1 H1 k1 W1 v r
   have R2:=R1 O1 H1 k1 W1
   have ei : ∀ s', itemsOf s' d = seqL s' d:=by
    intro s'
    cases d <;> first | rfl | exact absurd ⟨_, rfl⟩ hb
   dsimp only at R2
   rw [ei] at R2
   cases e1 : seqL st' d with
   | none => rw [e1] at R2; exact R2.elim
   | some xs =>
    rw [e1] at R2
    obtain ⟨q, vs, rfl, hq, rs⟩:=rdL W1 r e1
    refine ⟨q, rfl, ⟨vs, hq⟩, Run.now (k:=fun q _ O' H' => ∀ J, ItD X.K J O' H' q → R J H') R2 W1 _ (it_list fun O' H' st2 kp W' hp => ?_)⟩
    rw [ei] at hp
    obtain ⟨q', vs', e2, hq', rs'⟩:=rdL W' (Rep.mono kp _ _ r) hp
    cases e2
    exact ⟨vs', hq', rs'⟩
noncomputable def rngOk (j : Int) : Bool:=@decide (-(2 ^ 62) ≤ j ∧ j < 2 ^ 62) (Classical.propDecidable _)
theorem rngOk_iff {j : Int} : rngOk j = true ↔ (-(2 ^ 62) ≤ j ∧ j < 2 ^ 62):=by
 unfold rngOk
 exact @decide_eq_true_iff _ (Classical.propDecidable _)
theorem rngOk_of {j : Int} (h1 : -1000000 ≤ j) (h2 : j ≤ 1000000) : rngOk j = true:=rngOk_iff.mpr ⟨by omega, by omega⟩
noncomputable def dRng1 (g : DA) : DI:=fun ρ st => (g ρ st).bind fun ds st1 => match ds with
 | [.int j] => if rngOk j = true then .ok ((List.range j.toNat).map (fun (i : Nat) => D.int (0 + i)), fun _ => True) st1 else .bad
 | _ => .bad
theorem pid_range1 (hg : Gl X "range") (hm : X.mg "range" = none) (ha : PDA X EX [a] g) (hs : starEach [a] X.env = [(false, eval a X.env)] := by rfl) : PID X EX tg (.Call (.Name "range" p) [a] [] pos) (dRng1 g) := by
 refine PI.mono (pi_range1 hg hm ha hs) ?_
 rintro σ H R ⟨O, ρ, st, W, E, R0⟩
 refine ⟨O, ρ, st, W, E, R0.bind.mono fun ds st1 O1 H1 k1 W1 R1 vs r => ?_⟩
 split at R1
 ·rename_i j
  obtain ⟨v, rfl, rv⟩:=r.one_of
  rw [Rep.int_i] at rv
  subst rv
  by_cases hj : rngOk j = true
  ·rw [if_pos hj] at R1
   exact ⟨j, rfl, (rngOk_iff.mp hj).1, (rngOk_iff.mp hj).2, Run.now (k:=fun q _ O' H' => ∀ J, ItD X.K J O' H' q → R J H') R1 W1 _ it_range⟩
  ·rw [if_neg hj] at R1; exact R1.elim
 ·exact R1.elim
end
open Classical in
noncomputable def loopD (chk : Sto → Prop) (t : TgD) (g : DS) : List D → DS
 | [], ρ, st => if chk st then .nx ρ st else .bad
 | x :: xs, ρ, st => if chk st then (match t x ρ with
  | none => .bad
  | some ρ1 => match g ρ1 st with
   | .nx ρ' st' => loopD chk t g xs ρ' st'
   | .ct ρ' st' => loopD chk t g xs ρ' st'
   | .bk ρ' st' => .nx ρ' st'
   | r => r) else .bad
noncomputable def sFor (f : DI) (t : TgD) (g : DS) : DS:=fun ρ st => (f ρ st).to fun q st1 => loopD q.2 t g q.1 ρ st1
section
variable {X : Cx} {EX : EXT} {tg it : Expr} {f : DI} {t : TgD} {g : DS} {pos : Pos} {body : List Stmt}
theorem pd_for (hp : PassesOwn (model X.prog X.w) X.A X.env X.xe) (hc : X.calm = true) (hi : PID X EX tg it f) (hg : PGD X tg t) (hb : PDS X EX body g) (hs : ∀ x, foldedSetIterable it X.env x = pure x:=by intro _; rfl) : PDs X EX (.For tg it body [] pos) (sFor f t g):=by
 refine PS.mono (ps_for hp hc hi hg hb hs) ?_
 rintro Dn σ H ⟨O, ρ, st, W, E, R⟩
 refine ⟨O, ρ, st, W, E, R.to.mono fun q st1 O1 H1 k1 W1 R1 J hJ => ?_⟩
 refine ⟨fun i m σ' H' => m + i = q.1.length ∧ ∃ O' ρ' st', Keep X.K O1 H1 O' H' ∧ WR X.K O' H' st' ∧ REnv X.K O' H' ρ' σ' ∧ RunS X.K EX Dn O' H' (loopD q.2 t g (q.1.drop i) ρ' st'), ⟨q.1.length, rfl, O1, ρ, st1, Keep.refl, W1, E.mono k1, R1⟩, ?_⟩
 rintro i m σ' H' ⟨hm, O', ρ', st', kp, W', E', R'⟩
 cases hd : q.1.drop i with
 | nil =>
  rw [hd] at R'
  unfold loopD at R'
  have hl : q.1.length ≤ i:=List.drop_eq_nil_iff.mp hd
  by_cases hch : q.2 st'
  ·rw [if_pos hch] at R'
   exact .inl ⟨(hJ i O' H' st' kp W' hch).2 hl, R' O' H' σ' Keep.refl W' E'⟩
  ·rw [if_neg hch] at R'; exact R'.elim
 | cons x xs =>
  rw [hd] at R'
  unfold loopD at R'
  have hx : q.1[i]? = some x:=by
   have:=List.getElem?_drop (xs:=q.1) (i:=i) (j:=0)
   rw [hd] at this
   simpa using this.symm
  have hxs : q.1.drop (i + 1) = xs:=by
   have:=List.drop_drop (i:=1) (j:=i) (l:=q.1)
   rw [hd] at this
   simpa using this.symm
  have hi : i < q.1.length:=(List.getElem?_eq_some_iff.mp hx).1
  by_cases hch : q.2 st'
  ·rw [if_pos hch] at R'
   obtain ⟨hgo, hy⟩:=(hJ i O' H' st' kp W' hch).1 x hx
   refine .inr ⟨hgo, fun σ2 H2 => (m - 1) + (i + 1) = q.1.length ∧ ∃ O' ρ' st', True ∧ WR X.K O' H2 st' ∧ Keep X.K O1 H1 O' H2 ∧ REnv X.K O' H2 ρ' σ2 ∧ RunS X.K EX Dn O' H2 (loopD q.2 t g (q.1.drop (i + 1)) ρ' st'), ?_, ?_⟩
   ·rintro σ2 H2 ⟨h1, O2, ρ2, st2, _, W2, kp2, E2, R2⟩
    exact ⟨m - 1, by omega, h1, O2, ρ2, st2, kp2, W2, E2, R2⟩
   ·intro v H2 hv
    obtain ⟨ky, Wy, ry⟩:=hy v H2 hv
    cases ht : t x ρ' with
    | none => rw [ht] at R'; exact R'.elim
    | some ρ1 =>
     rw [ht] at R'
     dsimp only at R'
     refine ⟨O', x, ρ', ρ1, ry, E'.mono ky, ht, fun σ2 E2 => ⟨O', ρ1, st', Wy, E2, ?_⟩⟩
     cases hgr : g ρ1 st' with
     | nx ρ2 st2 =>
      rw [hgr] at R'
      intro O3 H3 σ3 k3 W3 E3
      exact ⟨by omega, O3, ρ2, st2, trivial, W3, kp.trans (ky.trans k3), E3, by rw [hxs]; exact RunS.later R' (ky.trans k3)⟩
     | ct ρ2 st2 =>
      rw [hgr] at R'
      intro O3 H3 σ3 k3 W3 E3
      exact ⟨by omega, O3, ρ2, st2, trivial, W3, kp.trans (ky.trans k3), E3, by rw [hxs]; exact RunS.later R' (ky.trans k3)⟩
     | bk ρ2 st2 =>
      rw [hgr] at R'
      exact fun O3 H3 σ3 k3 W3 E3 => R' O3 H3 σ3 (ky.trans k3) W3 E3
     | rt d st2 =>
      rw [hgr] at R'
      exact fun O3 H3 σ3 k3 W3 E3 => R' O3 H3 σ3 (ky.trans k3) W3 E3
     | exc c st2 =>
      rw [hgr] at R'
      exact fun O3 H3 k3 W3 => R' O3 H3 (ky.trans k3) W3
     | bad => rw [hgr] at R'; exact R'
  ·rw [if_neg hch] at R'; exact R'.elim
end
section
variable {X : Cx} {EX : EXT} {c : Expr} {t : DT} {g : DS} {pos : Pos} {body : List Stmt}
end
end DL
end
section
namespace DL
open PySem PySem.Spec PyProof.Rows L2
section
variable {prog : Program} {w : World} {A : Around} {E : Value → Shared → Prop} {R : Result → Shared → Prop} {s : Shared}
theorem compLoop_gen {elt target iter : Expr} {ifs : List Expr} {scope : Scope} {pos : Pos} {it acc : Value} {env : Env} (I : Nat → Shared → Prop)
  (turn : ∀ n s, I n s → wpAny (model prog w) A (pyNext it) (fun r s₁ => match r with
   | none => R (.ok .next) s₁
   | some v => wpAny (model prog w) A (letOwnedTupleGo target it v) (fun _ s₁' => wpAny (model prog w) A (assign target env v) (fun _ s₂ =>
     wpAny (model prog w) A (forIn ifs true fun c r => if r = true then do let ok ← isTrue c env (eval c env); pure (ForInStep.yield ok) else pure (ForInStep.yield r)) (fun ok s₃ =>
      if ok = true then wpAny (model prog w) A (eval elt env) (fun x s₄ =>
       wpAny (model prog w) A (call (.builtin "list.append") [acc, x]) (fun _ s₅ => ∃ m, m < n ∧ I m s₅) (fun _ _ => False) s₄) (fun _ _ => False) s₃
      else ∃ m, m < n ∧ I m s₃) (fun _ _ => False) s₂) (fun _ _ => False) s₁') (fun _ _ => False) s₁) (fun _ _ => False) s)
  (n : Nat) (h : I n s) :
  codeAny (model prog w) A (.compLoop (.ListComp elt [⟨target, iter, ifs, 0⟩] scope pos) 0 it acc env) R s:=by
 refine codeAny_loop rfl I (fun n s hI => ?_) n h
 show wpAny _ A ((compTurn (.ListComp elt [⟨target, iter, ifs, 0⟩] scope pos) 0 it acc env).onRaise (fun x => do noteFrame x env; theTreesLotGoes x)) _ _ s
 refine wpAny_noted ?_
 rw [compTurn_list]
 refine wpAny_bind (wpAny_standAt (wpAny_bind (wpAny_mono (turn n s hI) (fun r s₁ h₁ => ?_) fun _ _ h' => h'.elim)))
 cases r with
 | none => exact wpAny_pure h₁
 | some v =>
  refine wpAny_bind (wpAny_mono h₁ (fun _ s₁' h₁' => ?_) fun _ _ h' => h'.elim)
  refine wpAny_bind (wpAny_mono h₁' (fun _ s₂ h₂ => wpAny_bind (wpAny_mono h₂ (fun ok s₃ h₃ => ?_) fun _ _ h' => h'.elim)) fun _ _ h' => h'.elim)
  cases ok with
  | false => exact wpAny_pure ⟨rfl, h₃⟩
  | true =>
   exact wpAny_bind (wpAny_bind (wpAny_mono h₃ (fun x s₄ h₄ => wpAny_bind (wpAny_mono h₄ (fun _ s₅ h₅ => wpAny_pure (wpAny_pure ⟨rfl, h₅⟩)) fun _ _ h' => h'.elim)) fun _ _ h' => h'.elim))
theorem append_obj {l : Addr} {items : List Value} {n : Nat} {x : Value} {Q : Value → Shared → Prop} (ho : s.heap.get? l = some { cls := .type "list", data := .seq items.toArray n })
  (hQ : ∀ h', h'.get? l = some { cls := .type "list", data := .seq (items ++ [x]).toArray (n + 1) } → Heap.SameBut l s.heap h' → Q .none { s with heap := h' }) (hsz : items.length ≤ sizeLine) :
  wpAny (model prog w) A (call (.builtin "list.append") [.ref l, x]) Q E s := by
 have hl : s.heap.IsList l items.toArray:=⟨_, ho, rfl, n, rfl⟩
 refine wpAny_call_entry slot_list_append hl.typeIs entry_list_append ?_ (args_list_append _ _)
 show wpAny _ _ (updateSeq l (·.push x) >>= fun _ => ret .none) _ _ s
 refine wpAny_bind ?_
 refine wpAny_updateSeq (hz:=by rw [List.size_toArray]; exact hsz) ho rfl (wpAny_pure ⟨.none, rfl, hQ _ ?_ (Heap.SameBut.update ..)⟩)
 rw [Heap.get?_update_self _ ho (by rfl)]
 simp [Obj.mapSeq]
end
noncomputable def clOf (env : Env) : List (Str × NameKind) → List (Str × Addr) → List (Str × Addr)
 | [], acc => acc
 | (n, k) :: r, acc => if k == .free then (match env.cells.lookup n with
  | some a => clOf env r ((n, a) :: acc)
  | none => clOf env r acc) else clOf env r acc
theorem clos_run (env : Env) : ∀ (names : List (Str × NameKind)) (acc : List (Str × Addr)), (∀ y ∈ names, y.2 = .free → ∃ a, env.cells.lookup y.1 = some a) →
  (forIn names acc fun (x : Str × NameKind) (cs : List (Str × Addr)) => (if (x.2 == NameKind.free) = true then do let a ← cellOf env x.1; pure (ForInStep.yield ((x.1, a) :: cs)) else pure (ForInStep.yield cs) : Sem (ForInStep (List (Str × Addr))))) = pure (clOf env names acc)
 | [], acc, _ => rfl
 | (n, k) :: r, acc, h => by
  have ih:=fun acc => clos_run env r acc fun y hy => h y (List.mem_cons_of_mem _ hy)
  rw [List.forIn_cons]
  unfold clOf
  by_cases hk : (k == NameKind.free) = true
  ·obtain ⟨a, ha⟩:=h (n, k) List.mem_cons_self (by simpa using hk)
   have e : cellOf env n = pure a:=by unfold cellOf; rw [ha]
   simp only [hk, if_true, e, ha, pure_bind]
   exact ih _
  ·have hk' : (k == NameKind.free) = false:=by simpa using hk
   simp only [hk', Bool.false_eq_true, if_false, pure_bind]
   exact ih _
theorem closureFor_of {scope : Scope} {env : Env} (h : ∀ y ∈ scope.names, y.2 = .free → ∃ a, env.cells.lookup y.1 = some a) : closureFor scope env = pure (clOf env scope.names []):=by
 have e:=clos_run env scope.names [] h
 unfold closureFor
 simp only [bind_pure]
 refine Eq.trans ?_ e
 rfl
theorem clOf_look {env : Env} {x : Str} {c : Addr} : ∀ (names : List (Str × NameKind)) (acc : List (Str × Addr)), (∀ y a, acc.lookup y = some a → env.cells.lookup y = some a) → (clOf env names acc).lookup x = some c → env.cells.lookup x = some c
 | [], acc, h, e => h x c e
 | (n, k) :: r, acc, h, e => by
  unfold clOf at e
  split at e
  ·split at e
   ·rename_i a ha
    refine clOf_look r _ (fun y b hb => ?_) e
    rw [List.lookup_cons] at hb
    cases hy : y == n with
    | true =>
     rw [hy] at hb
     have ey : y = n:=eq_of_beq hy
     subst ey
     cases hb
     exact ha
    | false => rw [hy] at hb; exact h y b hb
   ·exact clOf_look r _ h e
  ·exact clOf_look r _ h e
theorem clOf_acc {env : Env} {x : Str} {c : Addr} (hx : env.cells.lookup x = some c) : ∀ (names : List (Str × NameKind)) (acc : List (Str × Addr)), acc.lookup x = some c ∨ (x, NameKind.free) ∈ names → (clOf env names acc).lookup x = some c
 | [], acc, h => by
  rcases h with h | h
  ·exact h
  ·cases h
 | (n, k) :: r, acc, h => by
  unfold clOf
  have keep : ∀ a, env.cells.lookup n = some a → acc.lookup x = some c → ((n, a) :: acc).lookup x = some c:=by
   intro a ha hl
   rw [List.lookup_cons]
   cases hy : x == n with
   | true =>
    have ey : x = n:=eq_of_beq hy
    subst ey
    rw [hx] at ha
    cases ha
    rfl
   | false => exact hl
  split
  ·rename_i hk
   split
   ·rename_i a ha
    refine clOf_acc hx r _ ?_
    rcases h with h | h
    ·exact .inl (keep a ha h)
    ·rcases List.mem_cons.mp h with e | h
     ·cases e
      refine .inl ?_
      rw [hx] at ha
      cases ha
      simp
     ·exact .inr h
   ·rename_i hn
    refine clOf_acc hx r _ ?_
    rcases h with h | h
    ·exact .inl h
    ·rcases List.mem_cons.mp h with e | h
     ·cases e
      rw [hx] at hn
      cases hn
     ·exact .inr h
  ·rename_i hk
   refine clOf_acc hx r _ ?_
   rcases h with h | h
   ·exact .inl h
   ·rcases List.mem_cons.mp h with e | h
    ·cases e
     exact absurd rfl hk
    ·exact .inr h
noncomputable def relS (scope sc : Scope) : Scope :=
 { scope with names:=scope.names.map fun (n, k) => if (k == .free && sc.kind == .function && sc.names.lookup n == some .cell) then (n, .cell) else (n, k) }
structure Blk (sc scope : Scope) (N0 N : List Str) (caps : List Nat) (nT : Nat) : Prop where
 kind : scope.kind = .function
 nocell : ∀ y ∈ scope.names, y.2 ≠ .cell
 names : ∀ y ∈ scope.names, y.2 = .local → scope.names.lookup y.1 = some .local
 free : ∀ y ∈ scope.names, y.2 = .free → sc.names.lookup y.1 = some .cell ∨ sc.names.lookup y.1 = some .free
 len : N.length = nT + caps.length
 cap : ∀ q ∈ (List.range caps.length), ∃ i x, caps[q]? = some i ∧ N[nT + q]? = some x ∧ N0[i]? = some x ∧ (x, NameKind.free) ∈ scope.names ∧ ((relS scope sc).names.lookup x = some .cell ∨ (relS scope sc).names.lookup x = some .free)
noncomputable def blkB (sc scope : Scope) (N0 N : List Str) (caps : List Nat) (nT : Nat) : Bool :=
 (scope.kind == .function) && scope.names.all (fun y => !(y.2 == .cell)) && scope.names.all (fun y => !(y.2 == .local) || scope.names.lookup y.1 == some .local) &&
  scope.names.all (fun y => !(y.2 == .free) || (sc.names.lookup y.1 == some .cell || sc.names.lookup y.1 == some .free)) && (N.length == nT + caps.length) &&
  (List.range caps.length).all fun q => match caps[q]?, N[nT + q]? with
   | some i, some x => (N0[i]? == some x) && scope.names.any (fun y => y.1 == x && y.2 == .free) && ((relS scope sc).names.lookup x == some .cell || (relS scope sc).names.lookup x == some .free)
   | _, _ => false
theorem Blk.of {sc scope : Scope} {N0 N : List Str} {caps : List Nat} {nT : Nat} (h : blkB sc scope N0 N caps nT = true) : Blk sc scope N0 N caps nT:=by
 unfold blkB at h
 simp only [Bool.and_eq_true] at h
 obtain ⟨⟨⟨⟨⟨h1, h2⟩, h3⟩, h4⟩, h5⟩, h6⟩:=h
 refine ⟨eq_of_beq h1, fun y hy => ?_, fun y hy hl => ?_, fun y hy hl => ?_, eq_of_beq h5, fun q hq => ?_⟩
 ·have:=List.all_eq_true.mp h2 y hy
  simpa using this
 ·have:=List.all_eq_true.mp h3 y hy
  rw [hl] at this
  simpa using this
 ·have:=List.all_eq_true.mp h4 y hy
  rw [hl] at this
  simpa using this
 ·have:=List.all_eq_true.mp h6 q hq
  split at this
  ·rename_i i x e1 e2
   simp only [Bool.and_eq_true, Bool.or_eq_true, List.any_eq_true, beq_iff_eq] at this
   obtain ⟨⟨g1, ⟨y, g2, g3, g4⟩⟩, g5⟩:=this
   refine ⟨i, x, e1, e2, g1, ?_, g5⟩
   obtain ⟨y1, y2⟩:=y
   simp only at g3 g4
   subst g3 g4
   exact g2
  ·cases this
noncomputable def cxC (X : Cx) (N : List Str) (scope : Scope) (acc : Addr) (fp : List Addr) (s3 : Shared) (H : Hp) : Cx :=
 { X with N:=N, s₀:=s3, H₀:=H, env:=compEnvC scope (clOf X.env scope.names []) s3.heap.objs.size X.env, outer:=X.stack, ex:=acc :: fp, fn:=fun _ => false, pn:=[], xe:=fun _ _ => False }
noncomputable def capEv (ρ : Ev) (caps : List Nat) (nT : Nat) : Ev:=List.replicate nT none ++ caps.map fun i => (ρ[i]?).join
noncomputable def capSt (σ : L2.St) (caps : List Nat) (nT : Nat) : L2.St:=List.replicate nT none ++ caps.map fun i => (σ[i]?).join
theorem capEnv {K : PySem.W.Frag} {O : List Addr} {H : Hp} {ρ : Ev} {σ : L2.St} (E : REnv K O H ρ σ) (caps : List Nat) (nT : Nat) : REnv K O H (capEv ρ caps nT) (capSt σ caps nT):=by
 refine ⟨by simp [capEv, capSt], fun i d h => ?_⟩
 unfold capEv at h
 unfold capSt
 by_cases hi : i < nT
 ·rw [List.getElem?_append_left (by simpa using hi), List.getElem?_replicate] at h
  split at h <;> cases h
 ·rw [List.getElem?_append_right (by simpa using hi)] at h ⊢
  rw [List.length_replicate, List.getElem?_map] at h ⊢
  cases hc : caps[i - nT]? with
  | none => rw [hc] at h; cases h
  | some j =>
   rw [hc] at h
   simp only [Option.map_some, Option.some.injEq] at h ⊢
   cases hj : ρ[j]? with
   | none => rw [hj] at h; cases h
   | some z =>
    rw [hj] at h
    simp only [Option.join_some] at h
    subst h
    obtain ⟨v, h1, h2⟩:=E.at_ j d hj
    exact ⟨v, by rw [h1]; rfl, h2⟩
section
variable {X : Cx} {pins : List (Addr × Obj)} {σ : L2.St} {H : Hp} {s : Shared} {scope : Scope} {N : List Str} {caps : List Nat} {nT : Nat} {fp : List Addr}
theorem blk_start (B : Blk X.env.scope scope X.N N caps nT) (I : Inv X pins σ H s) (hf : ∀ b ∈ fp, FpOk X pins H b) (ho : ∀ b ∈ fp, ∃ o, s.heap.get? b = some o) {h4 : Heap} {tk : Nat}
  (hns : h4.Ns (s.heap.push { cls := .type "list", data := .seq ([] : List Value).toArray }).objs.size (fun x => ([] : List (Str × Value)).reverse.lookup x))
  (hsb : Heap.SameBut (s.heap.push { cls := .type "list", data := .seq ([] : List Value).toArray }).objs.size ((s.heap.push { cls := .type "list", data := .seq ([] : List Value).toArray }).push { cls := .type "dict", data := .dict #[] }) h4) :
  Inv (cxC X N scope s.heap.objs.size fp { s with heap := s.heap.push { cls := .type "list", data := .seq ([] : List Value).toArray } } H) [] (capSt σ caps nT) H { s with heap := h4, toks := tk } := by
 generalize hH2 : s.heap.push { cls := .type "list", data := .seq ([] : List Value).toArray } = h3 at hns hsb ⊢
 have hC : h3.objs.size = s.heap.objs.size + 1:=by rw [← hH2, Heap.size_push]
 have k3 : ∀ b o, s.heap.get? b = some o → h3.get? b = some o:=fun b o e => hH2 ▸ Heap.get?_push_of_some _ e
 have I3 : Inv X pins σ H { s with heap:=h3 }:=I.kept (t':=s.toks) k3
 have k4 : ∀ b o, h3.get? b = some o → h4.get? b = some o:=fun b o e => hsb.extBut b o (Nat.ne_of_lt (Heap.lt_size e)) (Heap.get?_push_of_some _ e)
 have lt3 : ∀ b o, s.heap.get? b = some o → b < h3.objs.size:=fun b o e => Heap.lt_size (k3 b o e)
 have cells : ∀ x c, (clOf X.env scope.names []).lookup x = some c → X.env.cells.lookup x = some c:=fun x c e => clOf_look scope.names [] (fun y a z => by cases z) e
 have ok : (cxC X N scope s.heap.objs.size fp { s with heap:=h3 } H).Ok:=by
  refine ⟨I.ok.mod, B.kind, I.ok.glob, I.ok.blt, Nat.le_refl _, fun x y c h1 h2 => I.ok.inj x y c (cells _ _ h1) (cells _ _ h2), ?_, fun x c hx => (by cases hx), I.ok.hd, I.ok.frames, .inl rfl, ?_, I3.bs, Nat.le_trans I.ok.bsz (Nat.le_trans I.sz (by show s.heap.objs.size ≤ h3.objs.size; omega)), ?_, ?_, I3.stack, I3.stkFree⟩
  ·intro x hx
   have hx' : (relS scope X.env.scope).names.lookup x = some .cell ∨ (relS scope X.env.scope).names.lookup x = some .free:=hx
   have hm : (x, NameKind.free) ∈ scope.names:=by
    have mem : ∀ (l : List (Str × NameKind)), ((l.map fun (n, k) => if (k == NameKind.free && X.env.scope.kind == .function && X.env.scope.names.lookup n == some .cell) then (n, NameKind.cell) else (n, k)).lookup x = some .cell ∨ (l.map fun (n, k) => if (k == NameKind.free && X.env.scope.kind == .function && X.env.scope.names.lookup n == some .cell) then (n, NameKind.cell) else (n, k)).lookup x = some .free) → (∀ y ∈ l, y.2 ≠ .cell) → (x, NameKind.free) ∈ l:=by
     intro l
     induction l with
     | nil => intro h _; rcases h with h | h <;> cases h
     | cons y l ih =>
      obtain ⟨n, k⟩:=y
      intro h hnc
      rw [List.map_cons] at h
      by_cases hc : (k == NameKind.free && X.env.scope.kind == .function && X.env.scope.names.lookup n == some .cell) = true
      ·simp only [hc, if_true, List.lookup_cons] at h
       have hk : k = .free:=by simp only [Bool.and_eq_true] at hc; simpa using hc.1.1
       cases hy : x == n with
       | true => rw [eq_of_beq hy, hk]; exact List.mem_cons_self
       | false =>
        rw [hy] at h
        exact List.mem_cons_of_mem _ (ih h fun z hz => hnc z (List.mem_cons_of_mem _ hz))
      ·simp only [hc, if_false, List.lookup_cons, Bool.false_eq_true] at h
       cases hy : x == n with
       | true =>
        rw [hy] at h
        have hk : k = .free:=by
         rcases h with h | h
         ·exact absurd (Option.some.inj h) (hnc (n, k) List.mem_cons_self)
         ·exact Option.some.inj h
        rw [eq_of_beq hy, hk]; exact List.mem_cons_self
       | false =>
        rw [hy] at h
        exact List.mem_cons_of_mem _ (ih h fun z hz => hnc z (List.mem_cons_of_mem _ hz))
    exact mem scope.names hx' B.nocell
   obtain ⟨c, hc⟩:=I.ok.has x (B.free _ hm rfl)
   exact ⟨c, clOf_acc hc scope.names [] (.inr hm)⟩
  ·intro b hb
   rcases List.mem_cons.mp hb with rfl | hb
   ·refine ⟨?_, fun x c h1 h2 => ?_⟩
    ·show s.heap.objs.size ≠ h3.objs.size
     omega
    ·obtain ⟨v, o, ho', _⟩:=I.cell x c (cells _ _ h1)
     exact absurd (h2 ▸ Heap.lt_size ho') (Nat.lt_irrefl _)
   ·obtain ⟨o, ho'⟩:=ho b hb
    refine ⟨?_, fun x c h1 => (hf b hb).2.2.2.2.1 x c (cells _ _ h1)⟩
    exact Nat.ne_of_lt (lt3 b o ho')
  ·intro b o hb
   intro hm
   rcases List.mem_cons.mp hm with rfl | hm
   ·exact absurd (Heap.lt_size (I.bk _ _ hb)) (Nat.lt_irrefl _)
   ·rcases (hf b hm).2.2.2.1 with h1 | h1
    ·exact I.ok.noex b o hb h1
    ·exact absurd (Nat.lt_of_lt_of_le (Heap.lt_size (I.ok.bs b o hb).1) h1) (Nat.lt_irrefl _)
  ·intro b hb hm
   rcases List.mem_cons.mp hb with rfl | hb
   ·rcases List.mem_cons.mp (I.stkSub _ hm) with h1 | h1
    ·have:=I.lt
     rw [← h1] at this
     exact absurd this (Nat.lt_irrefl _)
    ·exact I.nofs (Nat.le_refl _) h1
   ·rcases List.mem_cons.mp (I.stkSub _ hm) with h1 | h1
    ·exact (hf b hb).2.1 h1
    ·exact (hf b hb).2.2.1 h1
 refine ⟨ok, rfl, I.bare, Un.kept k4, ?_, ?_, ?_, ?_, (fun p hp => (by cases hp)), I3.hok.kept k4, ?_⟩
 ·refine ⟨_, hns, fun i x v h1 h2 hv => ?_⟩
  by_cases hi : i < nT
  ·unfold capSt at h2
   rw [List.getElem?_append_left (by simpa using hi), List.getElem?_replicate] at h2
   split at h2 <;> cases h2
  ·unfold capSt at h2
   rw [List.getElem?_append_right (by simpa using hi), List.length_replicate, List.getElem?_map] at h2
   cases hc : caps[i - nT]? with
   | none => rw [hc] at h2; cases h2
   | some j =>
    rw [hc] at h2
    simp only [Option.map_some, Option.some.injEq] at h2
    cases hj : σ[j]? with
    | none => rw [hj] at h2; cases h2
    | some z =>
     rw [hj] at h2
     simp only [Option.join_some] at h2
     subst h2
     have hq : i - nT < caps.length:=(List.getElem?_eq_some_iff.mp hc).1
     obtain ⟨j', x', e1, e2, e3, e4, e5⟩:=B.cap (i - nT) (List.mem_range.mpr hq)
     rw [hc] at e1
     cases e1
     have en : nT + (i - nT) = i:=by omega
     rw [en] at e2
     have ex : x' = x:=Option.some.inj (e2.symm.trans h1)
     subst ex
     have hk:=B.free _ e4 rfl
     obtain ⟨m, hm, hloc⟩:=I.loc
     obtain ⟨u, ru, lk⟩:=hloc j x' v e3 hj (hk.elim (fun z => .inr (.inl z)) fun z => .inr (.inr z))
     rcases lk with ⟨hl, _⟩ | ⟨_, c, hc1, hc2⟩
     ·rcases hk with hk | hk
      ·have : X.env.scope.names.lookup x' = some .local:=hl
       rw [hk] at this; cases this
      ·have : X.env.scope.names.lookup x' = some .local:=hl
       rw [hk] at this; cases this
     ·refine ⟨u, ru, .inr ⟨e5, c, clOf_acc hc1 scope.names [] (.inr e4), ?_⟩⟩
      obtain ⟨o, ho', hd⟩:=hc2
      exact ⟨o, k4 _ _ (k3 _ _ ho'), hd⟩
 ·intro x c h1
  obtain ⟨v, o, ho', hd⟩:=I.cell x c (cells _ _ h1)
  exact ⟨v, o, k4 _ _ (k3 _ _ ho'), hd⟩
 ·exact I3.hok.fresh (Nat.le_refl _)
 ·intro x c h1
  exact I.freeC x c (cells _ _ h1)
 ·show (capSt σ caps nT).length = N.length
  rw [B.len]
  simp [capSt]
end
end DL
end
section
namespace DL
open PySem PySem.Spec PyProof.Rows L2
section
variable {X : Cx} {pins : List (Addr × Obj)} {σ : L2.St} {H : Hp} {s : Shared} {scope : Scope} {N : List Str} {fp : List Addr}
theorem blk_end (I : Inv X pins σ H s) (hf : ∀ b ∈ fp, FpOk X pins H b) {σc : L2.St} {H' : Hp} {s' : Shared} {vs : List V} {its : List Value} {n : Nat}
  (J : Inv (cxC X N scope s.heap.objs.size fp { s with heap := s.heap.push { cls := .type "list", data := .seq ([] : List Value).toArray } } H) [] σc H' s')
  (ha : s'.heap.get? s.heap.objs.size = some { cls := .type "list", data := .seq its.toArray n }) (hn : H' s.heap.objs.size = none) (hv : Vals vs its) (hz : vs.length ≤ sizeLine) : Inv X pins σ (upd H' s.heap.objs.size (.lst vs)) s' := by
 have u:=J.base
 have push : ∀ b o, s.heap.get? b = some o → (s.heap.push { cls := .type "list", data := .seq ([] : List Value).toArray }).get? b = some o := fun b o e => Heap.get?_push_of_some _ e
 have ne : ∀ b o, s.heap.get? b = some o → b ≠ s.heap.objs.size:=fun b o e => Nat.ne_of_lt (Heap.lt_size e)
 have nex : ∀ b o, s.heap.get? b = some o → b ∉ fp → b ∉ s.heap.objs.size :: fp:=fun b o e hb hm => by
  rcases List.mem_cons.mp hm with h | h
  ·exact ne b o e h
  ·exact hb h
 refine I.call' (ch:=fp) J.os ?_ ?_ J.bare fun b hb => ⟨(hf b hb).2.2.2.1, (hf b hb).2.1, (hf b hb).2.2.2.2.1, (hf b hb).2.2.2.2.2⟩
 ·refine ⟨fun b o e h0 h1 h2 => u.keep b o (push b o e) h0 h1 (nex b o e h2), fun b o e h0 h1 h2 => u.slot b o (push b o e) h0 h1 (nex b o e h2), fun b o e h0 h2 => ?_, fun b o e h2 => u.there b o (push b o e) (nex b o e h2), fun b xs e => ?_, fun b o w e => ?_, fun b ps e => ?_⟩
  ·rw [upd_ne (ne b o e)]
   exact u.free b o (push b o e) h0 (nex b o e h2)
  ·have h1:=u.tups b xs e
   rw [upd_ne (ne_of_none h1 hn)]
   exact h1
  ·have h1:=u.frzs b o w e
   rw [upd_ne (ne_of_none h1 hn)]
   exact h1
  ·obtain ⟨more, h1⟩:=u.tbls b ps e
   exact ⟨more, by rw [upd_ne (ne_of_none h1 hn)]; exact h1⟩
 ·intro a o e
  by_cases haa : a = s.heap.objs.size
  ·subst haa
   rw [upd_same] at e
   cases e
   exact ⟨hz, its, n, hv, ha⟩
  ·rw [upd_ne haa] at e
   exact (J.hok a o e).stay (fun b u _ q => q) (fun b q => by rw [upd_ne (ne_of_none q hn)]; exact q) fun b xs q => by rw [upd_ne (ne_of_none q hn)]; exact q
end
noncomputable def dTrue : DT:=fun _ st => .ok true st
open Classical in
noncomputable def compD (chk : Sto → Prop) (t : TgD) (cond : DT) (fe : DE) : List D → Ev → Sto → List D → Out (List D)
 | [], _, st, acc => if chk st then .ok acc st else .bad
 | x :: xs, ρ, st, acc => if chk st ∧ acc.length < small then (match t x ρ with
  | none => .bad
  | some ρ1 => match cond ρ1 st with
   | .ok true st1 => (match fe ρ1 st1 with
    | .ok d st2 => compD chk t cond fe xs ρ1 st2 (acc ++ [d])
    | _ => .bad)
   | .ok false st1 => compD chk t cond fe xs ρ1 st1 acc
   | _ => .bad) else .bad
noncomputable def dComp (caps : List Nat) (nT : Nat) (f : DI) (t : TgD) (cond : DT) (fe : DE) : DA:=fun ρ st => (f ρ st).bind fun q st1 => compD q.2 t cond fe q.1 (capEv ρ caps nT) st1 []
noncomputable def PTs (X : Cx) (ifs : List Expr) (cond : DT) : Prop:=∀ (pins : List (Addr × Obj)) (s : Shared) (σ : L2.St) (H : Hp) (Q : Bool → Hp → Prop), Inv X pins σ H s → tDT X.K EX0 cond σ H Q →
 wpAny (model X.prog X.w) X.A (forIn ifs true fun c r => if r = true then do let ok ← isTrue c X.env (eval c X.env); pure (ForInStep.yield ok) else pure (ForInStep.yield r)) (TP X pins σ Q) X.xe s
theorem pts_nil {X : Cx} : PTs X [] dTrue:=by
 rintro pins s σ H Q I ⟨O, ρ, st, W, E, R⟩
 exact wpAny_tests_nil ⟨H, I, Run.now (k:=fun b _ _ H' => Q b H') R W⟩
theorem pts_one {X : Cx} {c : Expr} {t : DT} (h : PDT X EX0 c t) : PTs X [c] t:=fun pins s σ H Q I q => wpAny_tests_one (h pins s σ H Q I q)
section
variable {X : Cx} {EX : EXT} {scope : Scope} {N : List Str} {caps : List Nat} {nT : Nat} {elt tg iter : Expr} {ifs : List Expr} {pos : Pos} {f : DI} {t : TgD} {cond : DT} {fe : DE}
structure BlkOk (X : Cx) (scope : Scope) (N : List Str) (caps : List Nat) (nT : Nat) (tg elt : Expr) (ifs : List Expr) (t : TgD) (cond : DT) (fe : DE) : Prop where
 blk : Blk X.env.scope scope X.N N caps nT
 tgt : ∀ acc fp s3 H, PGD (cxC X N scope acc fp s3 H) tg t
 tst : ∀ acc fp s3 H, PTs (cxC X N scope acc fp s3 H) ifs cond
 elt : ∀ acc fp s3 H, PD (cxC X N scope acc fp s3 H) EX0 elt fe
noncomputable def ItF (K : PySem.W.Frag) (J : It) (O0 : List Addr) (H0 : Hp) (q : Wk) : Prop :=
 ∀ (i : Nat) (O : List Addr) (H : Hp) (st : Sto), Keep K O0 H0 O H → (∀ b o u, H0 b = some (.frz o u) → H b = some (.frz o u)) → WR K O H st → q.2 st →
  (∀ d, q.1[i]? = some d → J.go i H ∧ ∀ x H', J.yld i H x H' → Keep K O H O H' ∧ WR K O H' st ∧ Rep K O H' d x) ∧ (q.1.length ≤ i → J.stop i H)
theorem ItD.fz {K : PySem.W.Frag} {J : It} {O0 : List Addr} {H0 : Hp} {q : Wk} (h : ItD K J O0 H0 q) : ItF K J O0 H0 q:=fun i O H st k _ => h i O H st k
theorem lc_block (hc : X.calm = true) (B : BlkOk X scope N caps nT tg elt ifs t cond fe) {pins : List (Addr × Obj)} {σ : L2.St} {H : Hp} {s : Shared} {O : List Addr} {ρ : Ev} {st : Sto} {q : Wk} {J : It} {fp : List Addr} {it : Addr} {tn : Nat → Heap → Prop} {Q : VK} {E : Value → Shared → Prop}
  {RR : Value → Addr → Result → Shared → Prop}
  (I : Inv X pins σ H s) (T : Turn X.prog X.w X.K tg J fp it tn) (h0 : tn 0 s.heap) (hf : ∀ b ∈ fp, FpOk X pins H b) (hJ : ItF X.K J O H q) (W : WR X.K O H st) (Er : REnv X.K O H ρ σ)
  (R : Run X.K EX O H (compD q.2 t cond fe q.1 (capEv ρ caps nT) st []) (New X.K Q))
  (hRR : ∀ (p C : Addr) (H' : Hp) (vs : List V) (s' : Shared) (m : Str → Option Value), s.heap.objs.size ≤ C → H' C = none → s'.heap.Ns C m → p ≠ C → Inv X pins σ (upd H' p (.lst vs)) s' → Q (.ref p) (upd H' p (.lst vs)) → RR (.ref p) C (.ok .next) s') :
  wpAny (model X.prog X.w) X.A (newList []) (fun acc s₃ => wpAny (model X.prog X.w) X.A (newFunctionEnv scope X.env.globals (clOf X.env scope.names []) [] X.env.qual none .none (some X.env)) (fun cenv s₄ =>
   codeAny (model X.prog X.w) X.A (.compStart (.ListComp elt [⟨tg, iter, ifs, 0⟩] scope pos) 0 (.ref it) acc { cenv with scope:=relabel scope X.env }) (RR acc cenv.locals) s₄) E s₃) E s:=by
 refine wpAny_newObj_type (wpAny_newFunctionEnv B.blk.nocell (by intro y hy; simp at hy) (fun h₁ hns₁ hsb₁ => ?_) B.blk.kind)
 dsimp only at hns₁ hsb₁ ⊢
 have ltC : s.heap.objs.size < (s.heap.push { cls := .type "list", data := .seq ([] : List Value).toArray }).objs.size := by rw [Heap.size_push]; exact Nat.lt_succ_self _
 have fpo : ∀ b ∈ fp, ∃ o, s.heap.get? b = some o:=fun b hb => let ⟨o, e, _⟩:=T.obj 0 _ h0 b hb; ⟨o, e⟩
 have I4:=blk_start (tk:=s.toks + ([] : List (Str × Value)).length) B.blk I hf fpo hns₁ hsb₁
 have fpne : ∀ b ∈ fp, b ≠ s.heap.objs.size:=fun b hb => let ⟨o, e⟩:=fpo b hb; Nat.ne_of_lt (Heap.lt_size e)
 generalize hXC : cxC X N scope s.heap.objs.size fp { s with heap := s.heap.push { cls := .type "list", data := .seq ([] : List Value).toArray } } H = XC at I4
 have fok : ∀ (H' : Hp) (P : List (Addr × Obj)), (∀ b ∈ fp, H' b = none) → (∀ p ∈ P, p.1 ∉ fp) → ∀ b ∈ fp, FpOk XC P H' b:=by
  intro H' P h1 h2 b hb
  subst hXC
  obtain ⟨o, e⟩:=fpo b hb
  refine ⟨h1 b hb, Nat.ne_of_lt (Nat.lt_trans (Heap.lt_size e) ltC), fun hm => ?_, .inl (List.mem_cons_of_mem _ hb), fun x c hx => (hf b hb).2.2.2.2.1 x c (clOf_look scope.names [] (fun y a z => (by cases z)) hx), fun p hp hpe => h2 p (by have hp' : p ∈ [] ++ P:=hp; simpa using hp') (hpe ▸ hb)⟩
  rcases List.mem_cons.mp (I.stkSub _ hm) with z | z
  ·exact (hf b hb).2.1 z
  ·exact (hf b hb).2.2.1 z
 have aok : ∀ (H' : Hp), H' s.heap.objs.size = none → FpOk XC [] H' s.heap.objs.size:=by
  intro H' h1
  subst hXC
  refine ⟨h1, Nat.ne_of_lt ltC, fun hm => ?_, .inl List.mem_cons_self, fun x c hx z => ?_, fun p hp => by cases hp⟩
  ·rcases List.mem_cons.mp (I.stkSub _ hm) with z | z
   ·have:=I.lt
    rw [← z] at this
    exact absurd this (Nat.lt_irrefl _)
   ·exact I.nofs (Nat.le_refl _) z
  ·obtain ⟨v, o, ho', _⟩:=I.cell x c (clOf_look scope.names [] (fun y a z => (by cases z)) hx)
   exact absurd (z ▸ Heap.lt_size ho') (Nat.lt_irrefl _)
 have k4 : ∀ b o, s.heap.get? b = some o → h₁.get? b = some o:=fun b o e => hsb₁.extBut b o (Nat.ne_of_lt (Nat.lt_trans (Heap.lt_size e) ltC)) (Heap.get?_push_of_some _ (Heap.get?_push_of_some _ e))
 have hacc0 : h₁.get? s.heap.objs.size = some { cls := .type "list", data := .seq ([] : List Value).toArray } := hsb₁.extBut _ _ (Nat.ne_of_lt ltC) (Heap.get?_push_of_some _ (Heap.get?_push_size _ rfl))
 have eP : XC.prog = X.prog:=by subst hXC; rfl
 have eW : XC.w = X.w:=by subst hXC; rfl
 have eK : XC.K = X.K:=by subst hXC; rfl
 have eA : XC.A = X.A:=by subst hXC; rfl
 have eC : XC.calm = true:=by subst hXC; exact hc
 have eX : XC.xe = fun _ _ => False:=by subst hXC; rfl
 have eE : XC.env = compEnvC scope (clOf X.env scope.names []) (s.heap.push { cls := .type "list", data := .seq ([] : List Value).toArray }).objs.size X.env := by subst hXC; rfl
 have loop : ∀ s4 : Shared, s4 = { s with heap:=h₁, toks:=s.toks + ([] : List (Str × Value)).length } →
   codeAny (model X.prog X.w) X.A (.compLoop (.ListComp elt [⟨tg, iter, ifs, 0⟩] scope pos) 0 (.ref it) (.ref s.heap.objs.size) XC.env) (RR (.ref s.heap.objs.size) (s.heap.push { cls := .type "list", data := .seq ([] : List Value).toArray }).objs.size) s4 := by
  intro s4 es4
  refine compLoop_gen (fun n s' => ∃ (i : Nat) (O' : List Addr) (ρ' : Ev) (st' : Sto) (ds : List D) (vs : List V) (its : List Value) (nn : Nat) (H' : Hp) (σc : L2.St), n + i = q.1.length ∧ Inv XC [] σc H' s' ∧ Keep X.K O H O' H' ∧ WR X.K O' H' st' ∧ REnv X.K O' H' ρ' σc ∧ tn i s'.heap ∧
   (∀ b ∈ fp, H' b = none) ∧ s'.heap.get? s.heap.objs.size = some { cls := .type "list", data := .seq its.toArray nn } ∧ H' s.heap.objs.size = none ∧ Vals vs its ∧ Reps X.K O' H' ds vs ∧ ds.length ≤ small ∧ Run X.K EX O' H' (compD q.2 t cond fe (q.1.drop i) ρ' st' ds) (New X.K Q)) ?_ q.1.length ?_
  ·rintro n s' ⟨i, O', ρ', st', ds, vs, its, nn, H', σc, hn, Ic, kp, W', E', htn, hfn, hacc, haccH, hv, hr, hz, hR⟩
   have IcA : Inv XC (pinsAt [s.heap.objs.size] s'.heap) σc H' s':=by
    have:=Ic.pinned (fp:=[s.heap.objs.size]) (fun b hb => by rw [List.mem_singleton] at hb; subst hb; exact aok H' haccH) (fun b hb => by rw [List.mem_singleton] at hb; subst hb; exact ⟨_, hacc, fun v z => by cases z⟩)
    simpa using this
   have pA : ∀ p ∈ pinsAt [s.heap.objs.size] s'.heap, p.1 ∉ fp:=fun p hp hm => by
    have:=(of_pinsAt hp).1
    rw [List.mem_singleton] at this
    exact fpne _ hm this
   have fz : ∀ b o u, H b = some (.frz o u) → H' b = some (.frz o u):=by subst hXC; exact Ic.base.frzs
   have hpin : (s.heap.objs.size, ({ cls := .type "list", data := .seq its.toArray nn } : Obj)) ∈ pinsAt [s.heap.objs.size] s'.heap := mem_pinsAt (List.mem_singleton.mpr rfl) hacc
   cases hd : q.1.drop i with
   | nil =>
    rw [hd] at hR
    unfold compD at hR
    by_cases hch : q.2 st'
    ·rw [if_pos hch] at hR
     have hl : q.1.length ≤ i:=List.drop_eq_nil_iff.mp hd
     have hstop:=(hJ i O' H' st' kp fz W' hch).2 hl
     have hw:=T.done XC eP eW eK eC i (pinsAt [s.heap.objs.size] s'.heap) s' σc H' (fun _ _ => False) IcA (fok H' _ hfn pA) htn hstop
     rw [eA] at hw
     refine wpAny_mono hw (fun r s1 hr1 => ?_) fun _ _ z => z
     obtain ⟨rfl, I1⟩:=hr1
     obtain ⟨p1, p2, _⟩:=I1.pin _ (List.mem_append_right _ hpin)
     obtain ⟨m, hm, _⟩:=I1.loc
     have I1' : Inv XC [] σc H' s1:=I1.pins_of fun p hp => I1.pin p (List.mem_append_left _ (by simpa using hp))
     have hCf:=I1.free
     rw [eE] at hm hCf
     refine hRR _ _ H' vs s1 m (Nat.le_of_lt ltC) hCf hm (Nat.ne_of_lt ltC) ?_ (Run.now (k:=New X.K Q) hR W' _ vs hr haccH)
     subst hXC
     exact blk_end I hf I1' p1 haccH hv (by rw [← hr.length]; exact Nat.le_trans hz small_le)
    ·rw [if_neg hch] at hR; exact hR.elim
   | cons x xs =>
    rw [hd] at hR
    unfold compD at hR
    have hx : q.1[i]? = some x:=by
     have:=List.getElem?_drop (xs:=q.1) (i:=i) (j:=0)
     rw [hd] at this
     simpa using this.symm
    have hxs : q.1.drop (i + 1) = xs:=by
     have:=List.drop_drop (i:=1) (j:=i) (l:=q.1)
     rw [hd] at this
     simpa using this.symm
    have hi : i < q.1.length:=(List.getElem?_eq_some_iff.mp hx).1
    by_cases hch : q.2 st' ∧ ds.length < small
    ·rw [if_pos hch] at hR
     obtain ⟨hgo, hy⟩:=(hJ i O' H' st' kp fz W' hch.1).1 x hx
     have hw:=T.item XC eP eW eK eC i (pinsAt [s.heap.objs.size] s'.heap) s' σc H' (fun _ _ => False) IcA (fok H' _ hfn pA) htn hgo
     rw [eA] at hw
     refine wpAny_mono hw (fun r s1 hr1 => ?_) fun _ _ z => z
     obtain ⟨u, rfl, hw2⟩:=hr1
     refine wpAny_mono hw2 (fun _ s2 hr2 => ?_) fun _ _ z => z
     obtain ⟨x', H1, I1, rx, hyl, htn1, hfn1⟩:=hr2
     obtain ⟨ky, Wy, ry⟩:=hy x' H1 hyl
     cases ht : t x ρ' with
     | none => rw [ht] at hR; exact hR.elim
     | some ρ1 =>
      rw [ht] at hR
      dsimp only at hR
      have I1' : Inv XC (pinsAt [s.heap.objs.size] s'.heap ++ pinsAt fp s2.heap) σc H1 s2:=I1.pinned (fok H1 _ hfn1 pA) fun b hb => T.obj (i + 1) _ htn1 b hb
      generalize hP2 : pinsAt [s.heap.objs.size] s'.heap ++ pinsAt fp s2.heap = P2 at I1'
      have hpa : (s.heap.objs.size, ({ cls := .type "list", data := .seq its.toArray nn } : Obj)) ∈ P2 := hP2 ▸ List.mem_append_left _ hpin
      have hpf : ∀ b ∈ fp, ∀ o, s2.heap.get? b = some o → (b, o) ∈ P2:=fun b hb o e => hP2 ▸ List.mem_append_right _ (mem_pinsAt hb e)
      have back : ∀ {σ2 : L2.St} {H2 : Hp} {s3 : Shared}, Inv XC P2 σ2 H2 s3 → s3.heap.get? s.heap.objs.size = some { cls := .type "list", data := .seq its.toArray nn } ∧ H2 s.heap.objs.size = none ∧ (∀ b ∈ fp, H2 b = none) ∧ (∀ b ∈ fp, ∀ o, s2.heap.get? b = some o → s3.heap.get? b = some o) ∧ Inv XC [] σ2 H2 s3 := by
       intro σ2 H2 s3 I3
       refine ⟨(I3.pin _ (List.mem_append_right _ hpa)).1, (I3.pin _ (List.mem_append_right _ hpa)).2.1, fun b hb => ?_, fun b hb o e => (I3.pin _ (List.mem_append_right _ (hpf b hb o e))).1, I3.pins_of fun p hp => I3.pin p (List.mem_append_left _ (by simpa using hp))⟩
       obtain ⟨o, e, _⟩:=T.obj (i + 1) _ htn1 b hb
       exact (I3.pin _ (List.mem_append_right _ (hpf b hb o e))).2.1
      have PG1 : PGD XC tg t:=by subst hXC; exact B.tgt _ _ _ _
      have PT1 : PTs XC ifs cond:=by subst hXC; exact B.tst _ _ _ _
      have PE1 : PD XC EX0 elt fe:=by subst hXC; exact B.elt _ _ _ _
      have ha:=PG1 P2 s2 σc H1 x' u (fun σ' H'' => H'' = H1 ∧ REnv X.K O' H1 ρ1 σ') I1' rx ⟨O', x, ρ', ρ1, by rw [eK]; exact ry, by rw [eK]; exact E'.mono ky, ht, fun σ' E2 => ⟨rfl, by rw [eK] at E2; exact E2⟩⟩
      rw [eP, eW, eA, eX] at ha
      refine wpAny_mono ha (fun _ s3 hr3 => ?_) fun _ _ z => z
      obtain ⟨σ2, H1', I3, rfl, E2⟩:=hr3
      have hb:=PT1 P2 s3 σ2 H1' (fun b H'' => ∃ O'' stb, cond ρ1 st' = .ok b stb ∧ Keep X.K O' H1' O'' H'' ∧ WR X.K O'' H'' stb) I3 ⟨O', ρ1, st', by rw [eK]; exact Wy, by rw [eK]; exact E2, by
       rw [eK]
       cases hcnd : cond ρ1 st' with
       | ok b stb => exact fun O'' H'' k W => ⟨O'', stb, rfl, k, W⟩
       | exc c stb => rw [hcnd] at hR; exact hR.elim
       | bad => rw [hcnd] at hR; exact hR.elim⟩
      rw [eP, eW, eA, eX] at hb
      refine wpAny_mono hb (fun ok s4 hr4 => ?_) fun _ _ z => z
      obtain ⟨H2, I4', O2, stb, hcnd, kb, Wb⟩:=hr4
      rw [hcnd] at hR
      cases ok with
      | false =>
       dsimp only at hR
       obtain ⟨b1, b2, b3, b4, b5⟩:=back I4'
       refine ⟨n - 1, by omega, i + 1, O2, ρ1, stb, ds, vs, its, nn, H2, σ2, by omega, b5, kp.trans (ky.trans kb), Wb, E2.mono kb, T.keep _ _ _ htn1 b4, b3, b1, b2, hv, Reps.mono (ky.trans kb) _ _ hr, hz, ?_⟩
       rw [hxs]
       exact Run.later hR (ky.trans kb)
      | true =>
       dsimp only at hR
       have he:=PE1 P2 s4 σ2 H2 (fun v H3 => ∃ O3 st3 d, fe ρ1 stb = .ok d st3 ∧ Keep X.K O2 H2 O3 H3 ∧ WR X.K O3 H3 st3 ∧ Rep X.K O3 H3 d v) I4' ⟨O2, ρ1, stb, by rw [eK]; exact Wb, by rw [eK]; exact E2.mono kb, by
        rw [eK]
        cases hfe : fe ρ1 stb with
        | ok d st3 => exact fun O3 H3 k W v r => ⟨O3, st3, d, rfl, k, W, r⟩
        | exc c st3 => rw [hfe] at hR; exact hR.elim
        | bad => rw [hfe] at hR; exact hR.elim⟩
       rw [eP, eW, eA, eX] at he
       refine wpAny_mono he (fun uv s5 hr5 => ?_) fun _ _ z => z
       obtain ⟨v, H3, I5, rv, O3, st3, d, hfe, ke, We, re⟩:=hr5
       rw [hfe] at hR
       dsimp only at hR
       obtain ⟨b1, b2, b3, b4, b5⟩:=back I5
       refine append_obj b1 (fun h6 hg6 hs6 => ?_) (by rw [← hv.length, ← hr.length]; exact Nat.le_trans hz small_le)
       obtain ⟨f0, f1, f2, f3, f4, f5⟩:=aok H3 b2
       have I6 : Inv XC [] σ2 H3 { s5 with heap:=h6 }:=b5.turned (t':=s5.toks) (fun b o hb e => (hs6.2 b hb).trans e) f0 f1 f3 f4 f5
       refine ⟨n - 1, by omega, i + 1, O3, ρ1, st3, ds ++ [d], vs ++ [v], its ++ [uv], nn + 1, H3, σ2, by omega, I6, kp.trans (ky.trans (kb.trans ke)), We, E2.mono (kb.trans ke), T.keep _ _ _ htn1 (fun b hb o e => (hs6.2 b (fpne b hb)).trans (b4 b hb o e)), b3, hg6, b2, hv.append (.cons rv .nil), (Reps.mono (ky.trans (kb.trans ke)) _ _ hr).append (Reps.one re), by rw [List.length_append]; exact hch.2, ?_⟩
       rw [hxs]
       exact Run.later hR (ky.trans (kb.trans ke))
    ·rw [if_neg hch] at hR; exact hR.elim
  ·subst es4
   refine ⟨0, O, capEv ρ caps nT, st, [], [], [], 0, H, capSt σ caps nT, rfl, I4, Keep.refl, W, capEnv Er caps nT, T.keep _ _ _ h0 (fun b hb o e => k4 b o e), fun b hb => (hf b hb).1, hacc0, I.hok.fresh (Nat.le_refl _), .nil, Reps.nil_i.mpr rfl, Nat.zero_le _, ?_⟩
   rw [List.drop_zero]
   exact R
 have e5 : ({ newEnv scope (s.heap.push { cls := .type "list", data := .seq ([] : List Value).toArray }).objs.size X.env.globals (clOf X.env scope.names []) X.env.qual none .none (some X.env) builtinsNs with scope := relabel scope X.env } : Env) = XC.env := by rw [eE]; rfl
 have h5:=loop _ rfl
 refine codeAny_compStart_list ?_ ?_
 ·exact e5 ▸ h5
 ·exact T.self _ 0 _ _ _ (T.keep _ _ _ h0 (fun b hb o e => k4 b o e)) (e5 ▸ h5)
end
end DL
end
section
namespace DL
open PySem PySem.Spec PyProof.Rows L2
section
variable {X : Cx} {EX : EXT} {scope : Scope} {N : List Str} {caps : List Nat} {nT : Nat} {elt tg iter : Expr} {ifs : List Expr} {pos spos py : Pos} {f : DI} {t : TgD} {cond : DT} {fe : DE} {y : Str}
theorem gone {pins : List (Addr × Obj)} {σ : L2.St} {H H1 : Hp} {s s1 : Shared} {C : Addr} {h' : Heap} (I : Inv X pins σ H s) (hC : s.heap.objs.size ≤ C) {σ1 : L2.St} (I1 : Inv X pins σ1 H1 s1) (hn : H1 C = none) (hs : Heap.SameBut C s1.heap h') : Inv X pins σ1 H1 { s1 with heap:=h' }:=by
 refine I1.turned (t':=s1.toks) (fun b o hb e => (hs.2 b hb).trans e) hn ?_ (.inr (Nat.le_trans I.sz hC)) ?_ ?_
 ·intro z
  exact absurd (Nat.lt_of_lt_of_le I.lt (z ▸ hC)) (Nat.lt_irrefl _)
 ·intro x c hx z
  obtain ⟨v, o, ho, _⟩:=I.cell x c hx
  exact absurd (Nat.lt_of_lt_of_le (Heap.lt_size ho) (z ▸ hC)) (Nat.lt_irrefl _)
 ·intro p hp z
  obtain ⟨h1, _⟩:=I.pin p hp
  exact absurd (Nat.lt_of_lt_of_le (Heap.lt_size h1) (z ▸ hC)) (Nat.lt_irrefl _)
noncomputable def LcI (X : Cx) (EX : EXT) (pins : List (Addr × Obj)) (σ : L2.St) (tg : Expr) (caps : List Nat) (nT : Nat) (t : TgD) (cond : DT) (fe : DE) (Q : VK) (itv : Value) (s2 : Shared) : Prop :=
 ∃ (it : Addr) (fp : List Addr) (tn : Nat → Heap → Prop) (J : It) (H1 : Hp), itv = .ref it ∧ Inv X pins σ H1 s2 ∧ Turn X.prog X.w X.K tg J fp it tn ∧ tn 0 s2.heap ∧ (∀ b ∈ fp, FpOk X pins H1 b) ∧
  ∃ O1 ρ q st1 Q', ItF X.K J O1 H1 q ∧ WR X.K O1 H1 st1 ∧ REnv X.K O1 H1 ρ σ ∧ Run X.K EX O1 H1 (compD q.2 t cond fe q.1 (capEv ρ caps nT) st1 []) (New X.K Q') ∧
   ∀ p vs H2, Q' (.ref p) (upd H2 p (.lst vs)) → ∃ H3, Q (.ref p) H3 ∧ (∀ C, C ≠ p → H2 C = none → H3 C = none) ∧ ∀ σ' s', Inv X pins σ' (upd H2 p (.lst vs)) s' → Inv X pins σ' H3 s'
noncomputable def PLc (X : Cx) (EX : EXT) (tg iter : Expr) (caps : List Nat) (nT : Nat) (t : TgD) (cond : DT) (fe : DE) (F : DA) : Prop :=
 ∀ (pins : List (Addr × Obj)) (s : Shared) (σ : L2.St) (H : Hp) (Q : VK), Inv X pins σ H s → tDF X.K EX F σ H Q →
  wpAny (model X.prog X.w) X.A (eval iter X.env) (fun v s1 => wpAny (model X.prog X.w) X.A (pyIter v) (LcI X EX pins σ tg caps nT t cond fe Q) X.xe s1) X.xe s
theorem plc_of (hi : PID X EX tg iter f) : PLc X EX tg iter caps nT t cond fe (dComp caps nT f t cond fe):=by
 rintro pins s σ H Q I ⟨O, ρ, st, W, E, R⟩
 refine wpAny_mono (hi pins s σ H (fun J H1 => ∃ O1 ρ q st1, ItD X.K J O1 H1 q ∧ WR X.K O1 H1 st1 ∧ REnv X.K O1 H1 ρ σ ∧ Run X.K EX O1 H1 (compD q.2 t cond fe q.1 (capEv ρ caps nT) st1 []) (New X.K Q)) I
  ⟨O, ρ, st, W, E, R.bind.mono fun q st1 O1 H1 k1 W1 R1 J hJ => ⟨O1, ρ, q, st1, hJ, W1, E.mono k1, R1⟩⟩) (fun xv s₁ h₁ => wpAny_mono h₁ (fun itv s₂ h₂ => ?_) fun _ _ e => e) fun _ _ e => e
 obtain ⟨it, fp, tn, J, H', rfl, I', T, h0, hf, O1, ρ, q, st1, hJ, W1, E1, R1⟩:=h₂
 exact ⟨it, fp, tn, J, H', rfl, I', T, h0, hf, O1, ρ, q, st1, Q, hJ.fz, W1, E1, R1, fun p vs H2 hq => ⟨_, hq, fun C hC e => by rw [upd_ne hC]; exact e, fun _ _ I => I⟩⟩
theorem clos_ok {pins : List (Addr × Obj)} {σ : L2.St} {H : Hp} {s : Shared} (B : Blk X.env.scope scope X.N N caps nT) (I : Inv X pins σ H s) : closureFor scope X.env = pure (clOf X.env scope.names []) :=
 closureFor_of fun y hy hk => I.ok.has y.1 (B.free y hy hk)
theorem pdf_lcG {F : DA} (hc : X.calm = true) (B : BlkOk X scope N caps nT tg elt ifs t cond fe) (hi : PLc X EX tg iter caps nT t cond fe F) (hs : ∀ x, foldedSetIterable iter X.env x = pure x:=by intro _; rfl) : PDF X EX (.ListComp elt [⟨tg, iter, ifs, 0⟩] scope pos) F:=by
 intro pins s σ H Q I h
 rw [eval_ListComp]
 refine wpAny_comprehension_free (use:=none) rfl hs (clos_ok B.blk I) B.blk.kind B.blk.names (wpAny_mono (hi pins s σ H _ I h) (fun xv s₁ h₁ => wpAny_mono h₁ (fun itv s₂ h₂ => ?_) fun _ _ e => e) fun _ _ e => e)
 obtain ⟨it, fp, tn, J, H', rfl, I', T, h0, hf, O1, ρ, q, st1, Q', hJ, W1, E1, R1, thaw⟩:=h₂
 refine lc_block (RR:=fun acc C => compPost (model X.prog X.w) X.A X.xe none (EP X pins σ Q) acc C) hc B I' T h0 hf hJ W1 E1 R1 ?_
 intro p C H2 vs s' m hC hn hns hpC I2 hq
 obtain ⟨H3, q3, n3, i3⟩:=thaw p vs H2 hq
 refine ⟨m, hns, fun h' hsb => ⟨.ref p, _, gone I' hC (i3 _ _ I2) (n3 C (Ne.symm hpC) hn) hsb, rfl, q3⟩⟩
theorem pdf_lc (hc : X.calm = true) (B : BlkOk X scope N caps nT tg elt ifs t cond fe) (hi : PID X EX tg iter f) (hs : ∀ x, foldedSetIterable iter X.env x = pure x:=by intro _; rfl) : PDF X EX (.ListComp elt [⟨tg, iter, ifs, 0⟩] scope pos) (dComp caps nT f t cond fe):=pdf_lcG hc B (plc_of hi) hs
end
end DL
end
section
namespace HT
open PySem PyProof.Rows
section
open PySem.AutoSeq1 (wpAny_loadPart')
theorem noFill_tuple_mul : fillsNumberSlot (.type "tuple") "mul" = pure false :=
 PySem.fillsNumberSlot_seq (id := "tuple.__mul__") (r := some (.builtin "tuple.__rmul__")) F.slot_tuple_mul.lookup (by decide +kernel) F.slot_tuple_rmul.lookup (by decide +kernel)
theorem repeat_tuple : seqRepeat? (.type "tuple") = pure (some (.builtin "tuple.__mul__")) := by
 unfold seqRepeat?
 rw [PySem.seqSlot_of (T := "tuple") (name := "__mul__") (id := "tuple.__mul__") F.slot_tuple_mul.lookup (by decide +kernel), PySem.seqSlot_of (T := "tuple") (name := "__rmul__") (id := "tuple.__rmul__") F.slot_tuple_rmul.lookup (by decide +kernel)]
 rfl
theorem int_rmul_tuple (a : Int) (t : Tok) (l : Addr) (items : Array Value) (n : Nat) (dd : Option Addr) (sl : Array (Option Value)) :
  Meets (Builtin.«int.__rmul__» ⟨[.int a t, .ref l], []⟩) (fun _ R s => s.heap.get? l = some { cls := .type "tuple", dict := dd, data := .seq items n, slots := sl } ∧ R (.ok (.ret Value.notImplemented)) s) :=
 .of_wp fun prog w A R s h => by obtain ⟨hp, g, d, tk, os⟩:=s; obtain ⟨hl, h⟩:=h; wp_walk using wpAny_loadPart' hl; exact ⟨_, rfl, h⟩
theorem tuple_mulW1 (l : Addr) (items : Array Value) (n : Nat) (dd : Option Addr) (sl : Array (Option Value)) (k : Int) (u : Tok) (hf : ¬ (decide (k < -(2 ^ 63)) || decide (k ≥ 2 ^ 63)) = true) (hc : (items.isEmpty || k == 1) = true) :
  Meets (Builtin.«tuple.__mul__» ⟨[.ref l, .int k u], []⟩) (fun _ R s => s.heap.get? l = some { cls := .type "tuple", dict := dd, data := .seq items n, slots := sl } ∧ R (.ok (.ret (.ref l))) s) :=
 .of_wp fun prog w A R s h => by obtain ⟨hp, g, d, tk, os⟩:=s; obtain ⟨hl, h⟩:=h; have f1:=AutoSeq1.idx_int; wp_walk using wpAny_loadPart' hl; refine wpAny_ite_false (decide_eq_false hf) ?_; wp_walk using wpAny_loadPart' hl; exact ⟨_, rfl, h⟩
theorem tuple_mulW2 (l : Addr) (items : Array Value) (n : Nat) (dd : Option Addr) (sl : Array (Option Value)) (k : Int) (u : Tok) (hf : ¬ (decide (k < -(2 ^ 63)) || decide (k ≥ 2 ^ 63)) = true) (hc : ¬ (items.isEmpty || k == 1) = true) (hc2 : (decide (k ≤ 0) || items.isEmpty) = true) :
  Meets (Builtin.«tuple.__mul__» ⟨[.ref l, .int k u], []⟩) (fun _ R s => s.heap.get? l = some { cls := .type "tuple", dict := dd, data := .seq items n, slots := sl } ∧ R (.ok (.ret (.ref s.heap.objs.size))) { s with heap := s.heap.push { cls := .type "tuple", data := .seq #[] } }) :=
 .of_wp fun prog w A R s h => by obtain ⟨hp, g, d, tk, os⟩:=s; obtain ⟨hl, h⟩:=h; have f1:=AutoSeq1.idx_int; wp_walk using wpAny_loadPart' hl; refine wpAny_ite_false (decide_eq_false hf) ?_; wp_walk using wpAny_loadPart' hl; exact ⟨_, rfl, h⟩
theorem tuple_mulW3 (l : Addr) (items : Array Value) (n : Nat) (dd : Option Addr) (sl : Array (Option Value)) (k : Int) (u : Tok) (hf : ¬ (decide (k < -(2 ^ 63)) || decide (k ≥ 2 ^ 63)) = true) (hc : ¬ (items.isEmpty || k == 1) = true) (hc2 : ¬ (decide (k ≤ 0) || items.isEmpty) = true)
  (hc3 : ¬ (items.size : Int) * k > (2 ^ 63 - 1) / 8) (hc4 : ¬ Builtin.Tuple.tupleTooMany ((items.size : Int) * k) = true) (hsz : ((List.replicate k.toNat items).foldl (· ++ ·) #[]).size ≤ sizeLine) :
  Meets (Builtin.«tuple.__mul__» ⟨[.ref l, .int k u], []⟩) (fun _ R s => s.heap.get? l = some { cls := .type "tuple", dict := dd, data := .seq items n, slots := sl } ∧ R (.ok (.ret (.ref s.heap.objs.size))) { s with heap := s.heap.push { cls := .type "tuple", data := .seq ((List.replicate k.toNat items).foldl (· ++ ·) #[]) } }) :=
 .of_wp fun prog w A R s h => by obtain ⟨hp, g, d, tk, os⟩:=s; obtain ⟨hl, h⟩:=h; have f1:=AutoSeq1.idx_int; wp_walk using wpAny_loadPart' hl; refine wpAny_ite_false (decide_eq_false hf) ?_; wp_walk using wpAny_loadPart' hl; refine wpAny_ite_false (decide_eq_false hc3) ?_; wp_walk using wpAny_loadPart' hl; exact ⟨_, rfl, h⟩
end
end HT
namespace DL
open PySem PySem.Spec PyProof.Rows L2
section
variable {X : Cx} {EX : EXT} {a b c e o : Expr} {fa fb fc fo : DE} {pos p apos : Pos}
noncomputable def repL (xs : List D) (k : Nat) : List D:=(List.replicate k xs).flatten
noncomputable def mul2D : D → D → Sto → Out D
 | .tup xs, .int k, st => if -1000 ≤ k ∧ k ≤ 1000 ∧ xs.length ≤ 10 then .ok (.tup (repL xs k.toNat)) st else .bad
 | .str x, .int k, st => if -1000 ≤ k ∧ k ≤ 1000 ∧ x.length ≤ 10 then .ok (.str (PySem.Txt.mul x k)) st else .bad
 | a, b, st => mulD a b st
theorem mul_tup {pins : List (Addr × Obj)} {σ : L2.St} {H : Hp} {s : Shared} {O : List Addr} {st : Sto} {xs : List D} {l : Addr} {vs : List V} {k : Int} {t : Tok} {Q : VK} (I : Inv X pins σ H s) (W : WR X.K O H st) (q : H l = some (.tup vs)) (r : Reps X.K O H xs vs) (hk : -1000 ≤ k ∧ k ≤ 1000 ∧ xs.length ≤ 10)
  (R : Run X.K EX O H (.ok (.tup (repL xs k.toNat)) st) (Val X.K Q)) : wpAny (model X.prog X.w) X.A (binaryOp .Mult (.ref l) (.int k t)) (EP X pins σ Q) X.xe s:=by
 obtain ⟨its, hv, ht, hz⟩:=I.tuple (SqT.of q)
 obtain ⟨⟨cls, dd, data, sl⟩, ho, hc, n, hd⟩:=id ht
 simp only at hc hd
 subst hc hd
 have lk : its.length ≤ 10:=by rw [← hv.length, ← r.length]; exact hk.2.2
 have hf : ¬ (decide (k < -(2 ^ 63)) || decide (k ≥ 2 ^ 63)) = true:=by
  rw [Bool.or_eq_true, not_or]
  exact ⟨fun h => by have:=of_decide_eq_true h; omega, fun h => by have:=of_decide_eq_true h; omega⟩
 have fold : (List.replicate k.toNat its.toArray).foldl (· ++ ·) #[] = (List.replicate k.toNat its).flatten.toArray:=by
  have:=foldl_rep its k.toNat []
  rw [List.nil_append] at this
  exact this
 refine wpAny_binaryOp_repeat_ref (T := "tuple") (U := "int") (by decide) ⟨_, ho, rfl⟩ (fun s' => typeIs_int s' k t) HT.noFill_tuple_mul F.fills_int_mul F.slot_int_rmul HT.repeat_tuple F.slot_int_index.lookup
  (call_meets F.slot_int_rmul (typeIs_int s k t) F.entry_int_rmul (F.args_int_rmul_2 _ _) (HT.int_rmul_tuple k t l its.toArray n dd sl)
   ⟨ho, rfl, ⟨_, ho, rfl⟩, ?_⟩)
 by_cases h1 : (its.toArray.isEmpty || k == 1) = true
 ·refine call_meets F.slot_tuple_mul ⟨_, ho, rfl⟩ F.entry_tuple_mul (F.args_tuple_mul_2 _ _) (HT.tuple_mulW1 l its.toArray n dd sl k t hf h1) ⟨ho, ?_⟩
  have e : repL xs k.toNat = xs:=by
   rw [Bool.or_eq_true] at h1
   rcases h1 with h1 | h1
   ·have h2 : its = []:=by simpa using h1
    have h3 : xs = []:=by
     have:=r.length
     rw [hv.length, h2] at this
     exact List.length_eq_zero_iff.mp this
    subst h3
    unfold repL
    induction k.toNat with
    | zero => rfl
    | succ m ih => rw [List.replicate_succ, List.flatten_cons, ih]; rfl
   ·have h2 : k = 1:=by simpa using h1
    subst h2
    simp [repL]
  rw [e] at R
  exact ⟨.ref l, H, I, rfl, Run.now (k:=Val X.K Q) R W _ (Rep.tup_i.mpr ⟨l, vs, rfl, q, r⟩)⟩
 ·by_cases h2 : (decide (k ≤ 0) || its.toArray.isEmpty) = true
  ·refine call_meets F.slot_tuple_mul ⟨_, ho, rfl⟩ F.entry_tuple_mul (F.args_tuple_mul_2 _ _) (HT.tuple_mulW2 l its.toArray n dd sl k t hf h1 h2) ⟨ho, ?_⟩
   have e : k.toNat = 0:=by
    rw [Bool.or_eq_true] at h2 h1
    rcases h2 with h2 | h2
    ·have:=of_decide_eq_true h2; omega
    ·exact absurd (.inl h2) h1
   have hp:=I.hok.fresh (Nat.le_refl s.heap.objs.size)
   rw [e] at R
   refine ⟨.ref s.heap.objs.size, _, I.laid (t':=s.toks) (o:=.tup []) (fun b ob q => Heap.get?_push_of_some _ q) (Nat.le_refl _) ⟨by decide, [], .nil, IsTup.new _ _, fun o2 e2 => by rw [Heap.get?_push_size _ rfl] at e2; cases e2; rfl⟩, rfl, ?_⟩
   exact new_tup (xs:=repL xs 0) W (Reps.nil_i.mpr rfl) hp R
  ·have hk0 : 0 < k:=by
    rw [Bool.or_eq_true, not_or] at h2
    have:=of_decide_eq_false (Bool.eq_false_iff.mpr h2.1)
    omega
   have hm : (its.toArray.size : Int) * k ≤ 10000:=by
    have h3 : (its.toArray.size : Int) ≤ 10:=by rw [List.size_toArray]; omega
    have h4 : (its.toArray.size : Int) * k ≤ 10 * k:=Int.mul_le_mul_of_nonneg_right h3 (by omega)
    omega
   have hlen : ((List.replicate k.toNat its).flatten).length ≤ 10000:=by
    rw [len_rep]
    have h3 : k.toNat * its.length ≤ 1000 * 10:=Nat.mul_le_mul (by omega) lk
    omega
   have hbig : (10000 : Nat) ≤ sizeLine:=small_le
   refine call_meets F.slot_tuple_mul ⟨_, ho, rfl⟩ F.entry_tuple_mul (F.args_tuple_mul_2 _ _) (HT.tuple_mulW3 l its.toArray n dd sl k t hf h1 h2 (by omega) (by
     unfold Builtin.Tuple.tupleTooMany
     intro h
     have:=of_decide_eq_true h
     omega) (by rw [fold, List.size_toArray]; omega)) ⟨ho, ?_⟩
   have hp:=I.hok.fresh (Nat.le_refl s.heap.objs.size)
   rw [fold]
   refine ⟨.ref s.heap.objs.size, _, I.laid (t':=s.toks) (o:=.tup (List.replicate k.toNat vs).flatten) (fun b ob q => Heap.get?_push_of_some _ q) (Nat.le_refl _) ⟨?_, _, hv.rep k.toNat, IsTup.new _ _, fun o2 e2 => by rw [Heap.get?_push_size _ rfl] at e2; cases e2; rfl⟩, rfl, ?_⟩
   ·rw [len_rep, hv.length, ← len_rep]; omega
   ·exact new_tup W (r.rep k.toNat) hp R
theorem op_mul2D : OpD X EX (binaryOp .Mult) mul2D:=by
 intro pins s σ H x y v u Q I rx ry h
 obtain ⟨O, a, b, st, W, ra, rb, R⟩:=h
 have other : Run X.K EX O H (mulD a b st) (Val X.K Q) → wpAny (model X.prog X.w) X.A (binaryOp .Mult v u) (EP X pins σ Q) X.xe s:=fun R => op_mulD pins s σ H x y v u Q I rx ry ⟨O, a, b, st, W, ra, rb, R⟩
 cases a <;> cases b <;> first | exact other R | skip
 case tup.int xs k =>
  dsimp only [mul2D] at R
  by_cases hk : -1000 ≤ k ∧ k ≤ 1000 ∧ xs.length ≤ 10
  ·rw [if_pos hk] at R
   rw [Rep.tup_i] at ra
   rw [Rep.int_i] at rb
   subst rb
   obtain ⟨l, vs, rfl, q, r⟩:=ra
   cases rx
   obtain ⟨t, rfl⟩:=ry
   exact mul_tup I W q r hk R
  ·rw [if_neg hk] at R; exact R.elim
 case str.int z k =>
  dsimp only [mul2D] at R
  by_cases hk : -1000 ≤ k ∧ k ≤ 1000 ∧ z.length ≤ 10
  ·rw [if_pos hk] at R
   rw [Rep.str_i] at ra
   rw [Rep.int_i] at rb
   subst ra rb
   obtain ⟨t', rfl⟩:=rx
   obtain ⟨t, rfl⟩:=ry
   exact SB.mul (mulOk_of 10 1000 hk.2.2 hk.2.1 (by omega) (by decide) (by decide)) fun t2 k2 => ⟨.str (PySem.Txt.mul z k), H, I.tok k2, ⟨t2, rfl⟩, Run.now (k:=Val X.K Q) R W _ (Rep.str_i.mpr rfl)⟩
  ·rw [if_neg hk] at R; exact R.elim
end
end DL
end
section
namespace HT
open PySem PyProof.Rows
section
variable {prog : Program} {w : World} {A : Around} {E : Value → Shared → Prop} {s : Shared}
end
end HT
end
section
namespace DL
open PySem PySem.Spec PyProof.Rows L2
end DL
end
section
namespace HT
open PySem PyProof.Rows
section
variable {prog : Program} {w : World} {A : Around} {E : Value → Shared → Prop} {s : Shared}
end
end HT
namespace DL
open PySem PySem.Spec PyProof.Rows L2
section
variable {X : Cx} {EX : EXT} {a b e o tg : Expr} {fa fb fo : DE} {g : DA} {pos p px apos cpos : Pos} {x : Str}
noncomputable def dAppend (fo fa : DE) : DE:=fun ρ st => (fo ρ st).bind fun d st1 => match d with
 | .res i => match st1[i]? with
  | some (.lst _) => (fa ρ st1).bind fun v st2 => match st2[i]? with
   | some (.lst xs) => if xs.length < small then .ok .non (st2.set i (.lst (xs ++ [v]))) else .bad
   | _ => .bad
  | _ => .bad
 | _ => .bad
theorem res_lst {K : PySem.W.Frag} {O : List Addr} {H : Hp} {st : Sto} (W : WR K O H st) {i : Nat} {v : V} {xs : List D} (r : Rep K O H (.res i) v) (e : st[i]? = some (.lst xs)) : ∃ a vs, v = .ref a ∧ O[i]? = some a ∧ H a = some (.lst vs) ∧ Reps K O H xs vs:=by
 rw [Rep.res_i] at r
 obtain ⟨a, rfl, q⟩:=r
 obtain ⟨vs, h1, h2⟩:=W.at_ _ _ _ q e
 exact ⟨a, vs, rfl, q, h1, h2⟩
theorem pd_append (ho : PD X EX o fo) (ha : PD X EX a fa) (hbase : attributeBase o "append" X.env (eval o X.env) = eval o X.env := by rfl)
  (hfew : ((backTo cpos (starEach [a] X.env)).all (fun x => !x.1) && (backToKw cpos (keywordEach [] X.env)).all (fun x => x.1.isSome)
   && decide ([a].length + ([] : List Keyword).length + (if ([] : List Keyword).isEmpty then 0 else 1) < 30)) = true:=by rfl)
  (hline : (apos.endLine == cpos.line) = true := by rfl) (hs : starEach [a] X.env = (false, eval a X.env) :: starEach [] X.env := by rfl) (hplain : (backTo cpos (starEach [] X.env)).any (·.1) = false := by rfl) : PD X EX (.Call (.Attribute o "append" apos) [a] [] cpos) (dAppend fo fa) := by
 refine PE.mono (pe_bm PySem.F.plainAttrs_list PySem.F.slot_list_append PySem.F.type_list_append mt_append ho (pda_cons ha pda_nil hs) hbase hfew hline hs hplain) ?_
 rintro σ H Q ⟨O, ρ, st, W, E, R⟩
 refine ⟨O, ρ, st, W, E, R.bind.mono fun d st1 O1 H1 k1 W1 R1 v r => ?_⟩
 cases d with
 | res i =>
  dsimp only at R1
  cases e1 : st1[i]? with
  | none => rw [e1] at R1; exact R1.elim
  | some s1 =>
   rw [e1] at R1
   cases s1 with
   | ins C fs => exact R1.elim
   | dct kvs => exact R1.elim
   | dtt kvs => exact R1.elim
   | fdc kvs => exact R1.elim
   | lst xs0 =>
    dsimp only at R1
    obtain ⟨pa, vs0, rfl, q0, h0, _⟩:=res_lst W1 r e1
    refine ⟨.inl ⟨rfl, _, SqL.of h0⟩, O1, ρ, st1, W1, E.mono k1, ?_⟩
    cases hfa : fa ρ st1 with
    | bad => rw [hfa] at R1; exact R1.elim
    | exc c st2 =>
     rw [hfa] at R1
     show Run X.K EX O1 H1 (dCons fa dNil ρ st1) _
     unfold dCons
     rw [hfa]
     exact R1
    | ok w st2 =>
     rw [hfa] at R1
     show Run X.K EX O1 H1 (dCons fa dNil ρ st1) _
     unfold dCons
     rw [hfa]
     intro O2 H2 k2 W2 ws rs
     obtain ⟨u, rfl, ru⟩:=Reps.one_of rs
     have R2:=Run.later R1 k2
     dsimp only [Out.bind] at R2
     cases e2 : st2[i]? with
     | none => rw [e2] at R2; exact R2.elim
     | some s2 =>
      rw [e2] at R2
      cases s2 with
      | ins C fs => exact R2.elim
      | dct kvs => exact R2.elim
      | dtt kvs => exact R2.elim
      | fdc kvs => exact R2.elim
      | lst xs =>
       dsimp only at R2
       by_cases hl : xs.length < small
       ·rw [if_pos hl] at R2
        obtain ⟨pa', vs, e3, q, h1, h2⟩:=res_lst W2 (Rep.mono k2 _ _ r) e2
        cases e3
        refine ⟨pa, vs, u, rfl, rfl, h1, by rw [← h2.length]; exact Nat.lt_of_lt_of_le hl small_le, ?_⟩
        exact R2 O2 _ (Keep.write W2 q) (W2.writeL q (h2.append (Reps.one ru))) _ (Rep.non_i.mpr rfl)
       ·rw [if_neg hl] at R2; exact R2.elim
 | _ => exact R1.elim
end
end DL
end
section
namespace DL
open PySem PySem.Spec PyProof.Rows L2
noncomputable def tyName : D → Option String
 | .non => some "NoneType"
 | .bl _ => some "bool"
 | .int _ => some "int"
 | .str _ => some "str"
 | .tup _ => some "tuple"
 | .lst _ => some "list"
 | _ => none
noncomputable def subTy (t T : String) : Bool := t == T || (t == "bool" && T == "int")
noncomputable def tyNames : List String := ["NoneType", "bool", "int", "str", "tuple", "list"]
noncomputable def clNames : List String := ["bool", "int", "str", "tuple", "list"]
theorem kit_tab (K : PySem.W.Frag) : ∀ t ∈ tyNames, ∀ T ∈ clNames, PySem.W.kitOne K (.type t) (.type T) = some (subTy t T):=by
 intro t ht T hT
 simp only [tyNames, clNames, List.mem_cons, List.not_mem_nil, or_false] at ht hT
 rcases ht with rfl | rfl | rfl | rfl | rfl | rfl <;> rcases hT with rfl | rfl | rfl | rfl | rfl <;> rfl
theorem tyName_in {d : D} {t : String} (h : tyName d = some t) : t ∈ tyNames:=by
 cases d <;> simp only [tyName, Option.some.injEq, reduceCtorEq] at h <;> subst h <;> decide
section
variable {X : Cx} {EX : EXT} {a b c e o : Expr} {fa fb fc fo : DE} {pos p pT apos : Pos}
theorem inst_ok {pins : List (Addr × Obj)} {σ : L2.St} {H : Hp} {s : Shared} {O : List Addr} {st : Sto} {d : D} {v : V} {u : Value} {t T : String} {E : Value → Shared → Prop} {Q : Value → Shared → Prop} (I : Inv X pins σ H s) (W : WR X.K O H st) (r : Rep X.K O H d v) (q : RelV v u) (ht : tyName d = some t) (hT : T ∈ clNames)
  (h : ∀ tk, Q (.bool (subTy t T)) { s with toks := tk }) : wpAny (model X.prog X.w) X.A (call (.builtin "isinstance") [u, .type T]) Q E s := by
 have e:=kit_tab X.K t (tyName_in ht) T hT
 cases d with
 | non => cases ht; rw [Rep.non_i] at r; subst r; exact isinst_ok I q .non e h
 | bl b => cases ht; rw [Rep.bl_i] at r; subst r; exact isinst_ok I q (.bl b) e h
 | int b => cases ht; rw [Rep.int_i] at r; subst r; exact isinst_ok I q (.int b) e h
 | str b => cases ht; rw [Rep.str_i] at r; subst r; exact isinst_ok I q (.str b) e h
 | tup ds =>
  cases ht
  rw [Rep.tup_i] at r
  obtain ⟨a, vs, rfl, z, _⟩:=r
  obtain ⟨its, _, ⟨o, h1, h2, _⟩, _⟩:=I.tuple (SqT.of z)
  cases q
  exact PySem.W.kia_one PySem.W.kitx_tuple I.kIn ⟨o, h1, h2⟩ e (fun z => nomatch z) h
 | lst ds =>
  cases ht
  rw [Rep.lst_i] at r
  obtain ⟨a, vs, rfl, _, z, _⟩:=r
  exact isinst_ok I q (.lst z) e h
 | _ => cases ht
noncomputable def dInst (T : String) (f : DE) : DE:=fun ρ st => (f ρ st).bind fun d st1 => match tyName d with
 | some t => .ok (.bl (subTy t T)) st1
 | none => .bad
theorem pd_inst {x : Str} {T : String} (hT : T ∈ clNames) (he : PD X EX e fa) (hg : Gl X "isinstance") (hm : X.mg "isinstance" = none) (hgT : Gl X x) (hmT : X.mg x = none) (hvT : bootBuiltins x = some (.type T)) (hn : x ≠ "__name__" := by decide) (hdb : (x == ("__debug__" : Str)) = false := by decide)
  (hs : starEach [e, .Name x pT] X.env = (false, eval e X.env) :: starEach [.Name x pT] X.env:=by rfl) (hs1 : starEach [.Name x pT] X.env = (false, eval (.Name x pT) X.env) :: starEach [] X.env:=by rfl) (hpl : (backTo pos (starEach [.Name x pT] X.env)).any (·.1) = false:=by rfl) :
  PD X EX (.Call (.Name "isinstance" p) [e, .Name x pT] [] pos) (dInst T fa) := by
 have hc : CallR X (.builtin "isinstance") (fun xs H Q => ∃ v, xs = [v, .ty T] ∧ ∃ O d st t, WR X.K O H st ∧ Rep X.K O H d v ∧ tyName d = some t ∧ Q (.bl (subTy t T)) H) := by
  intro pins s σ H xs us Q I r h
  obtain ⟨v, rfl, O, d, st, t, W, rd, ht, q⟩:=h
  obtain ⟨u, w, rfl, ru, rw'⟩:=vals2 r
  cases rw'
  exact inst_ok I W rd ru ht hT fun tk => ⟨.bl _, H, I.tok tk, rfl, q⟩
 refine PE.mono (pe_callB hc hg hm PyProof.Rows.boot_isinstance (pa_cons he (pa_cons (pe_bltn hgT hmT hvT (v:=.ty T) rfl hn hdb) pa_nil hs1) hs) (by decide) (by decide) hs hpl) ?_
 rintro σ H Q ⟨O, ρ, st, W, E, R⟩
 refine ⟨O, ρ, st, W, E, R.bind.mono fun d st1 O1 H1 k1 W1 R1 v r => ?_⟩
 cases ht : tyName d with
 | none => rw [ht] at R1; exact R1.elim
 | some t =>
  rw [ht] at R1
  exact ⟨v, rfl, O1, d, st1, t, W1, r, ht, Run.now (k:=Val X.K Q) R1 W1 _ (Rep.bl_i.mpr rfl)⟩
noncomputable def dNeg (f : DE) : DE:=fun ρ st => (f ρ st).bind fun d st1 => match d with
 | .int i => .ok (.int (-i)) st1
 | _ => .bad
theorem pd_neg (ha : PD X EX a fa) : PD X EX (.UnaryOp .USub a pos) (dNeg fa):=by
 refine PE.mono (pe_un un_neg ha) ?_
 rintro σ H Q ⟨O, ρ, st, W, E, R⟩
 refine ⟨O, ρ, st, W, E, R.bind.mono fun d st1 O1 H1 k1 W1 R1 v r => ?_⟩
 cases d with
 | int i => exact ⟨i, Rep.int_i.mp r, Run.now (k:=Val X.K Q) R1 W1 _ (Rep.int_i.mpr rfl)⟩
 | _ => exact R1.elim
end
structure FnAt (P : Program) (w : World) (K : PySem.W.Frag) (mg : Str → Option Value) (base : Heap) (x : Str) (k : Nat) (F : FD) : Prop where
 ex : ∃ (f : Addr) (fd : FuncData) (ps : List Str), FnOk P w K mg base CX0 k f fd ps (spD K F) ∧ mg x = some (.ref f) ∧ PySem.W.keepIn K (.ref f) = true ∧ Binds K fd ps []
section
variable {X : Cx} {EX : EXT} {e : Expr} {es : List Expr} {pos p : Pos} {x : Str} {k j : Nat} {F : FD} {g : DA}
theorem pd_fn (h : FnAt X.prog X.w X.K X.mg X.base x j F) (hr : Room k X.A) (hj : j ≤ k) (hg : Gl X x) (ha : PDA X EX (e :: es) g)
  (hdb : (x == ("__debug__" : Str)) = false := by decide) (he : starEach (e :: es) X.env = (false, eval e X.env) :: starEach es X.env := by rfl) (hpl : (backTo pos (starEach es X.env)).any (·.1) = false := by rfl) :
  PD X EX (.Call (.Name x p) (e :: es) [] pos) (dCall F g):=by
 obtain ⟨f, fd, ps, G, hm, hk, hb⟩:=h.ex
 exact pd_call G (hr.mono hj) hg hm hk hb xe0 ha hdb he hpl
end
theorem fnAt {P : Program} {w : World} {K : PySem.W.Frag} {mg : Str → Option Value} {base : Heap} {x qual : Str} {st : Stmt} {f : Addr} {fd : FuncData} {N ps : List Str} {k : Nat} {g : DS} (F : Fun K x qual st f fd) (S : FnScope N ps (defScope st)) (hm : mg x = some (.ref f)) (hb : Binds K fd ps [])
  (hbody : ∀ (cdv : Value) (A : Around) (outer : List Env) (s : Shared) (H : Hp) (E : XK), Room k (A.deeper (envOfC qual (defScope st) s.heap.objs.size f cdv)) →
   PDS (cxOf CX0 P w K mg base N qual (defScope st) f cdv A outer s H E).nox EX0 (defBody st) g) : FnAt P w K mg base x (k + 1) (runF N.length ps.length g) :=
 ⟨f, fd, ps, fnD F S hbody, hm, F.kp, hb⟩
end DL
end
section
namespace HT
open PySem PyProof.Rows PyProof.Rows.LSm
section
variable {prog : Program} {w : World} {A : Around} {E : Value → Shared → Prop} {s : Shared} {l : Addr} {vs : List Value}
theorem all_kept {bs : List Bool} {Q : Value → Shared → Prop} (hh : A.handled = none) (hl : s.heap.IsList l vs.toArray) (hb : BoolsAre vs bs)
  (h : ∀ h' tk, (∀ b x, s.heap.get? b = some x → h'.get? b = some x) → Q (.bool (bs.all id)) { s with heap := h', toks := tk }) : wpAny (model prog w) A (call (.builtin "all") [.ref l]) Q E s := by
 have hlt : l < s.heap.objs.size:=by obtain ⟨_, e, _⟩:=hl; exact Heap.lt_size e
 refine call_all_walk (wpAny_pyIter_list hl ?_)
 refine ⟨s.heap.objs.size, [s.heap.objs.size, l], [s.heap.objs.size], vs.toArray.size, _, _, fun i => (bs[i]?).getD true, rfl, Walks.list (A:=A.in1) hh _ l (Nat.ne_of_lt hlt) vs.toArray, ⟨⟨_, Heap.get?_push_size _ rfl, rfl, rfl⟩, hl.push _⟩, fun i v s' Q' E' hP hQ => ?_, fun h' tk hk => ?_⟩
 ·obtain ⟨b, e, rfl⟩:=hb.get i v (by simpa using hP)
  simp only [e, Option.getD_some] at hQ
  exact wpAny_truthy_bool hQ
 ·have e : ((List.range vs.toArray.size).all fun i => (bs[i]?).getD true) = bs.all id:=by
   rw [List.size_toArray, hb.length]
   exact range_all bs
  rw [e]
  exact h h' tk (kept_iter hk)
end
end HT
namespace DL
open PySem PySem.Spec PyProof.Rows L2
noncomputable def blsOf : List D → Option (List Bool)
 | [] => some []
 | .bl b :: ds => (blsOf ds).map (b :: ·)
 | _ => none
noncomputable def allD : List D → Sto → Out D
 | [.lst ds], st => match blsOf ds with
  | some bs => .ok (.bl (bs.all id)) st
  | none => .bad
 | _, _ => .bad
theorem bls_are {K : PySem.W.Frag} {O : List Addr} {H : Hp} : ∀ {ds : List D} {vs : List V} {us : List Value} {bs : List Bool}, blsOf ds = some bs → Reps K O H ds vs → Vals vs us → PyProof.Rows.LSm.BoolsAre us bs:=by
 intro ds
 induction ds with
 | nil =>
  intro vs us bs e r q
  cases e
  rw [Reps.nil_i] at r
  subst r
  cases q
  exact .nil
 | cons d ds ih =>
  intro vs us bs e r q
  obtain ⟨v, ws, rfl, r1, r2⟩:=Reps.cons_i.mp r
  cases d with
  | bl b =>
   dsimp only [blsOf] at e
   cases e2 : blsOf ds with
   | none => rw [e2] at e; cases e
   | some cs =>
    rw [e2] at e
    cases e
    rw [Rep.bl_i] at r1
    subst r1
    cases q with
    | cons q1 q2 =>
     cases q1
     exact .cons b (ih e2 r2 q2)
  | _ => cases e
section
variable {X : Cx} {EX : EXT}
theorem call_allD (hc : X.calm = true) : CallD X EX (.builtin "all") allD := by
 intro pins s σ H xs us Q I rx h
 obtain ⟨O, ds, st, W, r, R⟩:=h
 unfold allD at R
 split at R
 ·rename_i zs
  obtain ⟨v, rfl, rv⟩:=r.one_of
  cases e : blsOf zs with
  | none => rw [e] at R; exact R.elim
  | some bs =>
   rw [e] at R
   rw [Rep.lst_i] at rv
   obtain ⟨a, vs, rfl, _, z, rs⟩:=rv
   obtain ⟨u, rfl, ru⟩:=vals1 rx
   cases ru
   obtain ⟨its, q, pl, _⟩:=I.list (Or.inl (Or.inl z))
   exact HT.all_kept (I.ok.hd hc) pl.isList (bls_are e rs q) fun h' tk k => ⟨.bl _, H, I.kept k, rfl, Run.now (k:=Val X.K Q) R W _ (Rep.bl_i.mpr rfl)⟩
 ·exact R.elim
noncomputable def leX : D → D → Sto → Out D
 | .int a, .int b, st => .ok (.bl (decide (a ≤ b))) st
 | .str a, .str b, st => .ok (.bl (!(decide (b.cps.toList < a.cps.toList)))) st
 | _, _, _ => .bad
theorem op_leX : OpD X EX (compareOp .LtE) leX:=by
 intro pins s σ H x y v u Q I rx ry h'
 obtain ⟨O, a, b, st, W, ra, rb, R⟩:=h'
 cases a <;> cases b <;> first | exact R.elim | skip
 ·rename_i i j
  rw [Rep.int_i] at ra rb
  subst ra rb
  exact op_le pins s σ H _ _ v u Q I rx ry ⟨i, j, rfl, rfl, Run.now (k:=Val X.K Q) R W _ (Rep.bl_i.mpr rfl)⟩
 ·rename_i i j
  rw [Rep.str_i] at ra rb
  subst ra rb
  obtain ⟨t, rfl⟩:=rx
  obtain ⟨t', rfl⟩:=ry
  exact PySem.P.le_str ⟨.bl _, H, I, rfl, Run.now (k:=Val X.K Q) R W _ (Rep.bl_i.mpr rfl)⟩
end
end DL
end
section
namespace DL
open PySem PySem.Spec PyProof.Rows L2
noncomputable def Its (x : Str) : It:=⟨fun i _ => i < x.cps.size, fun i H v H' => H' = H ∧ ∃ c, x.cps[i]? = some c ∧ v = .str ⟨#[c]⟩, fun i _ => x.cps.size ≤ i⟩
theorem turn_str {P : Program} {w : World} {K : PySem.W.Frag} {tg : Expr} (x : Str) (t : Tok) (it : Addr) : Turn P w K tg (Its x) [it] it (fun i h => h.IsStrIter it "str_ascii_iterator" x t i) where
 mem:=by simp
 obj:=fun i h st b hb => by
  have e : b = it:=by simpa using hb
  subst e
  obtain ⟨o, e, c, d⟩:=st
  exact ⟨o, e, fun v z => by rw [d] at z; cases z⟩
 keep:=fun i h h' st k => let ⟨o, e, r⟩:=st; ⟨o, k it (by simp) o e, r⟩
 item:=by
  intro X hP hw hK hc i pins s σ H E I hf st hg
  subst hP hw hK
  obtain ⟨f0, f1, f2, f3, f4, f5⟩:=hf it (by simp)
  have hx : x.cps[i]? = some (x.cps[i]'hg):=Array.getElem?_eq_getElem hg
  refine wpAny_pyNext_ascii_item st hx fun h' st' sb => ?_
  have I1 : Inv X pins σ H { s with heap:=h', toks:=s.toks + 1 }:=I.turned (t':=s.toks + 1) (fun b o hb e => (sb.2 b hb).trans e) f0 f1 f3 f4 f5
  obtain ⟨o, e, c, d⟩:=id st'
  exact ⟨_, rfl, go_of (s:={ s with heap:=h', toks:=s.toks + 1 }) e c d (by decide) ⟨.str _, H, I1, ⟨_, rfl⟩, ⟨rfl, _, hx, rfl⟩, st', fun b hb => (hf b hb).1⟩⟩
 done:=by
  intro X hP hw hK hc i pins s σ H E I hf st hg
  subst hP hw hK
  obtain ⟨f0, f1, f2, f3, f4, f5⟩:=hf it (by simp)
  exact wpAny_pyNext_ascii_end (I.ok.hd hc) st (Array.getElem?_eq_none hg) fun h' eb => ⟨rfl, I.turned (t':=s.toks) (fun b o hb e => eb b o hb e) f0 f1 f3 f4 f5⟩
 self:=fun _ _ _ _ _ st h => wpAny_pyIter_striter_ascii st h
noncomputable def iStr (tl : TE) : TI:=fun σ H R => tl σ H fun v H1 => ∃ x : Str, v = .str x ∧ x.cps.all (· < 128) = true ∧ R (Its x) H1
section
variable {X : Cx} {EX : EXT} {tg e : Expr} {f : DE}
theorem pi_strs {l : Expr} {tl : TE} (hl : PE X l tl) : PI X tg l (iStr tl):=by
 intro pins s σ H R I h
 refine thn (hl pins s σ H _ I h) fun v s1 ⟨y, H1, I1, r1, q1⟩ => ?_
 obtain ⟨x, e, ha, q⟩:=q1
 subst e
 obtain ⟨t, rfl⟩:=r1
 refine wpAny_pyIter_ascii ha ?_
 refine ⟨s1.heap.objs.size, [s1.heap.objs.size], _, _, H1, rfl, I1.kept (t':=s1.toks) fun b o e => Heap.get?_push_of_some _ e, turn_str x t _, ⟨_, Heap.get?_push_size _ rfl, rfl, rfl⟩, fun b hb => ?_, q⟩
 have e : b = s1.heap.objs.size:=by simpa using hb
 subst e
 exact I1.fpOk (Nat.le_refl _) (I1.hok.fresh (Nat.le_refl _))
noncomputable def signs (x : Str) : List Str:=x.cps.toList.map fun c => ⟨#[c]⟩
noncomputable def dSigns (f : DE) : DI:=fun ρ st => (f ρ st).bind fun d st1 => match d with
 | .str x => if x.cps.all (· < 128) = true then .ok ((signs x).map D.str, fun _ => True) st1 else .bad
 | _ => .bad
theorem it_str {K : PySem.W.Frag} {O : List Addr} {H : Hp} {x : Str} {P : Sto → Prop} : ItD K (Its x) O H ((signs x).map D.str, P):=by
 intro i O' H' st' kp W' hp
 refine ⟨fun d hd => ?_, fun hl => (show x.cps.size ≤ i by simpa [signs] using hl)⟩
 have hi : i < x.cps.size:=by
  have:=(List.getElem?_eq_some_iff.mp hd).1
  simpa [signs] using this
 have e : d = D.str ⟨#[x.cps[i]'hi]⟩:=by
  simp [signs, hi] at hd
  exact hd.symm
 subst e
 refine ⟨hi, ?_⟩
 rintro v H2 ⟨rfl, c, hc, rfl⟩
 rw [Array.getElem?_eq_getElem hi] at hc
 cases hc
 exact ⟨Keep.refl, W', Rep.str_i.mpr rfl⟩
theorem pid_signs (h : PD X EX e f) : PID X EX tg e (dSigns f):=by
 refine PI.mono (pi_strs h) ?_
 rintro σ H R ⟨O, ρ, st, W, E, R0⟩
 refine ⟨O, ρ, st, W, E, R0.bind.mono fun d st1 O1 H1 k1 W1 R1 v r => ?_⟩
 cases d with
 | str x =>
  dsimp only at R1
  rw [Rep.str_i] at r
  by_cases ha : x.cps.all (· < 128) = true
  ·rw [if_pos ha] at R1
   exact ⟨x, r, ha, Run.now (k:=fun q _ O' H' => ∀ J, ItD X.K J O' H' q → R J H') R1 W1 _ it_str⟩
  ·rw [if_neg ha] at R1; exact R1.elim
 | _ => exact R1.elim
end
end DL
end
section
namespace DL
open PySem PySem.Spec PyProof.Rows L2
section
variable {X : Cx} {EX : EXT} {a b c e o i : Expr} {fa fb fc fo fi : DE} {pos p p2 apos : Pos} {ta tb : DT}
noncomputable def sBad : DS:=fun _ _ => .bad
end
section
variable {X : Cx} {EX : EXT} {e o : Expr} {es : List Expr} {pos p apos : Pos} {x m : Str} {k j : Nat} {F : FD} {g : DA} {C : Addr} {fo : DE}
end
section
variable {P : Program} {w : World} {K : PySem.W.Frag} {mg : Str → Option Value} {base : Heap}
end
section
variable {ρ : Ev} {st : Sto} {f fo fi fv : DE} {da : DA} {C : Addr} {x m : Str} {F : FD}
end
end DL
end
section
namespace DL
open PySem PySem.Spec PyProof.Rows L2
noncomputable def Ite (K : PySem.W.Frag) (a : Addr) : It :=
  ⟨fun i H => ∃ xs x, SqL K H a xs ∧ xs[i]? = some x,
   fun i H v H' => ∃ p x, H p = none ∧ v = .ref p ∧ H' = upd H p (.tup [.int (i : Int), x]) ∧ ∀ xs, SqL K H a xs → xs[i]? = some x,
   fun i H => ∃ xs, SqL K H a xs ∧ xs.length ≤ i⟩
theorem turn_enum {P : Program} {w : World} {K : PySem.W.Frag} {es : List Expr} {k : Nat} {pt : Pos} (a e it : Addr) (hei : e ≠ it) :
  Turn P w K (.Tuple es k pt) (Ite K a) [e, it] e (fun i h => (∃ old, IsEnum h e it ((i : Nat) : Int) old) ∧ h.IsListIter it a i) where
 mem:=by simp
 obj:=fun i h st c hc => by
  obtain ⟨⟨old, h1⟩, o4, h4, _, d4⟩:=st
  simp only [List.mem_cons, List.not_mem_nil, or_false] at hc
  rcases hc with rfl | rfl
  ·exact ⟨_, h1, fun v z => by cases z⟩
  ·exact ⟨_, h4, fun v z => by rw [d4] at z; cases z⟩
 keep:=fun i h h' st k => by
  obtain ⟨⟨old, h1⟩, h4⟩:=st
  exact ⟨⟨old, k e (by simp) _ h1⟩, h4.at fun o q => k it (by simp) o q⟩
 item:=by
  intro X hP hw hK hc i pins s σ H E I hf st hg
  subst hP hw hK
  obtain ⟨xs, vx, q1, g1⟩:=hg
  obtain ⟨its1, r1, p1, _⟩:=I.list q1
  obtain ⟨ux, e1, rx⟩:=r1.get g1
  obtain ⟨⟨old, hz⟩, h4⟩:=st
  have fz:=hf e (by simp)
  have f1:=hf it (by simp)
  have heH : e < s.heap.objs.size:=Heap.lt_size hz
  have hiH : it < s.heap.objs.size:=by obtain ⟨o, ho, _⟩:=id h4; exact Heap.lt_size ho
  refine wpAny_pyNext_enum_item hz h4 p1.isList (by simpa using e1) hei fun h' z1 z2 z3 z4 z5 => ?_
  refine ⟨_, rfl, wpAny_letOwnedTupleGo_enum z1 fun h'' y1 y2 => ?_⟩
  replace y2 : Heap.SameBut e h' h'':=y2
  have up : ∀ c o, c ≠ e → h'.get? c = some o → h''.get? c = some o:=fun c o hce ho => (y2.2 c hce).trans ho
  have z7 : ∀ c o, c ≠ e → c ≠ it → s.heap.get? c = some o → h''.get? c = some o:=fun c o c1 c2 ho => up c o c1 (z5 c o c1 c2 ho)
  have hfr:=I.hok.fresh (Nat.le_refl s.heap.objs.size)
  have hT : h''.get? s.heap.objs.size = some { cls := .type "tuple", data := .seq #[.int (i : Int) s.toks, ux] } := up _ _ (Nat.ne_of_gt heH) z3
  refine ⟨.ref s.heap.objs.size, upd H s.heap.objs.size (.tup [.int (i : Int), vx]), ?_, rfl, ⟨s.heap.objs.size, vx, hfr, rfl, rfl, fun zs hq => by rw [I.list_inj hq q1]; exact g1⟩, ⟨⟨ux, ?_⟩, (z2.at fun o q => up _ o (Ne.symm hei) q)⟩, fun c hc => ?_⟩
  ·show Inv X pins σ _ { s with heap:=h'', toks:=s.toks + 1 }
   refine I.step (ch:=[e, it]) (g':=s.gens) (t':=s.toks + 1) (d':=s.drawn) ?_ ?_ ?_ ?_ ?_ ?_ ?_ ?_ ?_ ?_ I.bare
   ·intro c hc
    obtain ⟨k0, k1, k2, k3, k4, k5⟩:=hf c hc
    exact ⟨k3, k1, k4, k5⟩
   ·intro c o k1 k2 k3 k4 k5
    simp only [List.mem_cons, List.not_mem_nil, or_false, not_or] at k3
    exact z7 c o k3.1 k3.2 k4
   ·intro c o k1 k2 k3 k4 k5
    simp only [List.mem_cons, List.not_mem_nil, or_false, not_or] at k3
    exact ⟨o.slots, z7 c o k3.1 k3.2 k4⟩
   ·intro c o k3 k4 k5
    rw [upd_ne (Nat.ne_of_lt (Heap.lt_size k4))]
    exact k5
   ·intro c o k3 k4
    simp only [List.mem_cons, List.not_mem_nil, or_false, not_or] at k3
    exact ⟨o, z7 c o k3.1 k3.2 k4⟩
   ·intro c ws k
    rw [upd_ne (ne_of_none k hfr)]; exact k
   ·intro c ob ws k
    rw [upd_ne (ne_of_none k hfr)]; exact k
   ·intro c ps k
    exact ⟨#[], by rw [upd_ne (ne_of_none k hfr), k]; simp⟩
   ·intro m hm
    exact hm.at' fun o q => z7 _ o (Ne.symm fz.2.1) (Ne.symm f1.2.1) q
   ·intro c o q
    by_cases hcc : c = s.heap.objs.size
    ·subst hcc
     rw [upd_same] at q
     cases q
     exact ⟨(by show 2 ≤ sizeLine; rw [sizeLine_eq]; decide), [.int (i : Int) s.toks, ux], .cons ⟨_, rfl⟩ (.cons rx .nil), ⟨_, hT, rfl, _, rfl⟩, fun o2 e2 => by have e3:=e2.symm.trans hT; cases e3; rfl⟩
    ·rw [upd_ne hcc] at q
     refine (I.hok c o q).stay (fun d u hd k => ?_) (fun d k => by rw [upd_ne (ne_of_none k hfr)]; exact k) fun d ws k => by rw [upd_ne (ne_of_none k hfr)]; exact k
     have hHd : ∃ o', H d = some o':=by
      rcases hd with rfl | hd
      ·exact ⟨o, q⟩
      ·exact ⟨_, hd⟩
     obtain ⟨o', ho'⟩:=hHd
     exact z7 d u (ne_of_none ho' fz.1) (ne_of_none ho' f1.1) k
  ·have ez : (((i + 1 : Nat) : Int)) = (i : Int) + 1:=by omega
   show IsEnum h'' e it (((i + 1 : Nat) : Int)) ux
   rw [ez]
   exact y1
  ·have hcn:=(hf c hc).1
   have hlt : c < s.heap.objs.size:=by
    simp only [List.mem_cons, List.not_mem_nil, or_false] at hc
    rcases hc with rfl | rfl
    ·exact heH
    ·exact hiH
   rw [upd_ne (Nat.ne_of_lt hlt)]
   exact hcn
 done:=by
  intro X hP hw hK hc i pins s σ H E I hf st hg
  subst hP hw hK
  obtain ⟨xs, q1, g⟩:=hg
  obtain ⟨its1, r1, p1, _⟩:=I.list q1
  obtain ⟨⟨old, hz⟩, h4⟩:=st
  obtain ⟨f0, f1, f2, f3, f4, f5⟩:=hf it (by simp)
  have hl:=r1.length
  exact wpAny_pyNext_enum_end (I.ok.hd hc) hz h4 p1.isList (by simp; omega) fun h' eb => ⟨rfl, I.turned (t':=s.toks) (fun b o hb q => eb b o hb q) f0 f1 f3 f4 f5⟩
 self:=fun _ _ _ _ _ st h => by
  obtain ⟨⟨old, hz⟩, _⟩:=st
  exact wpAny_pyIter_enum hz h
section
variable {X : Cx} {EX : EXT} {es : List Expr} {k : Nat} {pt p pos : Pos} {a : Expr} {f : DE}
noncomputable def iEnum (K : PySem.W.Frag) (tl : TA) : TI:=fun σ H R => tl σ H fun vs H1 => ∃ a, vs = [.ref a] ∧ (∃ xs, SqL K H1 a xs) ∧ R (Ite K a) H1
theorem pi_enum {ta : TA} (hg : Gl X "enumerate") (hm : X.mg "enumerate" = none) (ha : PA X [a] ta) (hs : starEach [a] X.env = [(false, eval a X.env)] := by rfl) : PI X (.Tuple es k pt) (.Call (.Name "enumerate" p) [a] [] pos) (iEnum X.K ta) := by
 intro pins s σ H R I h
 refine Call_ (ld_blt I hg hm PyProof.Rows.boot_enumerate (PyProof.Rows.callWith_type1 (thn (ha pos pins s σ H _ I h) fun us s1 ⟨vs, H1, I1, r1, q1⟩ => ?_) (by rw [hs]; rfl) rfl))
 obtain ⟨pa, e, ⟨xs, h1⟩, q⟩:=q1
 subst e
 cases r1 with
 | cons r rr =>
  cases rr
  cases r
  obtain ⟨its1, v1, p1, _⟩:=I1.list h1
  refine call_enumerate_list p1.isList fun h' z1 z2 z3 z4 => ?_
  have I2 : Inv X pins σ H1 { s1 with heap:=h' }:=I1.kept (t':=s1.toks) z4
  have T:=turn_enum (P:=X.prog) (w:=X.w) (K:=X.K) (es:=es) (k:=k) (pt:=pt) pa (s1.heap.objs.size + 1) s1.heap.objs.size (Nat.ne_of_gt (Nat.lt_succ_self _))
  have st : (∃ old, IsEnum h' (s1.heap.objs.size + 1) s1.heap.objs.size ((0 : Nat) : Int) old) ∧ h'.IsListIter s1.heap.objs.size pa 0:=⟨⟨_, z1⟩, z2⟩
  refine T.self _ 0 _ _ _ st ?_
  refine ⟨_, _, _, _, H1, rfl, I2, T, st, fun c hc => ?_, q⟩
  have hle : s1.heap.objs.size ≤ c:=by
   simp only [List.mem_cons, List.not_mem_nil, or_false] at hc
   rcases hc with rfl | rfl
   ·exact Nat.le_succ _
   ·exact Nat.le_refl _
  exact I1.fpOk hle (I1.hok.fresh hle)
noncomputable def enumL (n : Nat) : List D → List D
 | [] => []
 | x :: xs => .tup [.int (n : Int), x] :: enumL (n + 1) xs
theorem enumL_get : ∀ (xs : List D) (n i : Nat), (enumL n xs)[i]? = (xs[i]?).map fun x => D.tup [.int ((n + i : Nat) : Int), x]
 | [], n, i => by simp [enumL]
 | x :: xs, n, 0 => by simp [enumL]
 | x :: xs, n, i + 1 => by
  have h : n + 1 + i = n + (i + 1):=by omega
  simp [enumL, enumL_get xs (n + 1) i, h]
theorem enumL_len : ∀ (xs : List D) (n : Nat), (enumL n xs).length = xs.length
 | [], n => rfl
 | x :: xs, n => by simp [enumL, enumL_len xs (n + 1)]
noncomputable def dEnum (f : DE) : DI:=fun ρ st => (f ρ st).bind fun d st1 => match seqL st1 d with
 | some xs => .ok (enumL 0 xs, fun st => seqL st d = some xs) st1
 | none => .bad
theorem pid_enum (hg : Gl X "enumerate") (hm : X.mg "enumerate" = none) (ha : PD X EX a f) (hs : starEach [a] X.env = [(false, eval a X.env)] := by rfl) : PID X EX (.Tuple es k pt) (.Call (.Name "enumerate" p) [a] [] pos) (dEnum f) := by
 refine PI.mono (pi_enum hg hm (pda_cons ha pda_nil (by rw [hs]; rfl)) hs) ?_
 rintro σ H R ⟨O, ρ, st, W, E, R0⟩
 have R1:=R0.bind
 refine ⟨O, ρ, st, W, E, ?_⟩
 unfold dCons dNil
 cases hf : f ρ st with
 | bad => rw [hf] at R1; exact R1.elim
 | exc c st' => rw [hf] at R1; exact R1
 | ok d st' =>
  rw [hf] at R1
  refine fun O1 H1 k1 W1 vs r => ?_
  have R2:=R1 O1 H1 k1 W1
  dsimp only at R2
  obtain ⟨v, rfl, rv⟩:=r.one_of
  cases e : seqL st' d with
  | none => rw [e] at R2; exact R2.elim
  | some xs =>
   rw [e] at R2
   obtain ⟨pa, va, rfl, q, rs⟩:=rdL W1 rv e
   refine ⟨pa, rfl, ⟨va, q⟩, Run.now (k:=fun q _ O' H' => ∀ J, ItD X.K J O' H' q → R J H') R2 W1 _ ?_⟩
   intro i O' H' st2 kp W' hp
   obtain ⟨pa', ws, e1, q', r'⟩:=rdL W' (Rep.mono kp _ _ rv) hp
   cases e1
   refine ⟨fun x hx => ?_, fun hl => ⟨ws, q', by rw [← r'.length]; rw [enumL_len] at hl; exact hl⟩⟩
   dsimp only at hx
   rw [enumL_get] at hx
   cases hz : xs[i]? with
   | none => rw [hz] at hx; cases hx
   | some y =>
    rw [hz] at hx
    simp only [Option.map_some, Option.some.injEq, Nat.zero_add] at hx
    subst hx
    obtain ⟨vy, e2, ry⟩:=r'.get hz
    refine ⟨⟨ws, vy, q', e2⟩, ?_⟩
    rintro v2 H2 ⟨p2, x', hp2, rfl, rfl, h3⟩
    have e3:=h3 ws q'
    rw [e2] at e3
    cases e3
    exact ⟨Keep.laid hp2, W'.laid hp2, Rep.tup_i.mpr ⟨p2, _, rfl, upd_same, Reps.cons_i.mpr ⟨_, _, rfl, Rep.int_i.mpr rfl, Reps.one (Rep.mono (Keep.laid hp2) _ _ ry)⟩⟩⟩
end
end DL
end
section
namespace DL
open PySem PySem.Spec PyProof.Rows L2
section
variable {X : Cx} {EX : EXT} {CX : CXT} {k j : Nat} {f C : Addr} {fd : FuncData} {ps : List Str} {sp : Sp} {E : XK} {x m : Str} {p pos apos : Pos} {e : Expr} {es : List Expr} {t : TA} {F : FD} {g : DA}
end
section
variable {X : Cx} {EX : EXT} {k j : Nat} {C : Addr} {x m : Str} {p pos apos : Pos} {e : Expr} {es : List Expr} {F : FD} {g : DA}
end
section
variable {P : Program} {w : World} {K : PySem.W.Frag} {mg : Str → Option Value} {base : Heap}
end
end DL
end
section
namespace DL
open PySem PySem.Spec PyProof.Rows L2
section
variable {X : Cx} {EX : EXT} {a b : Expr} {ta : TA} {p p2 pos pos2 : Pos} {g : DA}
end
end DL
end
section
namespace DL
open PySem PySem.Spec PyProof.Rows L2
section
variable {X : Cx} {EX : EXT}
end
end DL
end
section
namespace HT
open PySem PyProof.Rows
section
variable {prog : Program} {w : World} {A : Around} {E : Value → Shared → Prop} {s : Shared} {R : Result → Shared → Prop} {l I S : Addr}
end
end HT
namespace DL
open PySem PySem.Spec PyProof.Rows L2
section
variable {X : Cx} {EX : EXT} {a : Expr} {ta : TE} {fa : DE} {p p1 p2 kp1 kp2 pos : Pos} {j : Nat}
end
end DL
end
section
namespace DL
open PySem PySem.Spec PyProof.Rows L2
section
variable {P : Program} {w : World} {K : PySem.W.Frag} {mg : Str → Option Value} {base : Heap} {N : List Str} {qual : Str} {scope : Scope} {f : Addr} {cd : Value} {A : Around} {outer : List Env} {s : Shared} {H : Hp} {E : XK}
end
section
variable {X : Cx} {EX : EXT} {e : Expr} {es : List Expr} {pos cpos p : Pos} {x : Str} {C : Addr} {g : DA} {B newId initId : String} {bmB : List Value}
end
section
variable {X : Cx} {EX : EXT} {e o : Expr} {es : List Expr} {pos p apos : Pos} {x m : Str} {k j : Nat} {F : FD} {g : DA} {C : Addr} {fo : DE}
end
section
variable {P : Program} {w : World} {K : PySem.W.Frag} {mg : Str → Option Value} {base : Heap}
end
end DL
end
section
namespace DL
open PySem PySem.Spec PyProof.Rows L2
noncomputable abbrev Cx.at (X : Cx) (A : Around) (pn : List (Addr × Obj)) (E : Value → Shared → Prop) : Cx:={ X with A:=A, calm:=false, pn:=pn, xe:=E }
noncomputable abbrev Cx.pinned (X : Cx) (pn : List (Addr × Obj)) (E : Value → Shared → Prop) : Cx:={ X with pn:=pn, xe:=E }
structure RoomH (k : Nat) (A : Around) : Prop where
 dp : A.depth + 3 * k + 5 < recursionLimit
 un : A.units + 16 * k + 200 < cLine
theorem RoomH.mono {j k : Nat} {A : Around} (r : RoomH k A) (h : j ≤ k) : RoomH j A:=⟨by have:=r.dp; omega, by have:=r.un; omega⟩
theorem RoomH.deeper {k : Nat} {A : Around} (r : RoomH (k + 1) A) (env : Env) : RoomH k (A.deeper env):=⟨by have:=r.dp; show A.depth + 1 + 3 * k + 5 < _; omega, by have:=r.un; show A.units + 3 + 16 * k + 200 < _; omega⟩
theorem RoomH.of {k : Nat} {A : Around} (r : Room k A) (e : Option Value) : RoomH k (A.mark e):=⟨r.dp, r.un⟩
theorem RoomH.units {k : Nat} {A : Around} (r : RoomH k A) : A.units + 64 < cLine:=by have:=r.un; omega
section
variable {P : Program} {w : World} {K : PySem.W.Frag} {mg : Str → Option Value} {base : Heap}
end
section
variable {X : Cx} {EX : EXT} {e : Expr} {es : List Expr} {pos p : Pos} {x : Str} {k j : Nat} {F : FD} {g : DA}
end
end DL
end
section
namespace DL
open PySem PySem.Spec PyProof.Rows L2
section
variable {X : Cx} {EX : EXT} {body suite : List Stmt} {b₀ : Stmt} {pos hpos np : Pos} {x n : Str} {Cb : Addr} {cs : List Addr} {g gh : DS} {i : Nat}
end
end DL
end
section
namespace DL
open PySem PySem.Spec PyProof.Rows L2
section
variable {prog : Program} {w : World} {A : Around} {E : Value → Shared → Prop} {s : Shared} {K : PySem.W.Frag} {a C : Addr}
end
section
variable {X : Cx} {EX : EXT} {e : Expr} {fa : DE} {pos p pT : Pos}
end
end DL
end
section
namespace DL
open PySem PySem.Spec PyProof.Rows L2
section
variable {X : Cx} {EX : EXT} {a b c e o : Expr} {fa fb fc fo : DE} {pos p apos cpos : Pos} {es : List Expr} {g : DA}
end
section
variable {ρ : Ev} {st : Sto} {f fo : DE} {da : DA} {g : DS} {C : Addr}
@[simp] theorem z_bind_exc {α β : Type} (c : Addr) (st : Sto) (k : α → Sto → Out β) : (Out.exc c st : Out α).bind k = .exc c st:=rfl
@[simp] theorem z_to_exc {α : Type} (c : Addr) (st : Sto) (k : α → Sto → OutS) : (Out.exc c st : Out α).to k = .exc c st:=rfl
end
noncomputable def forBody : Stmt → List Stmt
 | .For _ _ b _ _ => b
 | _ => []
end DL
end
section
namespace DL
open PySem PySem.Spec PyProof.Rows L2
section
variable {X : Cx} {EX : EXT} {pos p : Pos} {x : Str} {k j : Nat} {F : FD}
end
theorem us1 {P : List Value → Prop} (h : ∀ a, P [a]) : ∀ us : List Value, us.length = 1 → P us
 | [a], _ => h a
theorem us2 {P : List Value → Prop} (h : ∀ a b, P [a, b]) : ∀ us : List Value, us.length = 2 → P us
 | [a, b], _ => h a b
theorem us3 {P : List Value → Prop} (h : ∀ a b c, P [a, b, c]) : ∀ us : List Value, us.length = 3 → P us
 | [a, b, c], _ => h a b c
end DL
end
section
namespace SO
open PySem PySem.W PyProof.Rows
noncomputable def ok {α : Type} (n : Nat) (lt : Nat → Nat → Bool) : KasT α → (α → Prop) → Prop
 | .ret a, Q => Q a
 | .ask i j k, Q => i < n ∧ j < n ∧ ok n lt (k (lt i j)) Q
section
variable {α β : Type} {n : Nat} {lt : Nat → Nat → Bool}
end
structure Ord (n : Nat) (lt : Nat → Nat → Bool) : Prop where
 tot : ∀ i j, i < n → j < n → i ≠ j → lt i j = false → lt j i = true
 asy : ∀ i j, i < n → j < n → lt i j = true → lt j i = false
 trn : ∀ i j k, i < n → j < n → k < n → lt i j = true → lt j k = true → lt i k = true
noncomputable def Al (n : Nat) (p : Array Nat) : Prop:=p.toList.Perm (List.range n)
noncomputable abbrev G (p : Array Nat) (i : Nat) : Nat:=p.getD i 0
section
variable {n : Nat} {lt : Nat → Nat → Bool} {p : Array Nat}
theorem Al.size (h : Al n p) : p.size = n:=by have:=h.length_eq; simpa using this
theorem G_eq (i : Nat) (h : i < p.size) : G p i = p[i]:=by simp [G, Array.getD, h]
theorem Al.bel (h : Al n p) (i : Nat) (hn : 0 < n) : G p i < n:=by
 by_cases hi : i < p.size
 ·rw [G_eq i hi]
  have : p[i] ∈ p.toList:=by simp
  have:=h.mem_iff.mp this
  simpa using this
 ·simp [G, Array.getD, hi, hn]
theorem Al.inj (h : Al n p) {i j : Nat} (hi : i < n) (hj : j < n) (ne : i ≠ j) : G p i ≠ G p j:=by
 have nd : p.toList.Nodup:=h.nodup_iff.mpr List.nodup_range
 have hs:=h.size
 rw [G_eq i (by omega), G_eq j (by omega)]
 intro e
 have:=(List.getElem_inj (i:=i) (j:=j) (h₀:=by simpa using (by omega : i < p.size)) (h₁:=by simpa using (by omega : j < p.size)) nd).mp (by simpa using e)
 exact ne this
noncomputable def SP (lt : Nat → Nat → Bool) (p : Array Nat) (k : Nat) : Prop:=∀ i j, i < j → j < k → lt (G p i) (G p j) = true
noncomputable def DP (lt : Nat → Nat → Bool) (p : Array Nat) (k : Nat) : Prop:=∀ i j, i < j → j < k → lt (G p j) (G p i) = true
theorem SP.one : SP lt p 1:=fun i j h1 h2 => by omega
theorem SP.next (O : Ord n lt) (h : Al n p) {m : Nat} (h1 : 1 ≤ m) (hm : m < n) (s : SP lt p m) (e : lt (G p (m - 1)) (G p m) = true) : SP lt p (m + 1):=by
 intro i j hij hj
 by_cases hjm : j < m
 ·exact s i j hij hjm
 ·have : j = m:=by omega
  subst this
  by_cases hi : i = j - 1
  ·subst hi; exact e
  ·exact O.trn _ _ _ (h.bel _ (by omega)) (h.bel _ (by omega)) (h.bel _ (by omega)) (s i (j - 1) (by omega) (by omega)) e
theorem DP.next (O : Ord n lt) (h : Al n p) {m : Nat} (h1 : 1 ≤ m) (hm : m < n) (s : DP lt p m) (e : lt (G p m) (G p (m - 1)) = true) : DP lt p (m + 1):=by
 intro i j hij hj
 by_cases hjm : j < m
 ·exact s i j hij hjm
 ·have : j = m:=by omega
  subst this
  by_cases hi : i = j - 1
  ·subst hi; exact e
  ·exact O.trn _ _ _ (h.bel _ (by omega)) (h.bel _ (by omega)) (h.bel _ (by omega)) e (s i (j - 1) (by omega) (by omega))
end
end SO
end
section
set_option maxHeartbeats 2000000
namespace SO
open PySem PySem.W PyProof.Rows
theorem SP.pw {n : Nat} {lt : Nat → Nat → Bool} {p : Array Nat} (h : Al n p) (s : SP lt p n) : p.toList.Pairwise (fun i j => lt i j = true):=by
 rw [List.pairwise_iff_getElem]
 intro i j hi hj hij
 have hs:=h.size
 simp only [Array.length_toList] at hi hj
 have:=s i j hij (by omega)
 rw [G_eq i hi, G_eq j hj] at this
 simpa using this
section
variable {prog : Program} {w : World} {A : Around} {E : Value → Shared → Prop} {s : Shared}
end
end SO
end
section
set_option maxHeartbeats 2000000
namespace DL
open PySem PySem.Spec PyProof.Rows L2 PySem.W
section
variable {X : Cx} {EX : EXT}
end
end DL
namespace DL
open PySem PySem.Spec PyProof.Rows L2
section
variable {X : Cx} {EX : EXT} {e : Expr} {pos : Pos}
end
end DL
end
section
set_option maxHeartbeats 2000000
namespace HT
open PySem PySem.Builtin PySem.Builtin.Str
section
variable {prog : Program} {w : World} {A : Around} {E : Value → Shared → Prop} {s : Shared} {x y : Str} {t u : Tok} {Q : Value → Shared → Prop}
end
end HT
namespace DL
open PySem PySem.Spec PyProof.Rows L2
section
variable {X : Cx} {EX : EXT} {o a e : Expr} {es : List Expr} {fo fa : DE} {g : DA} {cpos apos : Pos}
theorem str_reps {K : PySem.W.Frag} {O : List Addr} {H : Hp} : ∀ (l : List Str), Reps K O H (l.map D.str) (l.map V.str)
 | [] => Reps.nil_i.mpr rfl
 | x :: l => Reps.cons_i.mpr ⟨_, _, rfl, Rep.str_i.mpr rfl, str_reps l⟩
end
end DL
namespace DL
open PySem PySem.Spec PyProof.Rows L2
end DL
end
section
namespace L2
open PySem PySem.Spec PyProof.Rows
end L2
namespace L2
open PySem PySem.Spec PyProof.Rows
section
variable (P : Program) (w : World)
end
section
variable {P : Program} {w : World} {H H' : Hp} {h h' : Heap} {a : Addr} {o : HO}
end
section
variable {P : Program} {w : World} {H : Hp} {h h' : Heap} {x e : Addr} {o' : HO}
end
section
variable {fs fs' ex ex' : List Addr} {H H1 H2 : Hp} {h h1 h2 h' : Heap} {a x e : Addr} {o : HO}
end
end L2
namespace L2
open PySem PySem.Spec PyProof.Rows
section
variable {X : Cx} {pins : List (Addr × Obj)} {σ : List (Option V)} {H H' : Hp} {s : Shared} {h' : Heap}
end
end L2
namespace L2
open PySem PySem.Spec PyProof.Rows
section
variable {X : Cx}
variable {a b : Expr} {ta tb : TE} {pos : Pos}
variable {tA tB' : TT} {rest : List Expr}
end
end L2
namespace L2
open PySem PySem.Spec PyProof.Rows
section
variable {X : Cx} {pins : List (Addr × Obj)} {σ : St} {H : Hp} {s : Shared} {a : Addr} {xs ys : List V}
end
section
variable {X : Cx} {pins : List (Addr × Obj)} {σ : St} {H : Hp} {s : Shared} {E : Value → Shared → Prop}
end
section
variable {X : Cx} {st : Stmt} {rest : List Stmt} {t u : TS} {e : Expr} {te : TE} {pos : Pos}
end
section
variable {X : Cx} {pos : Pos}
end
section
variable {X : Cx} {pos : Pos}
end
end L2
namespace L2
open PySem PySem.Spec PyProof.Rows
section
variable {X : Cx} {tg : Expr}
end
end L2
namespace L2
open PySem PySem.Spec PyProof.Rows
section
variable {X : Cx} {a b c : Expr} {ta tb tc : TE} {pos : Pos}
end
section
variable {X : Cx} {a b c : Expr} {ta tb tc : TE} {pos : Pos}
end
end L2
namespace L2
open PySem PySem.Spec PyProof.Rows
section
variable {prog : Program} {w : World} {A : Around} {E : Value → Shared → Prop} {s : Shared} {K : PySem.W.Frag} {x dx C f : Addr} {mA : Str → Option Value} {name : Str} {v : Value}
end
section
variable {P : Program} {w : World} {H H' : Hp} {h h' : Heap} {a C dx : Addr} {fs fs' : List (Str × V)}
end
section
variable {X : Cx} {pins : List (Addr × Obj)} {σ : St} {H : Hp} {s : Shared} {a C dx : Addr} {fs : List (Str × V)} {f : Str} {v : V} {A : Around} {E : Value → Shared → Prop}
end
section
variable {X : Cx} {o e value : Expr} {f : Str} {pos pos' tpos : Pos} {ta tv : TE}
end
section
variable {X : Cx} {pins : List (Addr × Obj)} {σ : St} {H : Hp} {s : Shared} {A : Around} {E : Value → Shared → Prop} {Q : Value → Shared → Prop} {c : Value} {b : Bool}
end
end L2
namespace L2
open PySem PySem.Spec PyProof.Rows
section
variable {X : Cx} {e : Expr} {es : List Expr} {te : TE} {t : TA} {pos : Pos}
end
section
variable {X : Cx} {pins : List (Addr × Obj)} {σ : St} {H : Hp} {s s' : Shared}
end
section
variable {X : Cx} {CX : CXT} {k : Nat} {f C : Addr} {fd : FuncData} {ps : List Str} {sp : Sp} {dvs : List V} {ds : List Value} {E : XK} {x m : Str} {p pos apos : Pos} {e o : Expr} {es : List Expr} {ta : TE} {t : TA}
end
section
variable {X : Cx} {CX : CXT} {k : Nat} {f C : Addr} {fd : FuncData} {ps ks : List Str} {sp : Sp} {E : XK} {x m : Str} {p pos apos kpos : Pos} {e o : Expr} {es : List Expr} {kws : List Keyword} {te ta : TE} {t tk : TA} {nm : Option Str}
variable {g : List Value → List Value → List Value} {gV : List V → List V → List V}
end
end L2
namespace L2
open PySem PySem.Spec PyProof.Rows
section
variable {X : Cx} {x : Str} {p pos : Pos} {e : Expr} {es : List Expr} {t : TA} {id T : String} {r : List V → Hp → VK → Prop}
end
end L2
namespace L2
open PySem PySem.Spec PyProof.Rows
section
variable {κ : Type} [DecidableEq κ]
noncomputable def valV (kvs : List (κ × V)) (k : κ) : Option V:=(kvs.find? fun kv => decide (kv.1 = k)).map (·.2)
noncomputable def putK (kvs : List (κ × V)) (k : κ) (v : V) : List (κ × V) :=
 if (kvs.any fun kv => decide (kv.1 = k)) = true then kvs.map (fun kv => if kv.1 = k then (kv.1, v) else kv) else kvs ++ [(k, v)]
noncomputable def dropK (kvs : List (κ × V)) (k : κ) : List (κ × V):=kvs.filter fun kv => decide (kv.1 ≠ k)
theorem valV_pos {p : κ × V} {r : List (κ × V)} {k : κ} (e : p.1 = k) : valV (p :: r) k = some p.2:=by simp [valV, List.find?_cons, e]
theorem valV_neg {p : κ × V} {r : List (κ × V)} {k : κ} (e : ¬ p.1 = k) : valV (p :: r) k = valV r k:=by simp [valV, List.find?_cons, e]
theorem valV_any (k : κ) : ∀ kvs : List (κ × V), (kvs.any fun kv => decide (kv.1 = k)) = (valV kvs k).isSome
 | [] => rfl
 | p :: r => by
  rw [List.any_cons]
  by_cases e : p.1 = k
  ·simp only [valV_pos e, decide_eq_true e, Bool.true_or, Option.isSome_some]
  ·rw [valV_neg e, decide_eq_false e, Bool.false_or]; exact valV_any k r
theorem RelO.isSome_eq {o : Option V} {u : Option Value} (r : RelO o u) : o.isSome = u.isSome:=by
 cases o with
 | none => cases u with
  | none => rfl
  | some _ => exact (show False from r).elim
 | some _ => cases u with
  | none => exact (show False from r).elim
  | some _ => rfl
theorem RelO.getD {o : Option V} {u : Option Value} {d : V} {d' : Value} (r : RelO o u) (rd : RelV d d') : RelV (o.getD d) (u.getD d'):=by
 cases o with
 | none => cases u with
  | none => exact rd
  | some _ => exact (show False from r).elim
 | some _ => cases u with
  | none => exact (show False from r).elim
  | some _ => exact r
theorem KV.val {kvs : List (κ × V)} {vs : List (κ × Value)} (r : KV kvs vs) (k : κ) : RelO (valV kvs k) (valueAt vs k):=by
 unfold KV at r
 induction r with
 | nil => exact True.intro
 | @cons p q ps qs h t ih =>
  obtain ⟨h1, h2⟩:=h
  by_cases e : p.1 = k
  ·have e' : q.1 = k:=h1.symm.trans e
   have b : valueAt (q :: qs) k = some q.2:=by simp [valueAt, List.find?_cons, e']
   rw [valV_pos e, b]; exact h2
  ·have e' : ¬ q.1 = k:=fun z => e (h1.trans z)
   have b : valueAt (q :: qs) k = valueAt qs k:=by simp [valueAt, List.find?_cons, e']
   rw [valV_neg e, b]; exact ih
theorem KV.any {kvs : List (κ × V)} {vs : List (κ × Value)} (r : KV kvs vs) (k : κ) : (kvs.any fun kv => decide (kv.1 = k)) = vs.any fun kv => decide (kv.1 = k):=by
 unfold KV at r
 induction r with
 | nil => rfl
 | cons h t ih => rw [List.any_cons, List.any_cons, ih, h.1]
theorem KV.repl {kvs : List (κ × V)} {vs : List (κ × Value)} (r : KV kvs vs) (k : κ) {y : V} {u : Value} (ry : RelV y u) :
  KV (kvs.map fun kv => if kv.1 = k then (kv.1, y) else kv) (vs.map fun kv => if kv.1 = k then (kv.1, u) else kv):=by
 unfold KV at r ⊢
 induction r with
 | nil => exact .nil
 | @cons p q ps qs h t ih =>
  rw [List.map_cons, List.map_cons]
  refine .cons ?_ ih
  obtain ⟨h1, h2⟩:=h
  by_cases e : p.1 = k
  ·rw [if_pos e, if_pos (h1.symm.trans e)]; exact ⟨h1, ry⟩
  ·rw [if_neg e, if_neg (fun z => e (h1.trans z))]; exact ⟨h1, h2⟩
theorem KV.put {kvs : List (κ × V)} {vs : List (κ × Value)} (r : KV kvs vs) (k : κ) {y : V} {u : Value} (ry : RelV y u) : KV (putK kvs k y) (stored vs k u):=by
 unfold putK stored
 rw [r.any k]
 by_cases e : (vs.any fun kv => decide (kv.1 = k)) = true
 ·rw [if_pos e, if_pos e]; exact r.repl k ry
 ·rw [if_neg e, if_neg e]; exact Paired.snoc r ⟨rfl, ry⟩
theorem KV.drop {kvs : List (κ × V)} {vs : List (κ × Value)} (r : KV kvs vs) (k : κ) : KV (dropK kvs k) (without vs k):=by
 unfold KV at r ⊢
 unfold dropK without
 induction r with
 | nil => exact .nil
 | @cons p q ps qs h t ih =>
  obtain ⟨h1, h2⟩:=h
  rw [List.filter_cons, List.filter_cons]
  by_cases e : p.1 = k
  ·have a : ¬ decide (p.1 ≠ k) = true:=by simp [e]
   have b : ¬ decide (q.1 ≠ k) = true:=by simp [h1.symm.trans e]
   rw [if_neg a, if_neg b]; exact ih
  ·have e' : ¬ q.1 = k:=fun z => e (h1.trans z)
   have a : decide (p.1 ≠ k) = true:=by simp [e]
   have b : decide (q.1 ≠ k) = true:=by simp [e']
   rw [if_pos a, if_pos b]; exact .cons ⟨h1, h2⟩ ih
theorem KV.length {kvs : List (κ × V)} {vs : List (κ × Value)} (r : KV kvs vs) : kvs.length = vs.length:=Paired.length r
end
noncomputable abbrev KT (H : Hp) : List (List Key × V) → List (List Key × Addr × Value) → Prop:=Paired fun p q => p.1 = q.1 ∧ H q.2.1 = some (.tup (p.1.map kV)) ∧ RelV p.2 q.2.2
theorem KT.val {H : Hp} {kvs : List (List Key × V)} {xs : List (List Key × Addr × Value)} (r : KT H kvs xs) (k : List Key) : RelO (valV kvs k) ((atKey xs k).map (·.2)):=by
 induction r with
 | nil => exact True.intro
 | @cons p q ps qs h t ih =>
  obtain ⟨h1, _, h2⟩:=h
  by_cases e : p.1 = k
  ·have e' : q.1 = k:=h1.symm.trans e
   have b : atKey (q :: qs) k = some q.2:=by simp [atKey, List.find?_cons, e']
   rw [valV_pos e, b]; exact h2
  ·have e' : ¬ q.1 = k:=fun z => e (h1.trans z)
   have b : atKey (q :: qs) k = atKey qs k:=by simp [atKey, List.find?_cons, e']
   rw [valV_neg e, b]; exact ih
theorem KT.repl {H : Hp} {kvs : List (List Key × V)} {xs : List (List Key × Addr × Value)} (r : KT H kvs xs) (k : List Key) {y : V} {u : Value} (ry : RelV y u) :
  KT H (kvs.map fun kv => if kv.1 = k then (kv.1, y) else kv) (xs.map (putAt k u)):=by
 induction r with
 | nil => exact .nil
 | @cons p q ps qs h t ih =>
  rw [List.map_cons, List.map_cons]
  refine .cons ?_ ih
  obtain ⟨h1, h2, h3⟩:=h
  unfold putAt
  by_cases e : p.1 = k
  ·rw [if_pos e, if_pos (h1.symm.trans e)]; exact ⟨h1, h2, ry⟩
  ·rw [if_neg e, if_neg (fun z => e (h1.trans z))]; exact ⟨h1, h2, h3⟩
theorem KT.put {H : Hp} {kvs : List (List Key × V)} {xs : List (List Key × Addr × Value)} (r : KT H kvs xs) (k : List Key) {b : Addr} {y : V} {u : Value} (hb : H b = some (.tup (k.map kV))) (ry : RelV y u) :
  KT H (putK kvs k y) (storedH xs k b u):=by
 have e : (kvs.any fun kv => decide (kv.1 = k)) = (atKey xs k).isSome:=by
  rw [valV_any, (r.val k).isSome_eq, Option.isSome_map]
 unfold putK storedH
 rw [e]
 by_cases q : (atKey xs k).isSome = true
 ·rw [if_pos q, if_pos q]; exact r.repl k ry
 ·rw [if_neg q, if_neg q]; exact Paired.snoc r ⟨rfl, hb, ry⟩
section
variable {P : Program} {w : World} {H : Hp} {h : Heap} {a : Addr}
theorem rd_of {u : HO} (ok : HOk P w H h) (e : Rd H a u) : ObjOk P w H h a u:=e.ok ok
theorem dk_rd {kvs : List (Key × V)} (ok : HOk P w H h) (e : Rd H a (.dK kvs)) : kvs.length ≤ sizeLine ∧ (a == sysModules) = false ∧ ∃ vs, KV kvs vs ∧ h.DictOf (mixKind P w) a vs :=
 show ObjOk P w H h a (.dK kvs) from rd_of ok e
end
noncomputable def DGet (H : Hp) (a : Addr) (y : V) (r : Option V) : Prop :=
 (∃ kvs k, Rd H a (.dK kvs) ∧ y = kV k ∧ r = valV kvs k) ∨ ∃ kvs k b, Rd H a (.dT kvs) ∧ y = .ref b ∧ H b = some (.tup (k.map kV)) ∧ r = valV kvs k
noncomputable def DPut (H : Hp) (a : Addr) (y v : V) (H' : Hp) : Prop :=
 (∃ kvs k, H a = some (.dK kvs) ∧ y = kV k ∧ kvs.length < sizeLine ∧ H' = upd H a (.dK (putK kvs k v))) ∨
 ∃ kvs k b, H a = some (.dT kvs) ∧ y = .ref b ∧ H b = some (.tup (k.map kV)) ∧ kvs.length < sizeLine ∧ H' = upd H a (.dT (putK kvs k v))
theorem DGet.k {H : Hp} {a : Addr} {kvs : List (Key × V)} {k : Key} (e : H a = some (.dK kvs)) : DGet H a (kV k) (valV kvs k):=.inl ⟨kvs, k, .inl e, rfl, rfl⟩
theorem DGet.t {H : Hp} {a b : Addr} {kvs : List (List Key × V)} {k : List Key} (e : H a = some (.dT kvs)) (eb : H b = some (.tup (k.map kV))) : DGet H a (.ref b) (valV kvs k):=.inr ⟨kvs, k, b, .inl e, rfl, eb, rfl⟩
theorem DPut.k {H : Hp} {a : Addr} {kvs : List (Key × V)} {k : Key} {v : V} (e : H a = some (.dK kvs)) (hl : kvs.length < sizeLine) : DPut H a (kV k) v (upd H a (.dK (putK kvs k v))):=.inl ⟨kvs, k, e, rfl, hl, rfl⟩
theorem DPut.t {H : Hp} {a b : Addr} {kvs : List (List Key × V)} {k : List Key} {v : V} (e : H a = some (.dT kvs)) (eb : H b = some (.tup (k.map kV))) (hl : kvs.length < sizeLine) :
  DPut H a (.ref b) v (upd H a (.dT (putK kvs k v))):=.inr ⟨kvs, k, b, e, rfl, eb, hl, rfl⟩
section
variable {X : Cx} {pins : List (Addr × Obj)} {σ : St} {H : Hp} {s : Shared} {a : Addr} {y v : V} {u r : Value} {o : Option V} {A : Around} {E : Value → Shared → Prop}
end
section
variable {X : Cx} {pins : List (Addr × Obj)} {σ : St} {H : Hp} {s : Shared} {a : Addr} {kvs : List (Key × V)} {k : Key} {u : Value} {A : Around} {E : Value → Shared → Prop}
theorem d_len {Q : Value → Shared → Prop} (I : Inv X pins σ H s) (e : Rd H a (.dK kvs)) (h : ∀ t s', Inv X pins σ H s' → Q (.int kvs.length t) s') : wpAny (model X.prog X.w) A (call (.builtin "len") [.ref a]) Q E s := by
 obtain ⟨z, hd, vs, rel, dd⟩:=dk_rd I.hok e
 refine call_len_dict hd dd (by rw [← rel.length]; rw [sizeLine_eq] at z; omega) ?_
 rw [← rel.length]
 exact h _ _ (I.tok _)
end
section
variable {X : Cx} {o i e value : Expr} {pos pos' tpos : Pos} {td ty tv : TE}
end
section
variable {X : Cx} {pos : Pos}
end
section
variable {X : Cx} {pins : List (Addr × Obj)} {σ : St} {H : Hp} {s : Shared} {a : Addr} {y d : V} {u r : Value} {o : Option V} {A : Around} {E : Value → Shared → Prop}
end
section
variable {X : Cx} {o e f : Expr} {apos cpos : Pos} {td ty tx : TE}
end
section
variable {X : Cx} {pins : List (Addr × Obj)} {σ : St} {H : Hp} {s : Shared} {a : Addr} {kvs : List (Key × V)} {A : Around} {E : Value → Shared → Prop}
end
section
variable {X : Cx} {pins : List (Addr × Obj)} {σ : St} {H : Hp} {s : Shared} {a : Addr} {y : V} {u : Value} {A : Around} {E : Value → Shared → Prop}
end
end L2
namespace Att
open PySem PySem.W PySem.Calls PyProof.Rows
section
variable {prog : Program} {w : World} {A : Around} {E : Value → Shared → Prop} {s : Shared} {K : Frag}
end
end Att
namespace L2
open PySem PySem.Spec PyProof.Rows
end L2
namespace L2
open PySem PySem.Spec PyProof.Rows
end L2
namespace L2
open PySem PySem.Spec PyProof.Rows
section
variable {P : Program} {w : World} {K : PySem.W.Frag} {mg : Str → Option Value} {base : Heap}
end
section
variable {X : Cx}
theorem call_lenD : CallR X (.builtin "len") (fun xs H Q => ∃ a kvs, xs = [V.ref a] ∧ H a = some (.dK kvs) ∧ Q (.int kvs.length) H) := by
 intro pins s σ H xs us Q I r h
 obtain ⟨a, kvs, rfl, ha, q⟩:=h
 obtain ⟨u, rfl, ru⟩:=vals1 r
 cases ru
 exact d_len I (.inl ha) fun t s' I' => ⟨.int kvs.length, H, I', ⟨t, rfl⟩, q⟩
end
section
variable {κ : Type} [DecidableEq κ]
end
end L2
end
section
namespace DL
open PySem PySem.Spec PyProof.Rows L2
section
variable {κ : Type} [DecidableEq κ] (f : D → Option κ)
end
noncomputable def RelO' (K : PySem.W.Frag) (O : List Addr) (H : Hp) : Option D → Option V → Prop
 | none, none => True
 | some d, some v => Rep K O H d v
 | _, _ => False
section
variable {κ : Type} [DecidableEq κ] {f : D → Option κ} {K : PySem.W.Frag} {O : List Addr} {H : Hp}
theorem RelO'.isSome {a : Option D} {b : Option V} (h : RelO' K O H a b) : b.isSome = a.isSome:=by
 cases a <;> cases b <;> first | rfl | exact h.elim
end
section
variable {X : Cx} {EX : EXT} {a b c e o i : Expr} {fa fb fc fo fi fv : DE} {pos p p2 apos cpos : Pos}
end
section
variable {X : Cx} {EX : EXT} {e o : Expr} {fa fo : DE} {pos : Pos} {C : Addr} {x : Str}
end
section
variable {fo fi fv : DE} {ρ : Ev} {st : Sto} {C : Addr} {x : Str}
end
end DL
end
section
set_option maxHeartbeats 2000000
namespace SO
open PySem PySem.W PyProof.Rows
section
variable {prog : Program} {w : World} {A : Around} {E : Value → Shared → Prop} {s : Shared}
end
end SO
namespace DL
open PySem PySem.Spec PyProof.Rows L2 PySem.W SO
section
variable {X : Cx} {EX : EXT}
end
end DL
end
section
set_option maxHeartbeats 2000000
namespace DL
open PySem PySem.Spec PyProof.Rows L2
section
variable {K : PySem.W.Frag} {O : List Addr} {H : Hp}
noncomputable def RPs (K : PySem.W.Frag) (O : List Addr) (H : Hp) : List (D × D) → List (V × V) → Prop
 | [], vs => vs = []
 | p :: ps, vs => ∃ x y r, vs = (x, y) :: r ∧ Rep K O H p.1 x ∧ Rep K O H p.2 y ∧ RPs K O H ps r
theorem RPs.mono {O' : List Addr} {H' : Hp} (k : Keep K O H O' H') : ∀ {ps : List (D × D)} {vs : List (V × V)}, RPs K O H ps vs → RPs K O' H' ps vs
 | [], vs, h => h
 | p :: ps, vs, h => by
  obtain ⟨x, y, r, e, hx, hy, ht⟩:=(show ∃ x y r, vs = (x, y) :: r ∧ Rep K O H p.1 x ∧ Rep K O H p.2 y ∧ RPs K O H ps r from h)
  exact ⟨x, y, r, e, Rep.mono k _ _ hx, Rep.mono k _ _ hy, RPs.mono k ht⟩
end
section
variable {X : Cx} {EX : EXT} {e o i : Expr} {fo fi fe : DE} {pos apos cpos : Pos}
end
section
variable {fo fi fe : DE} {ρ : Ev} {st : Sto}
end
end DL
end
section
set_option maxHeartbeats 2000000
namespace HT
open PySem PyProof.Rows
section
variable {prog : Program} {w : World} {A : Around} {E : Value → Shared → Prop} {s : Shared} {l : Addr} {vs : List Value}
end
end HT
namespace DL
open PySem PySem.Spec PyProof.Rows L2
section
variable {X : Cx} {EX : EXT}
end
end DL
namespace DL
open PySem PySem.Spec PyProof.Rows L2
section
variable {X : Cx} {EX : EXT} {pos : Pos}
end
end DL
namespace DL
open PySem PySem.Spec PyProof.Rows L2
end DL
end
section
set_option maxHeartbeats 2000000
namespace L2
open PySem PySem.Spec PyProof.Rows
section
variable {X : Cx} {tg : Expr}
end
end L2
namespace DL
open PySem PySem.Spec PyProof.Rows L2
section
variable {X : Cx} {EX : EXT} {tg a b c : Expr} {g : DA} {pos p : Pos}
end
end DL
end
section
namespace DL
open PySem PySem.Spec PyProof.Rows L2
section
variable {X : Cx} {EX : EXT} {e : Expr} {fa : DE} {pos p pT : Pos} {C : Addr}
end
end DL
end
section
namespace DL
open PySem PySem.Spec PyProof.Rows L2
section
variable {X : Cx} {pins : List (Addr × Obj)} {σ : L2.St} {H : Hp} {s : Shared} {d : Addr} {o : Obj} {vs : List (Key × V)}
theorem Inv.thaw (I : Inv X pins σ H s) (e : H d = some (.frz o (.dK vs))) (hn : ∀ ob u, X.H₀ d ≠ some (.frz ob u)) : Inv X pins σ (upd H d (.dK vs)) s:=by
 have ne : ∀ b, H b = none → b ≠ d:=fun b q z => by subst z; rw [e] at q; cases q
 refine ⟨I.ok, I.os, I.bare, ⟨I.base.keep, I.base.slot, fun b ob q n hx => ?_, I.base.there, fun b xs q => ?_, fun b ob u q => ?_, fun b ps q => ?_⟩, I.loc, I.cell, ?_, fun x c hx => ?_, fun p hp => ?_, fun b u q => ?_, I.len⟩
 ·have:=I.base.free b ob q n hx
  rw [upd_ne (ne b this)]; exact this
 ·have h:=I.base.tups b xs q
  rw [upd_ne]; exact h
  rintro rfl; rw [e] at h; cases h
 ·have h:=I.base.frzs b ob u q
  rw [upd_ne]; exact h
  rintro rfl; exact hn _ _ q
 ·obtain ⟨m, h⟩:=I.base.tbls b ps q
  refine ⟨m, ?_⟩
  rw [upd_ne]; exact h
  rintro rfl; rw [e] at h; cases h
 ·have:=I.free
  rw [upd_ne (ne _ this)]; exact this
 ·have:=I.freeC x c hx
  rw [upd_ne (ne _ this)]; exact this
 ·obtain ⟨p1, p2, p3⟩:=I.pin p hp
  exact ⟨p1, by rw [upd_ne (ne _ p2)]; exact p2, p3⟩
 ·have st : ∀ {b u}, ObjOk X.prog X.w H s.heap b u → ObjOk X.prog X.w (upd H d (.dK vs)) s.heap b u:=fun x => x.stay (fun b u _ q => q) (fun c r => by rw [upd_ne (fun z => by rw [z, e] at r; cases r)]; exact r) fun c xs r => by rw [upd_ne (fun z => by rw [z, e] at r; cases r)]; exact r
  by_cases hb : b = d
  ·subst hb
   rw [upd_same] at q
   cases q
   exact st (I.hok b _ e).2
  ·rw [upd_ne hb] at q
   exact st (I.hok b u q)
end
section
variable {X : Cx} {EX : EXT} {caps : List Nat} {nT : Nat} {tg iter : Expr} {f : DE} {t : TgD} {cond : DT} {fe : DE}
end
end DL
end
section
namespace DL
open PySem PySem.Spec PyProof.Rows L2
section
variable {M : Model} {A : Around} {E : Value → Shared → Prop} {s : Shared} {base : Heap} {env : Env} {outer : List Env} {L e : Addr} {cls a0 fl : Value}
end
section
variable {X : Cx} {EX : EXT} {pins : List (Addr × Obj)} {σ : L2.St} {H : Hp} {s : Shared}
end
section
variable {prog : Program} {w : World} {A : Around} {E : Value → Shared → Prop} {R : Result → Shared → Prop} {s : Shared}
end
section
variable {X : Cx} {pins : List (Addr × Obj)} {σ : L2.St} {H : Hp} {s : Shared} {scope : Scope} {N : List Str} {fp : List Addr}
end
section
variable {X : Cx} {EX : EXT} {scope : Scope} {N : List Str} {caps : List Nat} {nT : Nat} {elt tg iter : Expr} {ifs : List Expr} {pos : Pos} {f : DI} {t : TgD} {cond : DT} {fe : DE}
end
end DL
namespace DL
open PySem PySem.Spec PyProof.Rows L2
section
variable {X : Cx} {EX : EXT} {e o : Expr} {es : List Expr} {pos p apos : Pos} {x m : Str} {k j : Nat} {F : FD} {g : DA} {C : Addr} {fo : DE}
end
end DL
end
section
namespace DL
open PySem PySem.Spec PyProof.Rows L2
theorem vals_rev : ∀ {xs : List V} {us : List Value}, Vals xs us → Vals xs.reverse us.reverse
 | _, _, .nil => .nil
 | _, _, .cons r t => by
  rw [List.reverse_cons, List.reverse_cons]
  exact (vals_rev t).append (.cons r .nil)
theorem reps_rev {K : PySem.W.Frag} {O : List Addr} {H : Hp} : ∀ {ds : List D} {vs : List V}, Reps K O H ds vs → Reps K O H ds.reverse vs.reverse
 | [], vs, h => by
  have e : vs = []:=by unfold Reps at h; exact h
  subst e
  exact h
 | d :: ds, vs, h => by
  unfold Reps at h
  obtain ⟨v, r, rfl, h1, h2⟩:=h
  rw [List.reverse_cons, List.reverse_cons]
  exact (reps_rev h2).append (Reps.one h1)
section
variable {X : Cx} {EX : EXT} {e k : Expr} {pos p2 : Pos} {fa fk : DE}
end
end DL
end
section
namespace DL
open PySem PySem.Spec PyProof.Rows L2
theorem lay_led (t : SetTable) (es : Array (Int × Value)) (h : Int) (x : Value) : (layNew t es h x).2.1.led = t.led ∧ ((layNew t es h x).2.1.plain = true → t.plain = true):=by
 unfold layNew
 cases t.freeSlot h with
 | none => exact ⟨rfl, fun z => by cases z⟩
 | some p =>
  obtain ⟨j, d⟩:=p
  dsimp only
  unfold SetTable.orStandIn
  split
  ·exact ⟨rfl, fun z => z⟩
  ·exact ⟨rfl, fun z => by cases z⟩
theorem laid_led {mask finger moves : Nat} {led plain : Bool} {hs : Array Int} {t : SetTable} {o : Array Nat} (h : SetTable.laid mask finger moves led plain hs = some (t, o)) : t.led = led ∧ t.plain = plain:=by
 unfold SetTable.laid at h
 cases hc : SetTable.layClean mask hs with
 | none => rw [hc] at h; cases h
 | some ow =>
  rw [hc] at h
  have h':=Option.some.inj h
  cases h'
  exact ⟨rfl, rfl⟩
theorem relay_led (t : SetTable) (es : Array (Int × Value)) (k : Nat) : (relayAll t es k).2.1.led = t.led ∧ ((relayAll t es k).2.1.plain = true → t.plain = true):=by
 unfold relayAll
 cases hr : t.relaid (es.map (·.1)) k with
 | none => exact ⟨rfl, fun z => by cases z⟩
 | some p =>
  obtain ⟨t', o⟩:=p
  obtain ⟨h1, h2⟩:=laid_led hr
  dsimp only
  split
  ·exact ⟨h1, fun z => by rw [← h2]; exact z⟩
  ·exact ⟨rfl, fun z => by cases z⟩
noncomputable def byT (w : World) : Bool := w.params.followText "set-order"
structure TabT (w : World) (t : SetTable) (n : Nat) : Prop where
 fits : t.fits n = true
 led : t.led = !byT w
 plain : t.plain = true → n = 0
section
variable (prog : Program) (w : World)
noncomputable def SetT (h : Heap) (a : Addr) (xs : List Str) : Prop :=
 ∃ o es ep t, h.get? a = some o ∧ o.ExactSet ∧ o.data = .set es ep t ∧ TabT w t es.size ∧ ElemsOf (strKind prog w) es.toList ∧ StrsAre (es.toList.map (·.2)) xs ∧ xs.Nodup ∧ es.size < scanBound
end
section
variable {prog : Program} {w : World} {A : Around} {E : Value → Shared → Prop} {s : Shared} {a : Addr}
end
end DL
end
section
namespace DL
open PySem PySem.Spec PyProof.Rows L2
section
variable {prog : Program} {w : World} {A : Around} {E : Value → Shared → Prop} {s : Shared} {a : Addr}
end
end DL
end
section
namespace DL
open PySem PySem.Spec PyProof.Rows L2
namespace SF
end SF
section
variable {prog : Program} {w : World} {A : Around} {E : Value → Shared → Prop} {s : Shared} {a : Addr}
structure ItS (h : Heap) (I a : Addr) (o : Obj) (n ep : Nat) (first : Value) (i : Nat) : Prop where
 it : ∃ oI, h.get? I = some oI ∧ oI.cls = .type "set_iterator" ∧ oI.data = .fields #[first, .int i 0, .ref a, .int n 0, .int ep 0]
 st : h.get? a = some o
theorem ItS.typeIs {o : Obj} {n ep i : Nat} {first : Value} {I : Addr} (x : ItS s.heap I a o n ep first i) : s.TypeIs (.ref I) "set_iterator" := by
 obtain ⟨⟨oI, h1, h2, _⟩, _⟩:=x
 exact ⟨oI, h1, h2⟩
end
end DL
end
section
namespace DL
open PySem PySem.Spec PyProof.Rows L2
namespace SF
end SF
section
variable {prog : Program} {w : World} {A : Around} {E : Value → Shared → Prop} {s : Shared} {a : Addr}
end
end DL
end
section
set_option maxHeartbeats 1000000
namespace DL
open PySem PySem.Spec PyProof.Rows L2
section
variable {prog : Program} {w : World} {A : Around} {E : Value → Shared → Prop} {s : Shared} {a : Addr}
end
end DL
end
section
set_option maxHeartbeats 1000000
namespace DL
open PySem PySem.Spec PyProof.Rows L2 PySem.W SO
section
variable {prog : Program} {w : World} {A : Around} {E : Value → Shared → Prop} {s : Shared} {a : Addr}
theorem SetT.kept {h h' : Heap} {xs : List Str} (x : SetT prog w h a xs) (hk : ∀ b o, h.get? b = some o → h'.get? b = some o) : SetT prog w h' a xs:=by
 obtain ⟨o, es, ep, t, ho, r⟩:=x
 exact ⟨o, es, ep, t, hk _ _ ho, r⟩
theorem SetT.typeIs {xs : List Str} (x : SetT prog w s.heap a xs) : s.TypeIs (.ref a) "set" := by
 obtain ⟨o, es, ep, t, ho, hx, _⟩:=x
 exact ⟨o, ho, hx.1⟩
theorem SetT.len {h : Heap} {xs : List Str} (x : SetT prog w h a xs) : xs.length < scanBound ∧ xs.Nodup ∧ a < h.objs.size:=by
 obtain ⟨o, es, ep, t, ho, hx, hd, hT, hel, hs, hn, hb⟩:=x
 have:=hs.length
 rw [List.length_map, Array.length_toList] at this
 exact ⟨by omega, hn, Heap.lt_size ho⟩
end
end DL
end
section
set_option maxHeartbeats 1000000
namespace DL
open PySem PySem.Spec PyProof.Rows L2 PySem.W SO
section
variable {prog : Program} {w : World} {A : Around} {E : Value → Shared → Prop} {s : Shared} {a : Addr}
end
section
variable {X : Cx} {EX : EXT} {pins : List (Addr × Obj)} {σ : L2.St} {H : Hp} {s : Shared}
end
end DL
end
section
set_option maxHeartbeats 1000000
namespace DL
open PySem PySem.Spec PyProof.Rows L2
namespace SF
end SF
section
variable {prog : Program} {w : World} {A : Around} {E : Value → Shared → Prop} {s : Shared}
end
section
variable {X : Cx} {EX : EXT} {pins : List (Addr × Obj)} {σ : L2.St} {H : Hp} {s : Shared} {O : List Addr}
end
end DL
end
section
set_option maxHeartbeats 1000000
namespace DL
open PySem PySem.Spec PyProof.Rows L2
theorem adj_rev (n : Nat) : Builtin.Slice.sliceAdjust none none (-1) (n : Int) = ((n : Int) - 1, -1):=by
 unfold Builtin.Slice.sliceAdjust
 simp
theorem plc_rev (n : Nat) : Builtin.Slice.slicePlaces ((n : Int) - 1) (-1) (-1) = n:=by
 unfold Builtin.Slice.slicePlaces
 have h1 : ¬ ((-1 : Int) > 0):=by omega
 simp only [h1, if_false]
 by_cases h : (n : Int) - 1 > -1
 ·rw [if_pos h, show (- -1 : Int) = 1 by decide, Int.ediv_one]
  omega
 ·rw [if_neg h]
  omega
theorem pick_rev (xs : Array Value) : ((List.range xs.size).filterMap fun (k : Nat) => xs[(((xs.size : Int) - 1) + (k : Int) * (-1)).toNat]?) = xs.toList.reverse:=by
 have e : ∀ k ∈ List.range xs.size, (fun (k : Nat) => xs[(((xs.size : Int) - 1) + (k : Int) * (-1)).toNat]?) k = some (xs.toList.reverse.getD k .none):=by
  intro k hk
  have hk' : k < xs.size:=by simpa using hk
  have e1 : (((xs.size : Int) - 1) + (k : Int) * (-1)).toNat = xs.size - 1 - k:=by omega
  dsimp only
  rw [e1, Array.getElem?_eq_getElem (by omega), List.getD_eq_getElem?_getD, List.getElem?_reverse (by simpa using hk'), Array.getElem?_toList, Array.length_toList, Array.getElem?_eq_getElem (by omega)]
  rfl
 have cg : ∀ (l : List Nat), (∀ k ∈ l, (fun (k : Nat) => xs[(((xs.size : Int) - 1) + (k : Int) * (-1)).toNat]?) k = some (xs.toList.reverse.getD k .none)) → l.filterMap (fun (k : Nat) => xs[(((xs.size : Int) - 1) + (k : Int) * (-1)).toNat]?) = l.map fun k => xs.toList.reverse.getD k .none:=by
  intro l
  induction l with
  | nil => intro _; rfl
  | cons a l ih =>
   intro h
   rw [List.filterMap_cons, List.map_cons, ← ih fun k hk => h k (List.mem_cons_of_mem _ hk)]
   have:=h a List.mem_cons_self
   dsimp only at this
   rw [this]
 rw [cg _ e]
 refine List.ext_getElem (by simp) fun i h1 h2 => ?_
 simp [List.getD_eq_getElem?_getD, List.getElem?_eq_getElem h2]
section
variable {prog : Program} {w : World} {A : Around} {E : Value → Shared → Prop} {s : Shared}
theorem tup_rev {t sl : Addr} {items : Array Value} {u : Tok} {Q : Value → Shared → Prop} (ht : IsTup s.heap t items) (hs : s.heap.IsSliceOf sl .none .none (.int (-1) u))
  (h : Q (.ref s.heap.objs.size) { s with heap := s.heap.push { cls := .type "tuple", data := .seq items.toList.reverse.toArray } })
  (hsz : items.size ≤ sizeLine) : wpAny (model prog w) A (getItem (.ref t) (.ref sl)) Q E s:=by
 have hrev : sizeOk (.seq items.toList.reverse.toArray):=by
  show items.toList.reverse.toArray.size ≤ sizeLine
  rw [List.size_toArray, List.length_reverse, Array.length_toList]
  exact hsz
 obtain ⟨os, hos, hcs, hds⟩:=id hs
 have hTs : s.TypeIs (.ref sl) "slice" := ⟨os, hos, hcs⟩
 unfold getItem
 try with_reducible refine wpAny_holding ?_
 first | refine wpAny_bind (wpAny_pure ?_) | skip
 refine wpAny_bind (wpAny_sequenceKey ht.typeIs (by decide) ?_)
 refine wpAny_bind (wpAny_callSpecial?_slot (name := Str.ofString "__getitem__") ht.typeIs slot_tuple_getitem
  (wpAny_call_entry slot_tuple_getitem ht.typeIs entry_tuple_getitem ?_ (args_tuple_getitem _ _)))
 show wpAny _ _ (Builtin.Tuple.tupleItemsOf (.ref t) >>= _) _ _ s
 refine wpAny_bind (tupleItemsOf_ ht (wpAny_bind (wpAny_typeOf hTs ?_)))
 rw [if_pos (by decide)]
 have happ : ∀ {Q : Int × Int × Nat → Shared → Prop} {E : Value → Shared → Prop} {A : Around}, Q ((items.size : Int) - 1, -1, items.size) s → wpAny (model prog w) A (Builtin.Slice.sliceApplied (.ref sl) (pure (items.size : Int))) Q E s:=by
  intro Q E A hq
  unfold Builtin.Slice.sliceApplied Builtin.Slice.sliceFields
  refine wpAny_bind (wpAny_bind (wpAny_field hos hds (x:=.none) rfl (wpAny_bind (wpAny_field hos hds (x:=.none) rfl (wpAny_bind (wpAny_field hos hds (x:=.int (-1) u) rfl (wpAny_pure ?_)))))))
  refine wpAny_bind (slicePart_int ?_)
  show wpAny _ _ (if ((-1 : Int) == 0) = true then _ else _) _ _ s
  rw [if_neg (by decide)]
  refine wpAny_bind (slicePart_none (wpAny_bind (slicePart_none (wpAny_bind (wpAny_pure ?_)))))
  show wpAny _ _ (match Builtin.Slice.sliceAdjust none none (-1) (items.size : Int) with | (lo, hi) => pure (lo, (-1 : Int), Builtin.Slice.slicePlaces lo hi (-1))) _ _ s
  rw [adj_rev]
  show wpAny _ _ (pure ((items.size : Int) - 1, (-1 : Int), Builtin.Slice.slicePlaces ((items.size : Int) - 1) (-1) (-1))) _ _ s
  rw [plc_rev]
  exact wpAny_pure hq
 refine wpAny_bind (happ ?_)
 show wpAny _ _ (if (((items.size : Int) - 1) == 0 && (-1 : Int) == 1 && items.size == items.size) = true then _ else _) _ _ s
 rw [if_neg (by simp), pick_rev]
 first
  | exact wpAny_bind (m:=Builtin.Tuple.tupleExact _) (wpAny_newObj_type (wpAny_pure ⟨_, rfl, wpAny_pure h⟩) hrev)
  | exact wpAny_bind (m:=Builtin.Tuple.tupleExact _) (wpAny_newObj_type (wpAny_bind (wpAny_pure (wpAny_pure ⟨_, rfl, wpAny_pure h⟩))) hrev)
  | exact wpAny_bind (wpAny_bind (m:=Builtin.Tuple.tupleExact _) (wpAny_newObj_type (wpAny_pure (wpAny_pure ⟨_, rfl, wpAny_pure h⟩)) hrev))
  | exact wpAny_bind (wpAny_bind (m:=Builtin.Tuple.tupleExact _) (wpAny_newObj_type (wpAny_pure ⟨_, rfl, wpAny_pure h⟩) hrev))
end
noncomputable def revTD (x z : D) (st : Sto) : Out D:=match z with
 | .int k => if k = -1 then (match x with
  | .tup xs => .ok (.tup xs.reverse) st
  | _ => .bad) else .bad
 | _ => .bad
noncomputable def dRevT (fa fk : DE) : DE:=fun ρ st => (fa ρ st).bind fun x st1 => (fk ρ st1).bind fun z st2 => revTD x z st2
section
variable {X : Cx} {EX : EXT} {e k : Expr} {pos p2 : Pos} {fa fk : DE}
theorem pd_revT (he : PD X EX e fa) (hk : PD X EX k fk) : PD X EX (.Subscript e (.Slice none none (some k) p2) pos) (dRevT fa fk):=by
 rintro pins s σ H Q I ⟨O, ρ, st, W, E, R⟩
 refine Subscript_ (thn (he pins s σ H (fun v H1 => ∃ O1 x st1, WR X.K O1 H1 st1 ∧ REnv X.K O1 H1 ρ σ ∧ Rep X.K O1 H1 x v ∧ Run X.K EX O1 H1 ((fk ρ st1).bind fun z st2 => revTD x z st2) (Val X.K Q)) I ⟨O, ρ, st, W, E, R.bind.mono fun x st1 O1 H1 k1 W1 R1 v r => ⟨O1, x, st1, W1, E.mono k1, r, R1⟩⟩) fun v s1 h1 => ?_)
 obtain ⟨xv, H1, I1, r1, O1, x, st1, W1, E1, rx, R1⟩:=h1
 refine wpAny_Slice ?_
 rw [evalPart_none]
 refine wpAny_pure (wpAny_pure ?_)
 rw [evalPart_some]
 refine thn (hk pins s1 σ H1 (fun z H2 => ∃ O2 st2 xs, z = .int (-1) ∧ WR X.K O2 H2 st2 ∧ Rep X.K O2 H2 (.tup xs) xv ∧ Run X.K EX O2 H2 (.ok (.tup xs.reverse) st2) (Val X.K Q)) I1 ⟨O1, ρ, st1, W1, E1, R1.bind.mono fun z st2 O2 H2 k2 W2 R2 zv rz => ?_⟩) fun vk s2 h2 => ?_
 ·unfold revTD at R2
  cases z with
  | int k =>
   dsimp only at R2
   split at R2
   ·rename_i hk1
    subst hk1
    rw [Rep.int_i] at rz
    cases x with
    | tup xs => exact ⟨O2, st2, xs, rz, W2, Rep.mono k2 _ _ rx, R2⟩
    | _ => exact R2.elim
   ·exact R2.elim
  | _ => exact R2.elim
 ·obtain ⟨zv, H2, I2, rz, O2, st2, xs, rfl, W2, rx2, R2⟩:=h2
  obtain ⟨t, rfl⟩:=(show ∃ t, vk = Value.int (-1) t from rz)
  rw [Rep.tup_i] at rx2
  obtain ⟨a, vs, rfl, q, rs⟩:=rx2
  cases r1
  have I4 : Inv X pins σ H2 { s2 with heap := s2.heap.push { cls := .type "slice", data := .fields #[.none, .none, .int (-1) t] } } := I2.kept (t' := s2.toks) fun b ob q => Heap.get?_push_of_some _ q
  obtain ⟨its, r, ht, hz⟩:=I4.tuple (SqT.of q)
  have hlen:=r.length
  show wpAny (model X.prog X.w) X.A (subscriptTail e (.Slice none none (some k) p2) (.ref a) (.ref s2.heap.objs.size)) (EP X pins σ Q) X.xe { s2 with heap := s2.heap.push { cls := .type "slice", data := .fields #[.none, .none, .int (-1) t] } }
  refine tail_any (ops:=[.ref a, .ref s2.heap.objs.size]) ht.typeIs PyProof.Rows.slot_tuple_getitem.lookup ?_ (by with_unfolding_all rfl)
  refine tup_rev ht (Heap.IsSliceOf.new ..) ?_ (by rw [List.size_toArray] <;> omega)
  have hf : H2 (s2.heap.push { cls := .type "slice", data := .fields #[.none, .none, .int (-1) t] }).objs.size = none := I4.hok.fresh (Nat.le_refl _)
  refine ⟨.ref _, upd H2 _ (.tup vs.reverse), I4.laid (t':=s2.toks) (o:=.tup vs.reverse) (fun b ob q => Heap.get?_push_of_some _ q) (Nat.le_refl _) ?_, rfl, new_tup W2 (reps_rev rs) hf R2⟩
  exact ⟨by rw [List.length_reverse]; omega, its.reverse, vals_rev r, ⟨_, Heap.get?_push_size _ rfl, rfl, 0, rfl⟩, fun o2 e2 => by rw [Heap.get?_push_size _ rfl] at e2; cases e2; rfl⟩
end
end DL
end
section
set_option maxHeartbeats 1000000
namespace DL
open PySem PySem.Spec PyProof.Rows L2
noncomputable def Itl (K : PySem.W.Frag) (a b : Addr) : It :=
  ⟨fun i H => ∃ xs ys x y, SqL K H a xs ∧ SqL K H b ys ∧ xs[i]? = some x ∧ ys[i]? = some y,
   fun i H v H' => ∃ p x y, H p = none ∧ v = .ref p ∧ H' = upd H p (.tup [x, y]) ∧ (∀ xs, SqL K H a xs → xs[i]? = some x) ∧ ∀ ys, SqL K H b ys → ys[i]? = some y,
   fun i H => ∃ xs ys, SqL K H a xs ∧ SqL K H b ys ∧ (xs.length ≤ i ∨ ys.length ≤ i)⟩
section
variable {X : Cx} {EX : EXT} {es : List Expr} {k : Nat} {pt p pos : Pos} {a b : Expr} {g : DA}
end
end DL
end
section
set_option maxHeartbeats 1000000
namespace DL
open PySem PySem.Spec PyProof.Rows L2
section
variable {X : Cx} {EX : EXT} {tg a : Expr} {p pos : Pos} {f : DE}
end
end DL
end
section
set_option maxHeartbeats 1000000
namespace DL
open PySem PySem.Spec PyProof.Rows L2 PySem.W
noncomputable def RawD (h : Heap) (d : Addr) (es : Array DictEntry) (ep : Nat) : Prop:=∃ o, h.get? d = some o ∧ o.ExactDict ∧ o.data = .dict es ep
section
variable {prog : Program} {w : World} {A : Around} {E : Value → Shared → Prop} {s : Shared}
theorem RawD.typeIs {d : Addr} {es : Array DictEntry} {ep : Nat} (x : RawD s.heap d es ep) : s.TypeIs (.ref d) "dict" := let ⟨o, e, c, _⟩ := x; ⟨o, e, c.1⟩
theorem RawD.kept {h h' : Heap} {d : Addr} {es : Array DictEntry} {ep : Nat} (x : RawD h d es ep) (k : ∀ o, h.get? d = some o → h'.get? d = some o) : RawD h' d es ep:=let ⟨o, e, r⟩:=x; ⟨o, k o e, r⟩
end
end DL
end
section
set_option maxHeartbeats 1000000
namespace DL
open PySem PySem.Spec PyProof.Rows L2 PySem.W
section
variable {X : Cx} {EX : EXT}
end
end DL
end
section
set_option maxHeartbeats 1000000
namespace DL
open PySem PySem.Spec PyProof.Rows L2 PySem.W SO
section
variable {prog : Program} {w : World} {A : Around} {E : Value → Shared → Prop} {s : Shared}
end
end DL
end
section
set_option maxHeartbeats 1000000
namespace DL
open PySem PySem.Spec PyProof.Rows L2 PySem.W SO
noncomputable def PlsAre (h : Heap) : List Value → List (List Str) → Prop
 | [], [] => True
 | v :: vs, p :: ps => (∃ b its, v = .ref b ∧ IsTup h b its.toArray ∧ StrsAre its p) ∧ PlsAre h vs ps
 | _, _ => False
theorem PlsAre.mono {h h' : Heap} : ∀ {vs : List Value} {ps : List (List Str)}, PlsAre h vs ps → (∀ b, (.ref b) ∈ vs → ∀ o, h.get? b = some o → h'.get? b = some o) → PlsAre h' vs ps
 | [], [], _, _ => trivial
 | v :: vs, p :: ps, x, k => by
  obtain ⟨⟨b, its, rfl, ⟨o, e, r⟩, s⟩, t⟩:=x
  exact ⟨⟨b, its, rfl, ⟨o, k b List.mem_cons_self o e, r⟩, s⟩, t.mono fun c hc => k c (List.mem_cons_of_mem _ hc)⟩
 | [], _ :: _, x, _ => x.elim
 | _ :: _, [], x, _ => x.elim
theorem PlsAre.length {h : Heap} : ∀ {vs : List Value} {ps : List (List Str)}, PlsAre h vs ps → vs.length = ps.length
 | [], [], _ => rfl
 | v :: vs, p :: ps, x => by simp [PlsAre.length x.2]
 | [], _ :: _, x => x.elim
 | _ :: _, [], x => x.elim
theorem PlsAre.get {h : Heap} : ∀ {vs : List Value} {ps : List (List Str)}, PlsAre h vs ps → ∀ (i : Nat), i < vs.length → ∃ b its, vs.getD i .none = .ref b ∧ IsTup h b its.toArray ∧ StrsAre its (ps.getD i [])
 | [], [], _, i, hi => by simp at hi
 | v :: vs, p :: ps, x, i, hi => by
  obtain ⟨⟨b, its, rfl, t, s⟩, r⟩:=x
  cases i with
  | zero => exact ⟨b, its, rfl, t, s⟩
  | succ i => exact PlsAre.get r i (by simpa using hi)
 | [], _ :: _, x, _, _ => x.elim
 | _ :: _, [], x, _, _ => x.elim
section
variable {prog : Program} {w : World} {A : Around} {E : Value → Shared → Prop} {s : Shared}
end
end DL
end
section
set_option maxHeartbeats 1000000
namespace SO
open PySem PySem.W PyProof.Rows
section
variable {prog : Program} {w : World} {A : Around} {E : Value → Shared → Prop} {s : Shared}
end
end SO
namespace DL
open PySem PySem.Spec PyProof.Rows L2 PySem.W SO
section
variable {prog : Program} {w : World} {A : Around} {E : Value → Shared → Prop} {s : Shared}
end
end DL
end
section
set_option maxHeartbeats 1000000
namespace DL
open PySem PySem.Spec PyProof.Rows L2 PySem.W SO
section
variable {X : Cx} {EX : EXT} {pins : List (Addr × Obj)} {σ : L2.St} {H : Hp} {s : Shared} {O : List Addr}
end
section
variable {X : Cx} {EX : EXT}
end
end DL
namespace DL
open PySem
end DL
end
section
set_option maxHeartbeats 1000000
namespace DL
open PySem PySem.Spec PyProof.Rows L2
noncomputable def Rs (xs : Array Nat) : Prop:=xs.toList.Pairwise (· < ·)
theorem Rs.lt {xs : Array Nat} (h : Rs xs) {i j : Nat} (hij : i < j) (hj : j < xs.size) : xs.getD i 0 < xs.getD j 0:=by
 have hi : i < xs.size:=by omega
 have:=List.pairwise_iff_getElem.mp h i j (by simpa using hi) (by simpa using hj) hij
 simpa [Array.getD, hi, hj] using this
theorem go_spec {xs : Array Nat} (h : Rs xs) (j : Nat) : ∀ (f lo hi : Nat), hi - lo ≤ f → lo ≤ hi → hi ≤ xs.size → (∀ k, k < lo → xs.getD k 0 < j) → (∀ k, hi ≤ k → k < xs.size → j ≤ xs.getD k 0) →
  SetTable.below.go xs j f lo hi ≤ xs.size ∧ (∀ k, k < SetTable.below.go xs j f lo hi → xs.getD k 0 < j) ∧ ∀ k, SetTable.below.go xs j f lo hi ≤ k → k < xs.size → j ≤ xs.getD k 0
 | 0, lo, hi, hf, hlh, hs, h1, h2 => by
  have : lo = hi:=by omega
  subst this
  unfold SetTable.below.go
  exact ⟨hs, h1, h2⟩
 | f + 1, lo, hi, hf, hlh, hs, h1, h2 => by
  unfold SetTable.below.go
  by_cases hc : lo < hi
  ·rw [if_pos hc]
   have hm1 : lo ≤ (lo + hi) / 2:=by omega
   have hm2 : (lo + hi) / 2 < hi:=by omega
   have hms : (lo + hi) / 2 < xs.size:=by omega
   have eD : xs.getD ((lo + hi) / 2) j = xs.getD ((lo + hi) / 2) 0:=by simp [Array.getD, hms]
   dsimp only
   rw [eD]
   by_cases hd : xs.getD ((lo + hi) / 2) 0 < j
   ·rw [if_pos hd]
    refine go_spec h j f _ hi (by omega) (by omega) hs (fun k hk => ?_) h2
    by_cases e : k = (lo + hi) / 2
    ·rw [e]; exact hd
    ·exact Nat.lt_trans (h.lt (by omega) hms) hd
   ·rw [if_neg hd]
    refine go_spec h j f lo _ (by omega) hm1 (by omega) h1 fun k hk hks => ?_
    by_cases e : k = (lo + hi) / 2
    ·rw [e]; omega
    ·have:=h.lt (show (lo + hi) / 2 < k by omega) hks
     omega
  ·rw [if_neg hc]
   have : lo = hi:=by omega
   subst this
   exact ⟨hs, h1, h2⟩
theorem below_spec {xs : Array Nat} (h : Rs xs) (j : Nat) : SetTable.below xs j ≤ xs.size ∧ (∀ k, k < SetTable.below xs j → xs.getD k 0 < j) ∧ ∀ k, SetTable.below xs j ≤ k → k < xs.size → j ≤ xs.getD k 0 :=
 go_spec h j xs.size 0 xs.size (by omega) (Nat.zero_le _) (Nat.le_refl _) (fun k hk => by omega) fun k hk hks => by omega
noncomputable def live (t : SetTable) (j : Nat) : Prop:=t.place[SetTable.below t.place j]? = some j
theorem slot_live {t : SetTable} {j : Nat} (h : t.slot j = .empty ∨ t.slot j = .dummy) : ¬ live t j:=by
 intro hl
 unfold live at hl
 have : t.slot j = .live (SetTable.below t.place j):=by
  unfold SetTable.slot
  simp [hl]
 rw [this] at h
 rcases h with h | h <;> cases h
theorem probe_free {t : SetTable} {f : Nat → Int} {h : Int} : ∀ (n : Nat) (p : SetTable.Probe) {j : Nat} {d : Option Nat}, (∀ k, p.dummy = some k → ¬ live t k) → SetTable.probe.go t f h n p = some (.empty j d) → ¬ live t (d.getD j)
 | 0, p, j, d, _, e => by unfold SetTable.probe.go at e; cases e
 | n + 1, p, j, d, hp, e => by
  unfold SetTable.probe.go at e
  have hadv : ∀ (q : SetTable.Probe), (t.advance q).dummy = q.dummy:=fun q => by
   unfold SetTable.advance
   split <;> rfl
  cases hs : t.slot p.j with
  | empty =>
   rw [hs] at e
   cases e
   cases hd : p.dummy with
   | none => exact slot_live (.inl hs)
   | some k => exact hp k hd
  | dummy =>
   rw [hs] at e
   refine probe_free n _ (fun k hk => ?_) e
   rw [hadv] at hk
   cases hk
   exact slot_live (.inr hs)
  | live i =>
   rw [hs] at e
   dsimp only at e
   split at e
   ·cases e
   ·refine probe_free n _ (fun k hk => ?_) e
    rw [hadv] at hk
    exact hp k hk
theorem free_live {t : SetTable} {h : Int} {j : Nat} {b : Bool} (e : t.freeSlot h = some (j, b)) : ¬ live t j:=by
 unfold SetTable.freeSlot at e
 split at e
 ·rename_i j' d he
  cases e
  exact probe_free _ _ (fun k hk => by cases hk) he
 ·cases e
theorem put_rs {t : SetTable} {j : Nat} (h : Rs t.place) (hl : ¬ live t j) : Rs (t.put j).1.place:=by
 obtain ⟨a, b, c⟩:=below_spec h j
 show Rs (SetTable.insertAt t.place (SetTable.below t.place j) j)
 unfold live at hl
 generalize SetTable.below t.place j = p at *
 unfold Rs at *
 have e : (SetTable.insertAt t.place p j).toList = t.place.toList.take p ++ j :: t.place.toList.drop p:=by
  unfold SetTable.insertAt
  simp [Array.toList_extract, List.extract]
  rw [List.take_of_length_le (by simp)]
 have hsp : t.place.toList = t.place.toList.take p ++ t.place.toList.drop p:=(List.take_append_drop _ _).symm
 rw [hsp, List.pairwise_append] at h
 rw [e, List.pairwise_append]
 refine ⟨h.1, List.pairwise_cons.mpr ⟨fun x hx => ?_, h.2.1⟩, fun x hx y hy => ?_⟩
 ·obtain ⟨k, hk, rfl⟩:=List.getElem_of_mem hx
  have hk' : p + k < t.place.size:=by simp at hk; omega
  have h1:=c (p + k) (by omega) hk'
  have h2 : (t.place.toList.drop p)[k] = t.place.getD (p + k) 0:=by simp [Array.getD, hk']
  rw [h2]
  by_cases hz : k = 0
  ·subst hz
   refine Nat.lt_of_le_of_ne h1 fun z => hl ?_
   rw [Array.getElem?_eq_getElem (by omega)]
   simp only [Nat.add_zero] at z hk'
   rw [z]
   simp [Array.getD, hk']
  ·have hp0 : p < t.place.size:=by omega
   have h3:=c p (Nat.le_refl _) hp0
   have h4 : t.place.getD p 0 < t.place.getD (p + k) 0:=by
    have h5:=List.pairwise_iff_getElem.mp h.2.1 0 k (by simp; omega) hk (by omega)
    simpa [Array.getD, hk', hp0] using h5
   omega
 ·rcases List.mem_cons.mp hy with rfl | hy
  ·obtain ⟨k, hk, rfl⟩:=List.getElem_of_mem hx
   have hk1 : k < p:=by simp at hk; omega
   have hk2 : k < t.place.size:=by omega
   have:=b k hk1
   simpa [Array.getD, hk2] using this
  ·exact h.2.2 x hx y hy
theorem fm_sub {α : Type} (f : Nat → Option α) : ∀ l : List Nat, ((l.filterMap fun j => (f j).map (j, ·)).map (·.1)).Sublist l
 | [] => .slnil
 | x :: l => by
  rw [List.filterMap_cons]
  cases f x with
  | none => exact (fm_sub f l).cons x
  | some y => exact (fm_sub f l).cons₂ x
theorem laid_rs {mask finger moves : Nat} {led plain : Bool} {hs : Array Int} {t : SetTable} {o : Array Nat} (h : SetTable.laid mask finger moves led plain hs = some (t, o)) : Rs t.place:=by
 unfold SetTable.laid at h
 cases hc : SetTable.layClean mask hs with
 | none => rw [hc] at h; cases h
 | some ow =>
  rw [hc] at h
  have h':=Option.some.inj h
  cases h'
  unfold Rs
  dsimp only
  exact List.Pairwise.sublist (fm_sub _ _) List.pairwise_lt_range
end DL
end
section
set_option maxHeartbeats 1000000
namespace DL
open PySem PySem.Spec PyProof.Rows L2
theorem lay_rs {t : SetTable} {es : Array (Int × Value)} {h : Int} {x : Value} (hr : t.plain = true → Rs t.place) (hp : (layNew t es h x).2.1.plain = true) : Rs (layNew t es h x).2.1.place:=by
 have ht:=(lay_led t es h x).2 hp
 unfold layNew at hp ⊢
 cases hf : t.freeSlot h with
 | none => rw [hf] at hp; cases hp
 | some q =>
  obtain ⟨j, b⟩:=q
  rw [hf] at hp
  dsimp only at hp ⊢
  unfold SetTable.orStandIn at hp ⊢
  split
  ·exact put_rs (hr ht) (free_live hf)
  ·rename_i hc
   rw [if_neg hc] at hp
   cases hp
theorem relay_rs {t : SetTable} {es : Array (Int × Value)} {k : Nat} (hp : (relayAll t es k).2.1.plain = true) : Rs (relayAll t es k).2.1.place:=by
 unfold relayAll at hp ⊢
 cases hr : t.relaid (es.map (·.1)) k with
 | none => rw [hr] at hp; cases hp
 | some q =>
  obtain ⟨t', o⟩:=q
  rw [hr] at hp
  dsimp only at hp ⊢
  split
  ·exact laid_rs hr
  ·rename_i hc
   rw [if_neg hc] at hp
   cases hp
structure TabI (w : World) (t : SetTable) (n : Nat) : Prop where
 fits : t.fits n = true
 led : t.led = !byT w
 plain : t.plain = true → Rs t.place
section
variable (prog : Program) (w : World)
noncomputable def SetI (h : Heap) (a : Addr) (xs : List Int) : Prop :=
 ∃ o es ep t, h.get? a = some o ∧ o.ExactSet ∧ o.data = .set es ep t ∧ TabI w t es.size ∧ ElemsOf (intKind prog w) es.toList ∧ IntsAre (es.toList.map (·.2)) xs ∧ xs.Nodup ∧ es.size < scanBound
end
section
variable {prog : Program} {w : World} {A : Around} {E : Value → Shared → Prop} {s : Shared} {a : Addr}
theorem ints_mem : ∀ {vs : List Value} {xs : List Int}, IntsAre vs xs → ∀ x, x ∈ xs ↔ ∃ v ∈ vs, (intKind prog w).is x v = true
 | _, _, .nil, x => ⟨(fun h => by cases h), fun ⟨v, h, _⟩ => by cases h⟩
 | _, _, .cons y t r, x => by
  have ih:=ints_mem r x
  constructor
  ·intro h
   rcases List.mem_cons.mp h with rfl | h
   ·exact ⟨_, List.mem_cons_self, intKind_is _ _ _ _⟩
   ·obtain ⟨v, h1, h2⟩:=ih.mp h
    exact ⟨v, List.mem_cons_of_mem _ h1, h2⟩
  ·rintro ⟨v, h1, h2⟩
   rcases List.mem_cons.mp h1 with rfl | h1
   ·have e : x = y:=(intKind prog w).inj _ x y h2 (intKind_is _ _ _ _)
    rw [e]
    exact List.mem_cons_self
   ·exact List.mem_cons_of_mem _ (ih.mpr ⟨v, h1, h2⟩)
theorem ints_perm : ∀ {vs vs' : List Value}, vs.Perm vs' → ∀ {xs : List Int}, IntsAre vs xs → ∃ xs', IntsAre vs' xs' ∧ xs.Perm xs':=by
 intro vs vs' p
 induction p with
 | nil => intro xs h; exact ⟨xs, h, .refl _⟩
 | cons v _ ih =>
  intro xs h
  cases h with
  | cons x t r =>
   obtain ⟨xs', h1, h2⟩:=ih r
   exact ⟨x :: xs', .cons x t h1, h2.cons x⟩
 | swap u v l =>
  intro xs h
  cases h with
  | cons x t r =>
   cases r with
   | cons y t' r' => exact ⟨y :: x :: _, .cons y t' (.cons x t r'), .swap y x _⟩
 | trans _ _ ih1 ih2 =>
  intro xs h
  obtain ⟨ys, h1, h2⟩:=ih1 h
  obtain ⟨zs, h3, h4⟩:=ih2 h1
  exact ⟨zs, h3, h2.trans h4⟩
theorem ints_snoc : ∀ {vs : List Value} {xs : List Int}, IntsAre vs xs → ∀ (x : Int) (t : Tok), IntsAre (vs ++ [.int x t]) (xs ++ [x])
 | _, _, .nil, x, t => .cons x t .nil
 | _, _, .cons y u r, x, t => .cons y u (ints_snoc r x t)
theorem add_storeI {es es1 : Array (Int × Value)} {ep : Nat} {t t2 : SetTable} {o : Obj} {xs1 : List Int} {wd : Bool} {g : Bool → Sem Unit} {R : Option Bool → Shared → Prop} (hg : ∀ (b : Bool) (s₁ : Shared) (Q' : Unit → Shared → Prop), Q' () s₁ → wpAny (model prog w) A (g b) Q' E s₁)
  (ho : s.heap.get? a = some o) (hx : o.ExactSet) (hd : o.data = .set es ep t) (hb : es1.size < scanBound) (hT : TabI w t2 es1.size) (hel : ElemsOf (intKind prog w) es1.toList) (hs : IntsAre (es1.toList.map (·.2)) xs1) (hn : xs1.Nodup)
  (h : ∀ h' xs', Heap.SameBut a s.heap h' → SetI prog w h' a xs' → xs1.Perm xs' → R (some true) { s with heap:=h' }) :
  wpAny (model prog w) A (do
    storeSet a es1 t2
    if (!wd && t2.tooFull) = true then do
      g (relayAll t2 es1 (SetTable.grown es1.size)).2.2
      storeSet a (relayAll t2 es1 (SetTable.grown es1.size)).1 (relayAll t2 es1 (SetTable.grown es1.size)).2.1
      pure (some true)
     else pure (some true)) R E s:=by
 refine wpAny_bind (wpAny_storeSet_of ho hd ?_ (fits_of_scanBound hb))
 have o1 : (s.heap.update a (Obj.putSet es1 t2)).get? a = some { o with data:=.set es1 (ep + 1) t2 }:=by
  have q:=Heap.get?_update_self (Obj.putSet es1 t2) ho (by rw [putSet_of es1 t2 hd]; rfl)
  rwa [putSet_of es1 t2 hd] at q
 have b1:=Heap.SameBut.update s.heap a (Obj.putSet es1 t2)
 by_cases hc : (!wd && t2.tooFull) = true
 ·rw [if_pos hc]
  have hp:=relayAll_perm t2 es1 (SetTable.grown es1.size)
  have hf:=relayAll_fits t2 es1 (SetTable.grown es1.size)
  have hl:=relay_led t2 es1 (SetTable.grown es1.size)
  have hrs:=relay_rs (t:=t2) (es:=es1) (k:=SetTable.grown es1.size)
  generalize relayAll t2 es1 (SetTable.grown es1.size) = Rl at hp hf hl hrs ⊢
  obtain ⟨es2, t3, gv⟩:=Rl
  dsimp only at hp hf hl hrs ⊢
  have hz : es2.size = es1.size:=by simpa using hp.length_eq
  obtain ⟨xs2, hs2, hpx⟩:=ints_perm (hp.map (·.2)).symm hs
  refine wpAny_bind (hg _ _ _ (wpAny_bind (wpAny_storeSet_of (s:={ s with heap:=s.heap.update a (Obj.putSet es1 t2) }) o1 rfl ?_ (fits_of_scanBound (by rw [hz]; exact hb)))))
  have o2 : ((s.heap.update a (Obj.putSet es1 t2)).update a (Obj.putSet es2 t3)).get? a = some { o with data:=.set es2 (ep + 1 + 1) t3 }:=by
   have q:=Heap.get?_update_self (Obj.putSet es2 t3) o1 (by rw [putSet_of es2 t3 rfl]; rfl)
   rwa [putSet_of es2 t3 rfl] at q
  exact wpAny_pure (h _ xs2 (b1.trans (Heap.SameBut.update _ a _)) ⟨_, es2, _, t3, o2, hx, rfl, ⟨hf, by rw [hl.1]; exact hT.led, hrs⟩, hel.perm hp, hs2, hpx.nodup_iff.mp hn, by rw [hz]; exact hb⟩ hpx)
 ·rw [if_neg hc]
  exact wpAny_pure (h _ xs1 b1 ⟨_, es1, _, t2, o1, hx, rfl, hT, hel, hs, hn, hb⟩ (.refl _))
theorem add_int {x : Int} {tk : Tok} {xs : List Int} {Q : Bool → Shared → Prop} (hS : SetI prog w s.heap a xs) (hr : xs.length + 1 < scanBound)
  (h : ∀ h' xs' b, Heap.SameBut a s.heap h' → SetI prog w h' a xs' → (∀ y, y ∈ xs' ↔ y ∈ xs ∨ y = x) → xs'.length ≤ xs.length + 1 → Q b { s with heap:=h' }) :
  wpAny (model prog w) A (setAddHashed a (.int x tk) ((intKind prog w).hash x)) Q E s:=by
 obtain ⟨o, es, ep, t, ho, hx, hd, hT, hel, hs, hn, hb⟩:=id hS
 have hsz : es.size = xs.length:=by
  have:=hs.length
  simpa using this
 have hkey : (intKind prog w).is x (.int x tk) = true:=intKind_is _ _ _ _
 have hsc : (Value.int x tk).scannable = true:=rfl
 unfold setAddHashed setAddHashedIn
 refine wpAny_holding (wpAny_bind (wpAny_setState_of ho hd hT.fits ?_))
 dsimp only
 rw [byScan_of (knd:=intKind prog w) hsc hb hel, if_pos rfl]
 unfold setAddByScan
 refine wpAny_bind (wpAny_bind (wpAny_rule (wpAny_bind (wpAny_setScan_of (knd:=intKind prog w) hkey ho hd hT.fits hel ?_))))
 cases hf : es.toList.findIdx? (fun e => (intKind prog w).is x e.2) with
 | some j =>
  dsimp only
  obtain ⟨hj, hp, _⟩:=List.findIdx?_eq_some_iff_getElem.mp hf
  have hm : x ∈ xs:=(ints_mem hs x).mpr ⟨_, List.mem_map.mpr ⟨_, List.getElem_mem hj, rfl⟩, hp⟩
  refine wpAny_pure (wpAny_pure ?_)
  have e : s = { s with heap:=s.heap }:=by cases s; rfl
  rw [e]
  exact h s.heap xs false (Heap.SameBut.refl a s.heap) hS (fun y => ⟨.inl, fun z => z.elim id fun z => z ▸ hm⟩) (Nat.le_succ _)
 | none =>
  dsimp only
  have hm : x ∉ xs:=fun hm => by
   obtain ⟨v, hv, q⟩:=(ints_mem (prog:=prog) (w:=w) hs x).mp hm
   obtain ⟨e, he, rfl⟩:=List.mem_map.mp hv
   have:=List.findIdx?_eq_none_iff.mp hf e he
   rw [q] at this
   cases this
  have hg : ∀ (b : Bool) {s₁ : Shared} {Q' : Unit → Shared → Prop}, Q' () s₁ → wpAny (model prog w) A (match b with | true => rule "set.scan.the-table-gave-way" | false => pure ()) Q' E s₁ := by
   intro b s₁ Q' hq
   cases b
   ·exact wpAny_pure hq
   ·exact wpAny_rule hq
  have hp:=layNew_perm t es ((intKind prog w).hash x) (.int x tk)
  have hfit:=layNew_fits t es ((intKind prog w).hash x) (.int x tk)
  have hl:=lay_led t es ((intKind prog w).hash x) (.int x tk)
  have hrs:=lay_rs (t:=t) (es:=es) (h:=(intKind prog w).hash x) (x:=.int x tk) hT.plain
  generalize layNew t es ((intKind prog w).hash x) (.int x tk) = Ln at hp hfit hl hrs ⊢
  obtain ⟨es1, t1, wd, gv⟩:=Ln
  dsimp only at hp hfit hl hrs ⊢
  rw [Array.toList_push] at hp
  have hz : es1.size = es.size + 1:=by simpa using hp.length_eq
  have hel1 : ElemsOf (intKind prog w) es1.toList:=(hel.push hkey hsc).perm hp
  have hs0 : IntsAre ((es.toList ++ [((intKind prog w).hash x, Value.int x tk)]).map (·.2)) (xs ++ [x]):=by
   rw [List.map_append]
   exact ints_snoc hs x tk
  obtain ⟨xs1, hs1, hpx⟩:=ints_perm (hp.map (·.2)).symm hs0
  have hn1 : xs1.Nodup:=hpx.nodup_iff.mp (List.nodup_append.mpr ⟨hn, by simp, fun u hu v hv => by
   rw [List.mem_singleton.mp hv]
   rintro rfl
   exact hm hu⟩)
  have fin : ∀ h' xs', Heap.SameBut a s.heap h' → SetI prog w h' a xs' → xs1.Perm xs' → Q true { s with heap:=h' }:=fun h' xs' b1 b2 b3 => h h' xs' true b1 b2 (fun y => by
   rw [← (hpx.trans b3).mem_iff]
   simp) (by rw [← (hpx.trans b3).length_eq]; simp)
  refine wpAny_bind (hg _ ?_)
  by_cases hpl : t1.plain = true
  ·rw [if_pos hpl, hashByValue_scannable 8 hsc]
   refine wpAny_bind (wpAny_pure ?_)
   refine add_storeI (t2:=if plainKind (Value.int x tk) = true then t1 else { t1 with plain:=false }) (fun b s₁ Q' hq => by cases b <;> first | exact wpAny_pure hq | exact wpAny_rule hq) ho hx hd (by omega) ?_ hel1 hs1 hn1 fun h' xs' b1 b2 b3 => wpAny_pure (fin h' xs' b1 b2 b3)
   rw [if_pos (show plainKind (Value.int x tk) = true from rfl)]
   exact ⟨hfit, by rw [← hT.led]; exact hl.1, hrs⟩
  ·rw [if_neg hpl]
   refine wpAny_bind (wpAny_pure ?_)
   simp only [if_true]
   exact add_storeI (fun b s₁ Q' hq => by cases b <;> first | exact wpAny_pure hq | exact wpAny_rule hq) ho hx hd (by omega) ⟨hfit, by rw [← hT.led]; exact hl.1, fun z => absurd z hpl⟩ hel1 hs1 hn1 fun h' xs' b1 b2 b3 => wpAny_pure (fin h' xs' b1 b2 b3)
end
end DL
end
section
namespace DL
open PySem PySem.Spec PyProof.Rows L2
section
variable {prog : Program} {w : World} {A : Around} {E : Value → Shared → Prop} {s : Shared} {a : Addr}
end
end DL
end
section
set_option maxHeartbeats 1000000
namespace DL
open PySem PySem.Spec PyProof.Rows L2 PySem.W SO
section
variable {prog : Program} {w : World} {A : Around} {E : Value → Shared → Prop} {s : Shared} {a : Addr}
theorem SetI.kept {h h' : Heap} {xs : List Int} (x : SetI prog w h a xs) (hk : ∀ b o, h.get? b = some o → h'.get? b = some o) : SetI prog w h' a xs:=by
 obtain ⟨o, es, ep, t, ho, r⟩:=x
 exact ⟨o, es, ep, t, hk _ _ ho, r⟩
theorem SetI.typeIs {xs : List Int} (x : SetI prog w s.heap a xs) : s.TypeIs (.ref a) "set" := by
 obtain ⟨o, es, ep, t, ho, hx, _⟩:=x
 exact ⟨o, ho, hx.1⟩
theorem SetI.len {h : Heap} {xs : List Int} (x : SetI prog w h a xs) : xs.length < scanBound ∧ xs.Nodup ∧ a < h.objs.size:=by
 obtain ⟨o, es, ep, t, ho, hx, hd, hT, hel, hs, hn, hb⟩:=x
 have:=hs.length
 rw [List.length_map, Array.length_toList] at this
 exact ⟨by omega, hn, Heap.lt_size ho⟩
end
end DL
end
section
set_option maxHeartbeats 1000000
namespace DL
open PySem PySem.Spec PyProof.Rows L2 PySem.W SO
section
variable {prog : Program} {w : World} {A : Around} {E : Value → Shared → Prop} {s : Shared}
end
section
variable {X : Cx} {EX : EXT}
end
section
variable {prog : Program} {w : World} {A : Around} {E : Value → Shared → Prop} {s : Shared} {a : Addr}
end
section
variable {X : Cx} {EX : EXT} {pins : List (Addr × Obj)} {σ : L2.St} {H : Hp} {s : Shared}
end
end DL
end
section
set_option maxHeartbeats 1000000
namespace DL
open PySem PySem.SetTable
noncomputable def lq (m : Nat) : Nat → Nat × Nat → Nat × Nat
 | 0, q => q
 | n + 1, q => lq m n (leap m q.1 q.2)
theorem lq_add (m : Nat) : ∀ (a b : Nat) (q : Nat × Nat), lq m (a + b) q = lq m b (lq m a q)
 | 0, b, q => by rw [Nat.zero_add]; rfl
 | a + 1, b, q => by rw [Nat.succ_add]; exact lq_add m a b _
theorem lq_pert (m : Nat) : ∀ (n : Nat) (q : Nat × Nat), (lq m n q).2 = q.2 / 32 ^ n
 | 0, q => by simp [lq]
 | n + 1, q => by
  rw [lq, lq_pert]
  show q.2 / 32 / 32 ^ n = _
  rw [Nat.div_div_eq_div_mul, Nat.pow_succ, Nat.mul_comm]
theorem lq_le (m : Nat) : ∀ (n : Nat) (q : Nat × Nat), q.1 ≤ m → (lq m n q).1 ≤ m
 | 0, q, h => h
 | n + 1, q, h => lq_le m n _ (by
  show (q.1 * 5 + 1 + q.2 / 32) % (m + 1) ≤ m
  have:=Nat.mod_lt (q.1 * 5 + 1 + q.2 / 32) (show 0 < m + 1 by omega)
  omega)
noncomputable def lc (m : Nat) : Nat → Nat → Nat
 | 0, i => i
 | n + 1, i => lc m n ((i * 5 + 1) % (m + 1))
theorem lc_add (m : Nat) : ∀ (a b i : Nat), lc m (a + b) i = lc m b (lc m a i)
 | 0, b, i => by rw [Nat.zero_add]; rfl
 | a + 1, b, i => by rw [Nat.succ_add]; exact lc_add m a b _
theorem lq_zero (m : Nat) : ∀ (n i : Nat), lq m n (i, 0) = (lc m n i, 0)
 | 0, i => rfl
 | n + 1, i => by
  rw [lq]
  have : leap m (i, 0).1 (i, 0).2 = ((i * 5 + 1) % (m + 1), 0):=by simp [leap]
  rw [this, lq_zero]
  rfl
noncomputable def orb (m : Nat) : Nat → Nat → List Nat
 | 0, _ => []
 | n + 1, i => i :: orb m n ((i * 5 + 1) % (m + 1))
theorem orb_mem (m : Nat) : ∀ (n i x : Nat), x ∈ orb m n i → ∃ k, k < n ∧ lc m k i = x
 | 0, i, x, h => by cases h
 | n + 1, i, x, h => by
  rcases List.mem_cons.mp h with rfl | h
  ·exact ⟨0, by omega, rfl⟩
  ·obtain ⟨k, h1, h2⟩:=orb_mem m n _ x h
   exact ⟨k + 1, by omega, h2⟩
noncomputable def full (m : Nat) : Bool:=(List.range (m + 1)).all (fun e => (orb m (m + 1) 0).contains e) && lc m (m + 1) 0 == 0
theorem full_hit {m e : Nat} (h : full m = true) (he : e ≤ m) : ∃ a, a ≤ m ∧ lc m a 0 = e:=by
 unfold full at h
 rw [Bool.and_eq_true] at h
 have h1:=List.all_eq_true.mp h.1 e (by simp; omega)
 obtain ⟨k, h2, h3⟩:=orb_mem m (m + 1) 0 e (by simpa using h1)
 exact ⟨k, by omega, h3⟩
theorem full_all {m i e : Nat} (h : full m = true) (hi : i ≤ m) (he : e ≤ m) : ∃ n, n ≤ m ∧ lc m n i = e:=by
 have h0 : lc m (m + 1) 0 = 0:=by
  unfold full at h
  rw [Bool.and_eq_true] at h
  exact eq_of_beq h.2
 obtain ⟨a, ha, rfl⟩:=full_hit h hi
 obtain ⟨b, hb, rfl⟩:=full_hit h he
 by_cases hab : a ≤ b
 ·exact ⟨b - a, by omega, by rw [← lc_add, show a + (b - a) = b by omega]⟩
 ·exact ⟨m + 1 + b - a, by omega, by rw [← lc_add, show a + (m + 1 + b - a) = (m + 1) + b by omega, lc_add, h0]⟩
noncomputable def Msk (m : Nat) : Prop:=m = 7 ∨ m = 31 ∨ m = 127 ∨ m = 511
theorem full7 : full 7 = true:=by decide +kernel
theorem full31 : full 31 = true:=by decide +kernel
theorem full127 : full 127 = true:=by decide +kernel
theorem full511 : full 511 = true:=by decide +kernel
theorem Msk.full {m : Nat} (h : Msk m) : full m = true:=by
 rcases h with rfl | rfl | rfl | rfl
 ·exact full7
 ·exact full31
 ·exact full127
 ·exact full511
theorem leap_hits {m e : Nat} (hm : Msk m) (q : Nat × Nat) (hi : q.1 ≤ m) (hp : q.2 < 2 ^ 64) (he : e ≤ m) : ∃ n, 1 ≤ n ∧ n ≤ 13 + m ∧ (lq m n q).1 = e:=by
 have h2 : (lq m 13 q).2 = 0:=by
  rw [lq_pert]
  exact Nat.div_eq_of_lt (Nat.lt_of_lt_of_le hp (by decide))
 obtain ⟨n, h3, h4⟩:=full_all hm.full (lq_le m 13 q hi) he
 refine ⟨13 + n, by omega, by omega, ?_⟩
 rw [lq_add]
 have : lq m 13 q = ((lq m 13 q).1, 0):=by rw [← h2]
 rw [this, lq_zero, h4]
section
variable {t : SetTable}
noncomputable def advN (t : SetTable) : Nat → Probe → Probe
 | 0, p => p
 | n + 1, p => advN t n (t.advance p)
theorem advN_add : ∀ (a b : Nat) (p : Probe), advN t (a + b) p = advN t b (advN t a p)
 | 0, b, p => by rw [Nat.zero_add]; rfl
 | a + 1, b, p => by rw [Nat.succ_add]; exact advN_add a b _
theorem advN_succ (n : Nat) (p : Probe) : advN t (n + 1) p = t.advance (advN t n p):=advN_add n 1 p
theorem adv_lin : ∀ (k : Nat) (p : Probe), k ≤ p.more → advN t k p = { p with j:=p.j + k, more:=p.more - k }
 | 0, p, _ => rfl
 | k + 1, p, h => by
  rw [advN]
  have : t.advance p = { p with j:=p.j + 1, more:=p.more - 1 }:=by
   unfold advance
   rw [if_pos (by omega)]
  rw [this, adv_lin k _ (by show k ≤ p.more - 1; omega)]
  dsimp only
  congr 1 <;> omega
noncomputable def lpAt (t : SetTable) (p : Probe) (L : Nat × Nat) : Probe:={ p with j:=L.1, more:=runEnd t.mask L.1 - L.1, i:=L.1, perturb:=L.2 }
theorem adv_leap (p : Probe) : advN t (p.more + 1) p = lpAt t p (leap t.mask p.i p.perturb):=by
 rw [advN_succ, adv_lin _ _ (Nat.le_refl _)]
 unfold advance
 rw [if_neg (by show ¬ p.more - p.more > 0; omega)]
 rfl
theorem bits_lt (h : Int) : bits h < 2 ^ 64:=by
 unfold bits
 have:=Int.emod_lt_of_pos h (show (0 : Int) < 2 ^ 64 by decide)
 have:=Int.emod_nonneg h (show (2 ^ 64 : Int) ≠ 0 by decide)
 omega
theorem has_nil (j : Nat) : has #[] j = false:=by simp [has]
theorem slot_of (hd : t.dummies = #[]) (j : Nat) : t.slot j = .empty ∨ ∃ i, t.slot j = .live i ∧ t.place[i]? = some j:=by
 unfold slot
 by_cases h : (t.place[below t.place j]? == some j) = true
 ·right
  exact ⟨below t.place j, by simp only [h, if_true], eq_of_beq h⟩
 ·left
  simp only [h, if_false, hd, has_nil, Bool.false_eq_true]
theorem below_at {xs : Array Nat} (h : Rs xs) {i j : Nat} (e : xs[i]? = some j) : below xs j = i:=by
 obtain ⟨hi, e⟩:=Array.getElem?_eq_some_iff.mp e
 obtain ⟨a, b, c⟩:=below_spec h j
 have hg : xs.getD i 0 = j:=by simp [Array.getD, hi, e]
 have h1 : ¬ i < below xs j:=fun z => by have:=b i z; omega
 have h2 : ¬ below xs j < i:=fun z => by
  have h3:=h.lt z hi
  have h4:=c _ (Nat.le_refl _) (by omega)
  omega
 omega
theorem slot_live_at (h : Rs t.place) {i j : Nat} (e : t.place[i]? = some j) : t.slot j = .live i:=by
 unfold slot
 simp only [below_at h e, e, beq_self_eq_true, if_true]
theorem slot_empty_of (hd : t.dummies = #[]) {j : Nat} (h : j ∉ t.place.toList) : t.slot j = .empty:=by
 rcases slot_of hd j with e | ⟨i, _, e⟩
 ·exact e
 ·exact absurd (by rw [← Array.getElem?_toList] at e; exact List.mem_of_getElem? e) h
theorem slot_not {j : Nat} (hr : Rs t.place) (h : t.slot j = .empty) : j ∉ t.place.toList:=fun z => by
 obtain ⟨i, hi⟩:=List.mem_iff_getElem?.mp z
 rw [Array.getElem?_toList] at hi
 rw [slot_live_at hr hi] at h
 cases h
end
end DL
end
section
set_option maxHeartbeats 1000000
namespace DL
open PySem PySem.SetTable
noncomputable def Pth (t : SetTable) (p : Probe) (j : Nat) : Prop:=∃ n, (advN t n p).j = j ∧ ∀ m, m < n → t.slot (advN t m p).j ≠ .empty
structure TabP (t : SetTable) (es : List (Int × Value)) : Prop where
 msk : Msk t.mask
 dum : t.dummies = #[]
 rs : Rs t.place
 len : t.place.size = es.length
 few : es.length * 5 < t.mask * 3
 pth : ∀ q ∈ t.place.toList.zip es, Pth t (t.probeStart q.2.1) q.1
section
variable {t t' : SetTable} {es : List (Int × Value)}
theorem Msk.le {m : Nat} (h : Msk m) : 7 ≤ m ∧ m ≤ 511 ∧ m % 2 = 1:=by
 rcases h with rfl | rfl | rfl | rfl <;> decide
theorem TabP.room (T : TabP t es) : es.length ≤ t.mask:=by
 have:=T.few
 omega
theorem TabP.fits (T : TabP t es) : t.fits es.length = true:=by
 have h:=T.room
 have l:=T.len
 have d:=T.dum
 unfold SetTable.fits SetTable.fill
 simp [l, d, h]
theorem TabP.gave (T : TabP t es) : t.gaveWay = false:=by
 have:=T.msk.le
 unfold SetTable.gaveWay
 simp [this.2.2]
theorem advance_mask (h : t.mask = t'.mask) (p : Probe) : t.advance p = t'.advance p:=by
 unfold advance
 rw [h]
theorem advN_mask (h : t.mask = t'.mask) : ∀ (n : Nat) (p : Probe), advN t n p = advN t' n p
 | 0, p => rfl
 | n + 1, p => by rw [advN, advN, advance_mask h, advN_mask h]
theorem Pth.mono {p : Probe} {j : Nat} (h : t.mask = t'.mask) (hs : ∀ x, t.slot x ≠ .empty → t'.slot x ≠ .empty) (q : Pth t p j) : Pth t' p j:=by
 obtain ⟨n, a, b⟩:=q
 exact ⟨n, by rw [← advN_mask h]; exact a, fun m hm => by rw [← advN_mask h]; exact hs _ (b m hm)⟩
theorem slot_iff (hd : t.dummies = #[]) (hr : Rs t.place) (x : Nat) : t.slot x ≠ .empty ↔ x ∈ t.place.toList:=by
 constructor
 ·intro h
  exact Classical.byContradiction fun z => h (slot_empty_of hd z)
 ·intro h z
  exact slot_not hr z h
theorem ins_toList {α : Type} (xs : Array α) (p : Nat) (x : α) : (insertAt xs p x).toList = xs.toList.take p ++ x :: xs.toList.drop p:=by
 unfold insertAt
 simp [Array.toList_extract, List.extract]
 rw [List.take_of_length_le (by simp)]
theorem zip_ins {α β : Type} {xs : List α} {ys : List β} (h : xs.length = ys.length) (p : Nat) (x : α) (y : β) (q : α × β) (hq : q ∈ (xs.take p ++ x :: xs.drop p).zip (ys.take p ++ y :: ys.drop p)) : q = (x, y) ∨ q ∈ xs.zip ys:=by
 rw [List.zip_append (by simp [h]), List.zip_cons_cons] at hq
 rcases List.mem_append.mp hq with z | z
 ·right
  rw [← List.take_append_drop p xs, ← List.take_append_drop p ys, List.zip_append (by simp [h])]
  exact List.mem_append_left _ z
 ·rcases List.mem_cons.mp z with z | z
  ·exact .inl z
  ·right
   rw [← List.take_append_drop p xs, ← List.take_append_drop p ys, List.zip_append (by simp [h])]
   exact List.mem_append_right _ z
theorem TabP.put (T : TabP t es) {j : Nat} {h : Int} {v : Value} (hj : t.slot j = .empty) (hp : Pth t (t.probeStart h) j) (pl : Bool) (hf : (es.length + 1) * 5 < t.mask * 3) :
  TabP { (t.put j).1 with plain:=pl } (es.take (t.put j).2 ++ (h, v) :: es.drop (t.put j).2):=by
 have hd : (t.put j).1.dummies = #[]:=by
  show (if has t.dummies j then _ else t.dummies) = _
  rw [T.dum, has_nil]
  rfl
 have hpl : (t.put j).1.place.toList = t.place.toList.take (below t.place j) ++ j :: t.place.toList.drop (below t.place j):=ins_toList _ _ _
 have hrs : Rs (t.put j).1.place:=put_rs T.rs (slot_live (.inl hj))
 have hl : (es.take (t.put j).2 ++ (h, v) :: es.drop (t.put j).2).length = es.length + 1:=by
  simp only [List.length_append, List.length_cons, List.length_take, List.length_drop]
  omega
 have hsl : ∀ x, t.slot x ≠ .empty → ({ (t.put j).1 with plain:=pl } : SetTable).slot x ≠ .empty:=fun x hx => by
  rw [slot_iff (show ({ (t.put j).1 with plain:=pl } : SetTable).dummies = #[] from hd) (show Rs ({ (t.put j).1 with plain:=pl } : SetTable).place from hrs)]
  have:=(slot_iff T.dum T.rs x).mp hx
  show x ∈ (t.put j).1.place.toList
  rw [hpl, List.mem_append, List.mem_cons]
  rw [← List.take_append_drop (below t.place j) t.place.toList, List.mem_append] at this
  rcases this with z | z
  ·exact .inl z
  ·exact .inr (.inr z)
 refine ⟨T.msk, hd, hrs, ?_, ?_, fun q hq => ?_⟩
 ·have h1:=congrArg List.length hpl
  rw [Array.length_toList] at h1
  rw [hl]
  show (t.put j).1.place.size = _
  rw [h1]
  have:=T.len
  simp only [List.length_append, List.length_cons, List.length_take, List.length_drop, Array.length_toList]
  omega
 ·rw [hl]
  exact hf
 ·have hq' : q ∈ (t.place.toList.take (below t.place j) ++ j :: t.place.toList.drop (below t.place j)).zip (es.take (below t.place j) ++ (h, v) :: es.drop (below t.place j)):=by
   rw [← hpl]
   exact hq
  rcases zip_ins (by rw [Array.length_toList]; exact T.len) _ _ _ q hq' with rfl | z
  ·exact Pth.mono (t:=t) rfl hsl hp
  ·exact Pth.mono (t:=t) rfl hsl (T.pth q z)
end
section
variable {t : SetTable} {owner : Array (Option Nat)}
noncomputable def PthO (t : SetTable) (owner : Array (Option Nat)) (p : Probe) (j : Nat) : Prop:=∃ n, (advN t n p).j = j ∧ ∀ m, m < n → ∃ k, owner[(advN t m p).j]? = some (some k)
noncomputable def stP (t : SetTable) (i pert : Nat) : Probe:={ j:=i, more:=runEnd t.mask i - i, i, perturb:=pert, dummy:=none }
theorem run_in {m i : Nat} (h : i ≤ m) : runEnd m i ≤ m ∧ i ≤ runEnd m i:=by
 unfold runEnd
 split <;> omega
theorem getD_some {j : Nat} (h : j < owner.size) (hn : (owner.getD j (some 0)).isNone = false) : ∃ k, owner[j]? = some (some k):=by
 rw [Array.getElem?_eq_getElem h]
 simp only [Array.getD, h, dite_true] at hn
 have hn' : owner[j].isNone = false:=hn
 cases e : owner[j] with
 | none => rw [e] at hn'; cases hn'
 | some k => exact ⟨k, rfl⟩
theorem getD_none {j : Nat} (hn : (owner.getD j (some 0)).isNone = true) : owner[j]? = some none:=by
 by_cases h : j < owner.size
 ·rw [Array.getElem?_eq_getElem h]
  simp only [Array.getD, h, dite_true] at hn
  have hn' : owner[j].isNone = true:=hn
  cases e : owner[j] with
  | none => rfl
  | some k => rw [e] at hn'; cases hn'
 ·simp [Array.getD, h] at hn
theorem free_ok (ho : owner.size = t.mask + 1) : ∀ (F i pert : Nat), i ≤ t.mask → (∃ n, n < F ∧ owner[(lq t.mask n (i, pert)).1]? = some none) →
  ∃ j, layClean.free t.mask owner F i pert = some j ∧ owner[j]? = some none ∧ PthO t owner (stP t i pert) j
 | 0, i, pert, _, ⟨n, h, _⟩ => by omega
 | F + 1, i, pert, hi, ⟨n, h1, h2⟩ => by
  have hr:=run_in hi
  have lin : ∀ m, m ≤ runEnd t.mask i - i → (advN t m (stP t i pert)).j = i + m:=fun m hm => by
   rw [adv_lin m _ hm]
   rfl
  unfold layClean.free
  cases hf : (List.range (runEnd t.mask i + 1 - i)).find? fun k => (owner.getD (i + k) (some 0)).isNone with
  | some k =>
   rw [List.find?_range_eq_some] at hf
   obtain ⟨f1, f2, f3⟩:=hf
   have hk : k < runEnd t.mask i + 1 - i:=List.mem_range.mp f2
   refine ⟨i + k, rfl, getD_none f1, k, lin k (by omega), fun m hm => ?_⟩
   rw [lin m (by omega)]
   have:=f3 m hm
   exact getD_some (by omega) (by simpa using this)
  | none =>
   have hall : ∀ m, m ≤ runEnd t.mask i - i → ∃ k, owner[i + m]? = some (some k):=fun m hm => by
    have:=List.find?_eq_none.mp hf m (List.mem_range.mpr (by omega))
    exact getD_some (by omega) (Bool.eq_false_iff.mpr this)
   have hn0 : n ≠ 0:=by
    rintro rfl
    obtain ⟨k, e⟩:=hall 0 (Nat.zero_le _)
    rw [Nat.add_zero] at e
    have h2' : owner[i]? = some none:=h2
    rw [e] at h2'
    cases h2'
   obtain ⟨n', rfl⟩ : ∃ n', n = n' + 1:=⟨n - 1, by omega⟩
   have hle : (leap t.mask i pert).1 ≤ t.mask:=by
    have:=Nat.mod_lt (i * 5 + 1 + pert / 32) (show 0 < t.mask + 1 by omega)
    show (i * 5 + 1 + pert / 32) % (t.mask + 1) ≤ t.mask
    omega
   obtain ⟨j, a, b, n2, c, d⟩:=free_ok ho F (leap t.mask i pert).1 (leap t.mask i pert).2 hle ⟨n', by omega, h2⟩
   have hlp : advN t (runEnd t.mask i - i + 1) (stP t i pert) = stP t (leap t.mask i pert).1 (leap t.mask i pert).2:=adv_leap (stP t i pert)
   refine ⟨j, a, b, runEnd t.mask i - i + 1 + n2, by rw [advN_add, hlp]; exact c, fun m hm => ?_⟩
   by_cases hmm : m < runEnd t.mask i - i + 1
   ·rw [lin m (by omega)]
    exact hall m (by omega)
   ·have e : m = runEnd t.mask i - i + 1 + (m - (runEnd t.mask i - i + 1)):=by omega
    rw [e, advN_add, hlp]
    exact d _ (by omega)
structure OwnOk (t : SetTable) (hs : List Int) (owner : Array (Option Nat)) (k : Nat) : Prop where
 size : owner.size = t.mask + 1
 perm : (owner.toList.filterMap id).Perm (List.range k)
 way : ∀ j i, owner[j]? = some (some i) → ∃ h, hs[i]? = some h ∧ PthO t owner (t.probeStart h) j
theorem fm_set {k : Nat} : ∀ (l : List (Option Nat)) (j : Nat), l[j]? = some none → ((l.set j (some k)).filterMap id).Perm (k :: l.filterMap id)
 | [], j, h => by simp at h
 | x :: l, 0, h => by
  simp at h
  subst h
  simp
 | x :: l, j + 1, h => by
  have ih:=fm_set (k:=k) l j (by simpa using h)
  cases x with
  | none => simpa using ih
  | some y =>
   simp only [List.set_cons_succ, List.filterMap_cons, id]
   exact (ih.cons y).trans (.swap k y _)
theorem fm_len : ∀ (l : List (Option Nat)), (∀ j, j < l.length → l[j]? ≠ some none) → l.length ≤ (l.filterMap id).length
 | [], _ => Nat.le_refl _
 | none :: l, h => absurd rfl (h 0 (by simp))
 | some x :: l, h => by
  have:=fm_len l fun j hj => by
   have:=h (j + 1) (by simpa using hj)
   simpa using this
  simpa using this
theorem OwnOk.step {hs : List Int} {k : Nat} {h : Int} (O : OwnOk t hs owner k) (hm : Msk t.mask) (hk : k ≤ t.mask) (hh : hs[k]? = some h) :
  ∃ j, layClean.free t.mask owner (turns t.mask) (bits h % (t.mask + 1)) (bits h) = some j ∧ OwnOk t hs (owner.setIfInBounds j (some k)) (k + 1):=by
 obtain ⟨e, he⟩ : ∃ e : Nat, owner[e]? = some none:=by
  refine Classical.byContradiction fun z => ?_
  have h1:=fm_len owner.toList fun j _ hj => z ⟨j, by rw [← Array.getElem?_toList]; exact hj⟩
  rw [O.perm.length_eq, List.length_range, Array.length_toList, O.size] at h1
  omega
 have hel : e ≤ t.mask:=by
  have:=(Array.getElem?_eq_some_iff.mp he).1
  rw [O.size] at this
  omega
 have hi : bits h % (t.mask + 1) ≤ t.mask:=by
  have:=Nat.mod_lt (bits h) (show 0 < t.mask + 1 by omega)
  omega
 obtain ⟨n, h1, h2, h3⟩:=leap_hits hm (bits h % (t.mask + 1), bits h) hi (bits_lt h) hel
 obtain ⟨j, a, b, c⟩:=free_ok O.size (turns t.mask) _ _ hi ⟨n, by unfold turns; omega, by rw [h3]; exact he⟩
 have hj : j < owner.size:=(Array.getElem?_eq_some_iff.mp b).1
 have keep : ∀ x i, owner[x]? = some (some i) → (owner.setIfInBounds j (some k))[x]? = some (some i):=fun x i hx => by
  rw [Array.getElem?_setIfInBounds]
  rw [if_neg]
  ·exact hx
  ·rintro rfl
   rw [b] at hx
   cases hx
 have keepP : ∀ {p : Probe} {x : Nat}, PthO t owner p x → PthO t (owner.setIfInBounds j (some k)) p x:=fun ⟨n, u, v⟩ => ⟨n, u, fun m hm => let ⟨i, hi⟩:=v m hm; ⟨i, keep _ _ hi⟩⟩
 refine ⟨j, a, by simp [O.size], ?_, fun x i hx => ?_⟩
 ·rw [Array.toList_setIfInBounds]
  refine (fm_set (k:=k) owner.toList j (by rw [Array.getElem?_toList]; exact b)).trans ?_
  refine (O.perm.cons k).trans ?_
  rw [List.range_succ]
  exact (List.perm_append_singleton k _).symm
 ·rw [Array.getElem?_setIfInBounds] at hx
  by_cases hjx : j = x
  ·subst hjx
   rw [if_pos rfl, if_pos hj] at hx
   cases hx
   exact ⟨h, hh, keepP c⟩
  ·rw [if_neg hjx] at hx
   obtain ⟨h', u, v⟩:=O.way x i hx
   exact ⟨h', u, keepP v⟩
end
end DL
end
section
set_option maxHeartbeats 1000000
namespace DL
open PySem PySem.Spec PyProof.Rows L2 PySem.W SO
section
variable (prog : Program) (w : World) (B : Addr → Prop)
inductive ElP (h : Heap) : List (Int × Value) → List (List Str) → Prop
 | nil : ElP h [] []
 | cons {es : List (Int × Value)} {ps : List (List Str)} (b : Addr) (its : List Value) (p : List Str) : B b → IsTup h b its.toArray → StrsAre its p → ElP h es ps → ElP h ((tupleKeyHash (strKind prog w) p, .ref b) :: es) (p :: ps)
noncomputable def SetP (h : Heap) (a : Addr) (ps : List (List Str)) : Prop :=
 ∃ o es ep t, h.get? a = some o ∧ o.ExactSet ∧ o.data = .set es ep t ∧ t.led = !byT w ∧ TabP t es.toList ∧ ElP prog w B h es.toList ps ∧ ps.Nodup ∧ es.size < 128
end
section
variable {prog : Program} {w : World} {B : Addr → Prop} {A : Around} {E : Value → Shared → Prop} {s : Shared} {a : Addr}
theorem ElP.mono {h h' : Heap} : ∀ {es : List (Int × Value)} {ps : List (List Str)}, ElP prog w B h es ps → (∀ b its, IsTup h b its → IsTup h' b its) → ElP prog w B h' es ps
 | _, _, .nil, _ => .nil
 | _, _, .cons b its p y t r e, k => .cons b its p y (k b _ t) r (e.mono k)
theorem ElP.length {h : Heap} {es : List (Int × Value)} {ps : List (List Str)} (e : ElP prog w B h es ps) : es.length = ps.length:=by
 induction e with
 | nil => rfl
 | cons b its p _ _ _ _ ih => simp [ih]
theorem ElP.at {h : Heap} {es : List (Int × Value)} {ps : List (List Str)} (e : ElP prog w B h es ps) : ∀ (i : Nat), i < es.length → ∃ b its p, es[i]? = some (tupleKeyHash (strKind prog w) p, .ref b) ∧ ps[i]? = some p ∧ IsTup h b its.toArray ∧ StrsAre its p ∧ B b:=by
 induction e with
 | nil => intro i hi; simp at hi
 | cons b its p y t r _ ih =>
  intro i hi
  cases i with
  | zero => exact ⟨b, its, p, rfl, rfl, t, r, y⟩
  | succ i => exact ih i (by simpa using hi)
theorem ElP.perm {h : Heap} {es es' : List (Int × Value)} (pm : es.Perm es') : ∀ {ps : List (List Str)}, ElP prog w B h es ps → ∃ ps', ElP prog w B h es' ps' ∧ ps.Perm ps':=by
 induction pm with
 | nil => intro ps e; exact ⟨ps, e, .refl _⟩
 | cons x _ ih =>
  intro ps e
  cases e with
  | cons b its p y t r e =>
   obtain ⟨ps', h1, h2⟩:=ih e
   exact ⟨p :: ps', .cons b its p y t r h1, h2.cons p⟩
 | swap x y l =>
  intro ps e
  cases e with
  | cons b its p y t r e =>
   cases e with
   | cons b' its' p' y' t' r' e => exact ⟨p' :: p :: _, .cons b' its' p' y' t' r' (.cons b its p y t r e), .swap p' p _⟩
 | trans _ _ ih1 ih2 =>
  intro ps e
  obtain ⟨qs, h1, h2⟩:=ih1 e
  obtain ⟨rs, h3, h4⟩:=ih2 h1
  exact ⟨rs, h3, h2.trans h4⟩
theorem ElP.bs {h : Heap} {es : List (Int × Value)} {ps : List (List Str)} (e : ElP prog w B h es ps) : ∀ v ∈ es.map (·.2), ∃ b, v = .ref b ∧ B b:=by
 induction e with
 | nil => intro v hv; cases hv
 | cons b its p y t r _ ih =>
  intro v hv
  rcases List.mem_cons.mp hv with rfl | hv
  ·exact ⟨b, rfl, y⟩
  ·exact ih v hv
end
end DL
end
section
namespace DL
open PySem PySem.Spec PyProof.Rows L2
section
variable {prog : Program} {w : World} {B : Addr → Prop} {A : Around} {E : Value → Shared → Prop} {s : Shared} {a : Addr}
end
end DL
end
section
set_option maxHeartbeats 1000000
namespace DL
open PySem PySem.Spec PyProof.Rows L2 PySem.W SO
section
variable {prog : Program} {w : World} {B : Addr → Prop} {A : Around} {E : Value → Shared → Prop} {s : Shared} {a : Addr}
theorem SetP.kept {h h' : Heap} {xs : List (List Str)} (x : SetP prog w B h a xs) (hk : ∀ b o, h.get? b = some o → h'.get? b = some o) : SetP prog w B h' a xs:=by
 obtain ⟨o, es, ep, t, ho, h1, h2, h3, h4, h5, r⟩:=x
 exact ⟨o, es, ep, t, hk _ _ ho, h1, h2, h3, h4, h5.mono fun b its ⟨u, g1, g2⟩ => ⟨u, hk _ _ g1, g2⟩, r⟩
theorem SetP.typeIs {xs : List (List Str)} (x : SetP prog w B s.heap a xs) : s.TypeIs (.ref a) "set" := by
 obtain ⟨o, es, ep, t, ho, hx, _⟩:=x
 exact ⟨o, ho, hx.1⟩
theorem SetP.len {h : Heap} {xs : List (List Str)} (x : SetP prog w B h a xs) : xs.length < 128 ∧ xs.Nodup ∧ a < h.objs.size:=by
 obtain ⟨o, es, ep, t, ho, hx, hd, hled, T, el, hn, hb⟩:=x
 have:=el.length
 rw [Array.length_toList] at this
 exact ⟨by omega, hn, Heap.lt_size ho⟩
theorem ElP.lt {h : Heap} : ∀ {es : List (Int × Value)} {ps : List (List Str)}, ElP prog w B h es ps → ElP prog w (fun b => B b ∧ b < h.objs.size) h es ps
 | _, _, .nil => .nil
 | _, _, .cons b its p y t r e => .cons b its p ⟨y, let ⟨_, g, _⟩:=t; Heap.lt_size g⟩ t r (ElP.lt e)
theorem SetP.lt {h : Heap} {xs : List (List Str)} (x : SetP prog w B h a xs) : SetP prog w (fun b => B b ∧ b < h.objs.size) h a xs:=by
 obtain ⟨o, es, ep, t, ho, h1, h2, h3, h4, h5, r⟩:=x
 exact ⟨o, es, ep, t, ho, h1, h2, h3, h4, h5.lt, r⟩
end
end DL
end
section
set_option maxHeartbeats 1000000
namespace DL
open PySem PySem.Spec PyProof.Rows L2 PySem.W SO
section
variable {prog : Program} {w : World} {B : Addr → Prop} {A : Around} {E : Value → Shared → Prop} {s : Shared} {a : Addr}
end
section
variable {X : Cx} {EX : EXT} {pins : List (Addr × Obj)} {σ : L2.St} {H : Hp} {s : Shared} {O : List Addr}
end
end DL
end
section
set_option maxHeartbeats 1000000
namespace DL
open PySem PySem.Spec PyProof.Rows L2
section
variable {M : Model} {A : Around} {E : Value → Shared → Prop} {s : Shared}
end
structure BlkD (sc scope : Scope) (N0 N : List Str) (caps : List Nat) (nT : Nat) : Prop where
 kind : scope.kind = .function
 names : ∀ y ∈ scope.names, y.2 = .local → scope.names.lookup y.1 = some .local
 free : ∀ y ∈ scope.names, y.2 = .free → sc.names.lookup y.1 = some .cell ∨ sc.names.lookup y.1 = some .free
 len : N.length = nT + caps.length
 cap : ∀ q ∈ (List.range caps.length), ∃ i x, caps[q]? = some i ∧ N[nT + q]? = some x ∧ N0[i]? = some x ∧ (x, NameKind.free) ∈ scope.names ∧ (x, NameKind.cell) ∉ scope.names ∧ ((relS scope sc).names.lookup x = some .cell ∨ (relS scope sc).names.lookup x = some .free)
noncomputable def blkBD (sc scope : Scope) (N0 N : List Str) (caps : List Nat) (nT : Nat) : Bool :=
 (scope.kind == .function) && scope.names.all (fun y => !(y.2 == .local) || scope.names.lookup y.1 == some .local) &&
  scope.names.all (fun y => !(y.2 == .free) || (sc.names.lookup y.1 == some .cell || sc.names.lookup y.1 == some .free)) && (N.length == nT + caps.length) &&
  (List.range caps.length).all fun q => match caps[q]?, N[nT + q]? with
   | some i, some x => (N0[i]? == some x) && scope.names.any (fun y => y.1 == x && y.2 == .free) && scope.names.all (fun y => !(y.1 == x && y.2 == .cell)) && ((relS scope sc).names.lookup x == some .cell || (relS scope sc).names.lookup x == some .free)
   | _, _ => false
theorem BlkD.of {sc scope : Scope} {N0 N : List Str} {caps : List Nat} {nT : Nat} (h : blkBD sc scope N0 N caps nT = true) : BlkD sc scope N0 N caps nT:=by
 unfold blkBD at h
 simp only [Bool.and_eq_true] at h
 obtain ⟨⟨⟨⟨h1, h3⟩, h4⟩, h5⟩, h6⟩:=h
 refine ⟨eq_of_beq h1, fun y hy hl => ?_, fun y hy hl => ?_, eq_of_beq h5, fun q hq => ?_⟩
 ·have:=List.all_eq_true.mp h3 y hy
  rw [hl] at this
  simpa using this
 ·have:=List.all_eq_true.mp h4 y hy
  rw [hl] at this
  simpa using this
 ·have:=List.all_eq_true.mp h6 q hq
  split at this
  ·rename_i i x e1 e2
   simp only [Bool.and_eq_true, Bool.or_eq_true, List.any_eq_true, beq_iff_eq] at this
   obtain ⟨⟨⟨g1, ⟨y, g2, g3, g4⟩⟩, g6⟩, g5⟩:=this
   refine ⟨i, x, e1, e2, g1, ?_, fun z => ?_, g5⟩
   ·obtain ⟨y1, y2⟩:=y
    simp only at g3 g4
    subst g3 g4
    exact g2
   ·have:=List.all_eq_true.mp g6 _ z
    simp at this
  ·cases this
section
variable {X : Cx} {pins : List (Addr × Obj)} {σ : L2.St} {H : Hp} {s : Shared} {scope : Scope} {N : List Str} {caps : List Nat} {nT : Nat} {fp : List Addr}
end
section
variable {X : Cx} {pins : List (Addr × Obj)} {σ : L2.St} {H : Hp} {s : Shared} {scope : Scope} {N : List Str} {fp : List Addr}
end
section
variable {X : Cx} {EX : EXT} {scope : Scope} {N : List Str} {caps : List Nat} {nT : Nat} {elt tg iter : Expr} {ifs : List Expr} {pos : Pos} {f : DI} {t : TgD} {cond : DT} {fe : DE}
end
section
variable {X : Cx} {EX : EXT} {scope : Scope} {N : List Str} {caps : List Nat} {nT : Nat} {elt tg iter : Expr} {ifs : List Expr} {pos spos py : Pos} {f : DI} {t : TgD} {cond : DT} {fe : DE} {y : Str}
end
end DL
end
section
set_option maxHeartbeats 1000000
namespace DL
open PySem PySem.Spec PyProof.Rows L2
section
variable {X : Cx} {EX : EXT} {o a e : Expr} {es : List Expr} {fo fa : DE} {g : DA} {cpos apos : Pos}
end
end DL
end
section
set_option maxHeartbeats 1000000
namespace DL
open PySem PySem.Spec PyProof.Rows L2
section
variable {X : Cx} {EX : EXT} {a b e : Expr} {es : List Expr} {fa fb : DE} {g : DA} {pos : Pos}
noncomputable def powD : D → D → Sto → Out D
 | .int x, .int y, st => if x = 10 ∧ y = 7 then .ok (.int 10000000) st else .bad
 | _, _, _ => .bad
theorem op_powD : OpD X EX (binaryOp .Pow) powD:=by
 intro pins s σ H x y v u Q I rx ry h
 obtain ⟨O, a, b, st, W, ra, rb, R⟩:=h
 unfold powD at R
 split at R
 ·rename_i i j
  by_cases hc : i = 10 ∧ j = 7
  ·rw [if_pos hc] at R
   obtain ⟨rfl, rfl⟩:=hc
   rw [Rep.int_i] at ra rb
   subst ra rb
   obtain ⟨t, rfl⟩:=rx
   obtain ⟨t', rfl⟩:=ry
   refine PySem.AutoIntOps.pow_4 (by decide) (by decide) (by decide) (by decide) (by decide +kernel) ?_
   exact ⟨.int _, H, I.tok _, ⟨_, rfl⟩, Run.now (k:=Val X.K Q) R W _ (Rep.int_i.mpr rfl)⟩
  ·rw [if_neg hc] at R; exact R.elim
 ·exact R.elim
noncomputable def strID : List D → Sto → Out D
 | [.int i], st => if i.natAbs ≤ 1000 then .ok (.str (toString i)) st else .bad
 | _, _ => .bad
theorem call_strID : CallD X EX (.type "str") strID := by
 intro pins s σ H xs us Q I rx h
 obtain ⟨O, ds, st, W, r, R⟩:=h
 unfold strID at R
 split at R
 ·rename_i i
  by_cases hc : i.natAbs ≤ 1000
  ·rw [if_pos hc] at R
   obtain ⟨v, rfl, rv⟩:=r.one_of
   rw [Rep.int_i] at rv
   subst rv
   obtain ⟨u, rfl, t, rfl⟩:=vals1 rx
   refine PySem.P.str_of_int ?_ ?_
   ·have : i.natAbs.log2 ≤ (1000 : Nat):=Nat.le_trans (Nat.log2_le_self _) hc
    omega
   ·exact ⟨.str _, H, I.tok _, ⟨_, rfl⟩, Run.now (k:=Val X.K Q) R W _ (Rep.str_i.mpr rfl)⟩
  ·rw [if_neg hc] at R; exact R.elim
 ·exact R.elim
noncomputable def notInS : D → D → Sto → Out D
 | .str y, .str x, st => .ok (.bl (!PySem.Txt.contains x y)) st
 | _, _, _ => .bad
theorem op_notInS : OpD X EX (compareOp .NotIn) notInS:=by
 intro pins s σ H x y v u Q I rx ry h
 obtain ⟨O, a, b, st, W, ra, rb, R⟩:=h
 unfold notInS at R
 split at R
 ·rw [Rep.str_i] at ra rb
  subst ra rb
  obtain ⟨t, rfl⟩:=rx
  obtain ⟨t', rfl⟩:=ry
  exact SB.notContains ⟨.bl _, H, I, rfl, Run.now (k:=Val X.K Q) R W _ (Rep.bl_i.mpr rfl)⟩
 ·exact R.elim
structure TupG (K : PySem.W.Frag) (T : Addr) (ws : List Str) : Prop where
 ex : ∃ (o : Obj) (its : Array Value) (n : Nat), K.lookup T = some o ∧ o.cls = .type "tuple" ∧ o.data = .seq its n ∧ its.size ≤ sizeLine ∧ StrsAre its.toList ws
noncomputable def dInG (ws : List Str) (fa : DE) : DE:=fun ρ st => (fa ρ st).bind fun d st1 => match inN st1 depth d (ws.map D.str) with
 | some k => .ok (.bl k) st1
 | none => .bad
theorem strs_vals : ∀ {vs : List Value} {ws : List Str}, StrsAre vs ws → Vals (ws.map V.str) vs
 | _, _, .nil => .nil
 | _, _, .cons x t r => .cons ⟨t, rfl⟩ (strs_vals r)
theorem inG_op {T : Addr} {ws : List Str} (hu : X.A.units + 64 < cLine) (hT : TupG X.K T ws) : OpR X (compareOp .In) (fun x y H Q => y = .ref T ∧ ∃ O d st, WR X.K O H st ∧ Rep X.K O H d x ∧ Run X.K EX O H (match inN st depth d (ws.map D.str) with | some k => .ok (.bl k) st | none => .bad) (Val X.K Q)):=by
 intro pins s σ H x y v u Q I rx ry h
 obtain ⟨rfl, O, d, st, W, rd, R⟩:=h
 cases ry
 cases e2 : inN st depth d (ws.map D.str) with
 | none => rw [e2] at R; exact R.elim
 | some k =>
  rw [e2] at R
  have fin : EP X pins σ Q (.bool k) s:=⟨.bl k, H, I, rfl, Run.now (k:=Val X.K Q) R W _ (Rep.bl_i.mpr rfl)⟩
  obtain ⟨o, its, n, h1, h2, h3, h4, h5⟩:=hT.ex
  have q : SqT X.K H T (ws.map V.str):=.inr ⟨o, its, n, h1, h2, h3, h4, strs_vals h5⟩
  obtain ⟨its', hv, hp, _⟩:=I.tuple q
  have r : Reps X.K O H (ws.map D.str) (ws.map V.str):=str_reps ws
  obtain ⟨e, _, g1, g2⟩:=in_items I W rd rx (in_units hu) e2 r hv
  exact SeqAt.in_tupleAt e hp (fun z hz => g1 z (by simpa using hz)) (by simpa [g2] using fin)
theorem inG_imp {T : Addr} {ws : List Str} {te : TE} : ∀ σ H Q, tD X.K EX (dInG ws fa) σ H Q → tOp (fun x y H Q => y = .ref T ∧ ∃ O d st, WR X.K O H st ∧ Rep X.K O H d x ∧ Run X.K EX O H (match inN st depth d (ws.map D.str) with | some k => .ok (.bl k) st | none => .bad) (Val X.K Q)) (tD X.K EX fa) (tC (.ref T)) σ H Q:=by
 rintro σ H Q ⟨O, ρ, st, W, E, R⟩
 exact ⟨O, ρ, st, W, E, R.bind.mono fun x st1 O1 H1 k1 W1 R1 v r => ⟨rfl, O1, x, st1, W1, r, R1⟩⟩
theorem pd_inG {T : Addr} {ws : List Str} {n : Str} {p : Pos} (hu : X.A.units + 64 < cLine) (hT : TupG X.K T ws) (hg : Gl X n) (hm : X.mg n = some (.ref T)) (ha : PD X EX a fa) (hb : behindInMarks .In (.Name n p) = false := by first | exact nomark _ (by decide) (by decide) | with_unfolding_all rfl) (hdb : (n == ("__debug__" : Str)) = false := by decide) : PD X EX (.Compare a [.In] [.Name n p] pos) (dInG ws fa) :=
 PE.mono (pe_cmpR (inG_op (EX:=EX) hu hT) ha (pe_glob (v:=.ref T) hg hm rfl hdb) hb) (inG_imp (te:=tC (.ref T)))
@[simp] theorem z_inG {ws : List Str} {ρ : Ev} {st : Sto} : dInG ws fa ρ st = (fa ρ st).bind fun d st1 => match inN st1 depth d (ws.map D.str) with
 | some k => .ok (.bl k) st1
 | none => .bad:=rfl
noncomputable def constD : Const → D
 | .int i => .int i
 | .bool b => .bl b
 | .str x => .str x
 | _ => .non
noncomputable def plainC : Const → Bool
 | .int _ => true
 | .bool _ => true
 | .str _ => true
 | .none => true
 | _ => false
noncomputable def dRow (ds : List D) (g : DA) : DA:=fun ρ st => (g ρ st).bind fun xs st1 => .ok (ds ++ xs) st1
@[simp] theorem z_dRow {ds : List D} {ρ : Ev} {st : Sto} : dRow ds g ρ st = (g ρ st).bind fun xs st1 => .ok (ds ++ xs) st1:=rfl
theorem pda_row (hr : PDA X EX es g) : ∀ (cs : List (Const × Nat × Pos)), cs.all (fun c => plainC c.1) = true → PDA X EX ((cs.map fun c => Expr.Constant c.1 c.2.1 c.2.2) ++ es) (dRow (cs.map fun c => constD c.1) g)
 | [], _ => by
  have h : dRow (([] : List (Const × Nat × Pos)).map fun c => constD c.1) g = g:=by
   funext ρ st
   show (g ρ st).bind _ = _
   cases g ρ st <;> rfl
  rw [h]
  exact hr
 | c :: cs, h => by
  rw [List.all_cons, Bool.and_eq_true] at h
  have h2 : dRow ((c :: cs).map fun c => constD c.1) g = dCons (dC (constD c.1)) (dRow (cs.map fun c => constD c.1) g):=by
   funext ρ st
   show (g ρ st).bind _ = _
   show _ = (Out.ok (constD c.1) st).bind fun x st1 => ((g ρ st1).bind fun xs st2 => .ok (cs.map (fun c => constD c.1) ++ xs) st2).bind fun xs st2 => .ok (x :: xs) st2
   rw [bind_ok]
   cases g ρ st <;> rfl
  rw [h2]
  have hc : PD X EX (Expr.Constant c.1 c.2.1 c.2.2) (dC (constD c.1)):=by
   obtain ⟨c1, c2, c3⟩:=c
   cases c1 with
   | int i => exact pd_int
   | bool b => exact pd_bl
   | str x => exact pd_str
   | none => exact pd_non
   | _ => cases h.1
  exact pda_cons hc (pda_row hr cs h.2)
theorem pds_bad {ss : List Stmt} : PDS X EX ss sBad:=by
 rintro pins s σ H Dn I ⟨O, ρ, st, W, E, R⟩
 exact R.elim
end
end DL
end
section
set_option maxHeartbeats 2000000
namespace DL
open PySem PySem.Spec PyProof.Rows L2
noncomputable def valE : Nat → Expr → Option D
 | 0, _ => none
 | _ + 1, .Constant c _ _ => if plainC c = true then some (constD c) else none
 | _ + 1, .UnaryOp .USub (.Constant (.int i) _ _) _ => some (.int (-i))
 | n + 1, .Tuple es _ _ => (es.mapM (valE n)).bind fun ds => if ds.length ≤ small then some (.tup ds) else none
 | n + 1, .List es _ => (es.mapM (valE n)).bind fun ds => if ds.length ≤ small then some (.lst ds) else none
 | _, _ => none
noncomputable def dVals : List D → DA
 | [] => dNil
 | d :: ds => dCons (dC d) (dVals ds)
theorem dVals_ok (ρ : Ev) (st : Sto) : ∀ ds : List D, dVals ds ρ st = .ok ds st
 | [] => rfl
 | d :: ds => by
  show (Out.ok d st).bind (fun x st1 => (dVals ds ρ st1).bind fun xs st2 => .ok (x :: xs) st2) = _
  rw [bind_ok, dVals_ok ρ st ds]
  rfl
section
variable {X : Cx} {EX : EXT}
theorem val_star {n : Nat} {e : Expr} {d : D} (h : valE n e = some d) (es : List Expr) : starEach (e :: es) X.env = (false, eval e X.env) :: starEach es X.env:=by
 cases n with
 | zero => cases h
 | succ n => cases e <;> first | rfl | (cases h)
theorem pda_vals (n : Nat) (ih : ∀ (e : Expr) (d : D), valE n e = some d → PD X EX e (dC d)) : ∀ (es : List Expr) (ds : List D), es.mapM (valE n) = some ds → PDA X EX es (dVals ds)
 | [], ds, h => by
  cases h
  exact pda_nil
 | e :: es, ds, h => by
  rw [List.mapM_cons] at h
  cases h1 : valE n e with
  | none => rw [h1] at h; cases h
  | some d =>
   cases h2 : es.mapM (valE n) with
   | none => rw [h1, h2] at h; cases h
   | some ds' =>
    rw [h1, h2] at h
    cases h
    exact pda_cons (ih e d h1) (pda_vals n ih es ds' h2) (val_star h1 es)
theorem pd_val : ∀ (n : Nat) (e : Expr) (d : D), valE n e = some d → PD X EX e (dC d)
 | 0, _, _, h => by cases h
 | n + 1, e, d, h => by
  have ih:=pd_val n
  unfold valE at h
  split at h
  ·cases h
  ·rename_i c _ _ heq
   by_cases hc : plainC c = true
   ·rw [if_pos hc] at h
    cases h
    cases c with
    | int i => exact pd_int
    | bool b => exact pd_bl
    | str x => exact pd_str
    | none => exact pd_non
    | _ => cases hc
   ·rw [if_neg hc] at h; cases h
  ·cases h
   have e1 : ∀ i : Int, dNeg (dC (.int i)) = dC (.int (-i)):=fun i => rfl
   rw [← e1]
   exact pd_neg pd_int
  ·rename_i es _ _ heq
   cases heq
   cases h2 : es.mapM (valE n) with
   | none => rw [h2] at h; cases h
   | some ds =>
    rw [h2, Option.bind_some] at h
    by_cases hc : ds.length ≤ small
    ·rw [if_pos hc] at h
     cases h
     have e1 : dTup (dVals ds) = dC (.tup ds):=by
      funext ρ st
      show (dVals ds ρ st).bind _ = _
      rw [dVals_ok, bind_ok, if_pos hc]
      rfl
     rw [← e1]
     exact pd_tup (pda_vals n ih es ds h2)
    ·rw [if_neg hc] at h; cases h
  ·rename_i es _ heq
   cases heq
   cases h2 : es.mapM (valE n) with
   | none => rw [h2] at h; cases h
   | some ds =>
    rw [h2, Option.bind_some] at h
    by_cases hc : ds.length ≤ small
    ·rw [if_pos hc] at h
     cases h
     have e1 : dF (dLst (dVals ds)) = dC (.lst ds):=by
      funext ρ st
      show ((dVals ds ρ st).bind _).bind _ = _
      rw [dVals_ok, bind_ok, if_pos hc]
      rfl
     rw [← e1]
     exact pd_F (pdf_lst (pda_vals n ih es ds h2))
    ·rw [if_neg hc] at h; cases h
  ·cases h
theorem pda_val (n : Nat) {es : List Expr} {ds : List D} (h : es.mapM (valE n) = some ds) : PDA X EX es (dVals ds):=pda_vals n (pd_val n) es ds h
end
noncomputable def sameD : Nat → D → D → Bool
 | _ + 1, .non, .non => true
 | _ + 1, .bl a, .bl b => a == b
 | _ + 1, .int a, .int b => a == b
 | _ + 1, .str a, .str b => a == b
 | n + 1, .tup a, .tup b => a.length == b.length && (a.zip b).all fun p => sameD n p.1 p.2
 | n + 1, .lst a, .lst b => a.length == b.length && (a.zip b).all fun p => sameD n p.1 p.2
 | _, _, _ => false
theorem same_all (n : Nat) (ih : ∀ a b, sameD n a b = true → a = b) : ∀ (a b : List D), (a.length == b.length && (a.zip b).all fun p => sameD n p.1 p.2) = true → a = b
 | [], [], _ => rfl
 | [], _ :: _, h => by simp at h
 | _ :: _, [], h => by simp at h
 | x :: a, y :: b, h => by
  rw [Bool.and_eq_true] at h
  have h2:=h.2
  rw [List.zip_cons_cons, List.all_cons, Bool.and_eq_true] at h2
  rw [ih x y h2.1, same_all n ih a b (by rw [Bool.and_eq_true]; exact ⟨by simpa using h.1, h2.2⟩)]
theorem same_eq : ∀ (n : Nat) (a b : D), sameD n a b = true → a = b
 | 0, a, b, h => by cases a <;> cases b <;> cases h
 | n + 1, a, b, h => by
  cases a <;> cases b <;> first | rfl | (cases h; done) | skip
  ·rw [eq_of_beq h]
  ·rw [eq_of_beq h]
  ·rw [eq_of_beq h]
  ·rw [same_all n (same_eq n) _ _ h]
  ·rw [same_all n (same_eq n) _ _ h]
section
variable {X : Cx} {EX : EXT}
theorem pd_vc (n : Nat) {e : Expr} {d : D} (h : ((valE n e).any fun x => sameD n x d) = true) : PD X EX e (dC d):=by
 cases h2 : valE n e with
 | none => rw [h2] at h; cases h
 | some x =>
  rw [h2] at h
  have:=same_eq n x d h
  subst this
  exact pd_val n e x h2
theorem pda_vc (n : Nat) {es : List Expr} {ds : List D} (h : ((es.mapM (valE n)).any fun xs => sameD (n + 1) (.tup xs) (.tup ds)) = true) : PDA X EX es (dVals ds):=by
 cases h2 : es.mapM (valE n) with
 | none => rw [h2] at h; cases h
 | some xs =>
  rw [h2] at h
  have:=same_eq (n + 1) (.tup xs) (.tup ds) h
  cases this
  exact pda_val n h2
end
end DL
end
section
namespace DL
open PySem PySem.Spec PyProof.Rows L2
mutual
noncomputable def nice : Nat → D → Bool
 | 0, _ => false
 | _ + 1, .non => true
 | _ + 1, .int _ => true
 | _ + 1, .str _ => true
 | n + 1, .tup xs => niceL n xs
 | n + 1, .lst xs => niceL n xs
 | _ + 1, _ => false
noncomputable def niceL : Nat → List D → Bool
 | _, [] => true
 | n, x :: xs => nice n x && niceL n xs
end
theorem niceL_all (n : Nat) : ∀ xs : List D, niceL n xs = true ↔ ∀ x ∈ xs, nice n x = true
 | [] => by simp [niceL]
 | x :: xs => by simp [niceL, niceL_all n xs]
open Classical in
theorem eqItems_nice {f : D → D → Option Bool} : ∀ (xs ys : List D), (∀ x ∈ xs, ∀ y ∈ ys, f x y = some (decide (x = y))) → eqItems f xs ys = some (decide (xs = ys))
 | [], [], _ => by simp [eqItems]
 | [], y :: ys, _ => by simp [eqItems]
 | x :: xs, [], _ => by simp [eqItems]
 | x :: xs, y :: ys, h => by
  unfold eqItems
  rw [h x List.mem_cons_self y List.mem_cons_self, eqItems_nice xs ys fun a ha b hb => h a (List.mem_cons_of_mem _ ha) b (List.mem_cons_of_mem _ hb)]
  by_cases h1 : x = y <;> by_cases h2 : xs = ys <;> simp [h1, h2]
open Classical in
theorem eqN_nice (st : Sto) : ∀ (n : Nat) (a b : D), nice n a = true → nice n b = true → eqN st n a b = some (decide (a = b))
 | 0, a, b, h, _ => by cases a <;> simp [nice] at h
 | n + 1, a, b, ha, hb => by
  unfold eqN
  cases a <;> cases b <;> simp only [nice, Bool.false_eq_true] at ha hb <;> simp only [kd]
  case tup.tup xs ys =>
   rw [eqItems_nice xs ys fun x hx y hy => eqN_nice st n x y ((niceL_all n xs).mp ha x hx) ((niceL_all n ys).mp hb y hy)]
   simp
  case lst.lst xs ys =>
   rw [eqItems_nice xs ys fun x hx y hy => eqN_nice st n x y ((niceL_all n xs).mp ha x hx) ((niceL_all n ys).mp hb y hy)]
   simp
  all_goals simp [Bool.beq_eq_decide_eq]
open Classical in
theorem eqD_nice {a b : D} {st : Sto} (ha : nice depth a = true) (hb : nice depth b = true) : eqD a b st = .ok (.bl (decide (a = b))) st:=by
 unfold eqD; rw [eqN_nice st depth a b ha hb]
open Classical in
theorem neD_nice {a b : D} {st : Sto} (ha : nice depth a = true) (hb : nice depth b = true) : neD a b st = .ok (.bl (!decide (a = b))) st:=by
 unfold neD; rw [eqN_nice st depth a b ha hb]
noncomputable def pl (ws : List Str) : D:=.tup (ws.map .str)
theorem neD_str (x y : Str) (st : Sto) : neD (.str x) (.str y) st = .ok (.bl (!decide (x = y))) st:=by
 rw [neD_nice rfl rfl]
 congr 3
 exact decide_eq_decide.mpr (by rw [D.str.injEq])
theorem eqD_int (x y : Int) (st : Sto) : eqD (.int x) (.int y) st = .ok (.bl (decide (x = y))) st:=by
 rw [eqD_nice rfl rfl]
 congr 2
 exact decide_eq_decide.mpr (by rw [D.int.injEq])
theorem neD_bl (x y : Bool) (st : Sto) : neD (.bl x) (.bl y) st = .ok (.bl (!(x == y))) st:=rfl
theorem cutL_map {α β : Type} (f : α → β) (xs : List α) (lo hi : Option Int) : cutL (xs.map f) lo hi = (cutL xs lo hi).map f:=by
 simp [cutL, List.map_take, List.map_drop]
theorem cut_pl (ws : List Str) (lo hi : Option Int) (st : Sto) : cutT (pl ws) lo hi st = .ok (pl (cutL ws lo hi)) st:=by
 simp [cutT, pl, cutL_map]
theorem cutL_to {α : Type} (xs : List α) (n : Nat) : cutL xs none (some (n : Int)) = xs.take n:=by
 unfold cutL
 rw [HT.sIx_none, HT.sIx_nat, List.drop_zero, Nat.sub_zero]
 by_cases h : n ≤ xs.length
 ·rw [Nat.min_eq_left h]
 ·rw [Nat.min_eq_right (by omega), List.take_length, List.take_of_length_le (by omega)]
theorem tuple_lst (xs : List D) (st : Sto) : tupleD [.lst xs] st = .ok (.tup xs) st:=rfl
theorem compD_map {chk : Sto → Prop} {t : TgD} {fe : DE} {st : Sto} (IE : Ev → Prop) (h : D → D) (hc : chk st) : ∀ (xs : List D) (ρ : Ev) (acc : List D), IE ρ → acc.length + xs.length ≤ small →
  (∀ x ∈ xs, ∀ ρ, IE ρ → ∃ ρ1, t x ρ = some ρ1 ∧ IE ρ1 ∧ fe ρ1 st = .ok (h x) st) → compD chk t dTrue fe xs ρ st acc = .ok (acc ++ xs.map h) st
 | [], ρ, acc, _, _, _ => by simp [compD, hc]
 | x :: xs, ρ, acc, hI, hl, hx => by
  obtain ⟨ρ1, e1, h1, e2⟩:=hx x List.mem_cons_self ρ hI
  unfold compD
  rw [if_pos ⟨hc, by simp at hl; omega⟩, e1]
  dsimp only [dTrue]
  rw [e2]
  dsimp only
  rw [compD_map IE h hc xs ρ1 (acc ++ [h x]) h1 (by simp at hl ⊢; omega) fun y hy => hx y (List.mem_cons_of_mem _ hy)]
  simp
theorem loop_nil {chk : Sto → Prop} {t : TgD} {g : DS} {ρ : Ev} {st : Sto} (hc : chk st) : loopD chk t g [] ρ st = .nx ρ st:=by
 unfold loopD; rw [if_pos hc]
theorem loop_nx {chk : Sto → Prop} {t : TgD} {g : DS} {x : D} {xs : List D} {ρ ρ1 ρ2 : Ev} {st st2 : Sto} (hc : chk st) (ht : t x ρ = some ρ1) (hg : g ρ1 st = .nx ρ2 st2) : loopD chk t g (x :: xs) ρ st = loopD chk t g xs ρ2 st2:=by
 rw [loopD, if_pos hc, ht]; dsimp only; rw [hg]
theorem mulOk_r (i j : Int) (h1 : -(2 ^ 64) < j) (h2 : j < 2 ^ 64) : mulOk i j = true:=by
 unfold mulOk
 rw [decide_eq_true h1, decide_eq_true h2]
 simp
theorem mulOk_l (i j : Int) (h1 : -(2 ^ 64) < i) (h2 : i < 2 ^ 64) : mulOk i j = true:=by
 unfold mulOk
 rw [decide_eq_true h1, decide_eq_true h2]
 simp
theorem mul2_int (i j : Int) (st : Sto) (h : mulOk i j = true) : mul2D (.int i) (.int j) st = .ok (.int (i * j)) st:=by
 simp [mul2D, mulD, intOp, h]
theorem mod_int (i j : Int) (st : Sto) (h : 0 < j) : modD (.int i) (.int j) st = .ok (.int (i % j)) st:=by
 simp [modD, intOp, h]
theorem fdiv_int (i j : Int) (st : Sto) (h : 0 < j) (h2 : j < 1073741824) : fdivD (.int i) (.int j) st = .ok (.int (i / j)) st:=by
 have e : divOk i j = true:=@decide_eq_true (0 < j ∧ j < 1073741824) (Classical.propDecidable _) ⟨h, h2⟩
 simp [fdivD, intOp, e]
theorem addD_int (a b : Int) (st : Sto) : addD (.int a) (.int b) st = .ok (.int (a + b)) st:=rfl
theorem subD_int (a b : Int) (st : Sto) : subD (.int a) (.int b) st = .ok (.int (a - b)) st:=rfl
theorem law_sp {K : PySem.W.Frag} {F : FD} (hF : ∀ ns : List Int, ns.length ≤ 63 → ∃ st, F [.scr (ns.map .int)] [] = .ok (.bl true) st) (H : Hp) (a : Addr) (ns : List Int) (hl : ns.length ≤ 63) (ho : Only H) (hs : SqL K H a (ns.map V.int)) :
  spD K F [.ref a] H (fun v _ => v = .bl true) fun _ _ _ => False:=by
 obtain ⟨st, e⟩:=hF ns hl
 refine ⟨[], [.scr (ns.map .int)], [], ⟨rfl, List.nodup_nil, fun i a s h => by simp at h⟩, Reps.one (Rep.scr_i.mpr ⟨a, _, rfl, SqF.of hs ?_, ?_⟩), ?_⟩
 ·rcases ho a with h | ⟨o, xs, h⟩ <;> rw [h] <;> intro z <;> cases z
 ·have : ∀ (ms : List Int), Reps K [] H (ms.map D.int) (ms.map V.int):=by
   intro ms
   induction ms with
   | nil => exact Reps.nil_i.mpr rfl
   | cons m ms ih => exact Reps.cons_i.mpr ⟨_, _, rfl, Rep.int_i.mpr rfl, ih⟩
  exact this ns
 ·rw [e]
  exact fun O' H' _ _ v r => Rep.bl_i.mp r
section
variable {α β : Type} {ρ : Ev} {st : Sto} {f fa fb fc fo : DE} {ta tb t : DT} {g g' : DS} {da : DA} {i : Nat} {G : D → D → Sto → Out D} {H : D → D → Sto → Out (List D)}
@[simp] theorem z_bind_ok (a : α) (st : Sto) (k : α → Sto → Out β) : (Out.ok a st).bind k = k a st:=rfl
@[simp] theorem z_bind_bad (k : α → Sto → Out β) : (Out.bad : Out α).bind k = .bad:=rfl
@[simp] theorem z_to_ok (a : α) (st : Sto) (k : α → Sto → OutS) : (Out.ok a st).to k = k a st:=rfl
@[simp] theorem z_var : dVar i ρ st = match ρ[i]? with
 | some (some d) => .ok d st
 | _ => .bad:=rfl
@[simp] theorem z_C (d : D) : dC d ρ st = .ok d st:=rfl
@[simp] theorem z_bin : dBin G fa fb ρ st = (fa ρ st).bind fun x st1 => (fb ρ st1).bind fun y st2 => G x y st2:=rfl
@[simp] theorem z_binF : dBinF H fa fb ρ st = (fa ρ st).bind fun x st1 => (fb ρ st1).bind fun y st2 => H x y st2:=rfl
@[simp] theorem z_B : dB f ρ st = (f ρ st).bind asB:=rfl
@[simp] theorem z_asB (b : Bool) : asB (.bl b) st = .ok b st:=rfl
@[simp] theorem z_asInt (b : Int) : asInt (.int b) st = .ok (some b) st:=rfl
@[simp] theorem z_and : dAnd ta tb ρ st = (ta ρ st).bind fun x st1 => if x = true then tb ρ st1 else .ok false st1:=rfl
@[simp] theorem z_or : dOr ta tb ρ st = (ta ρ st).bind fun x st1 => if x = true then .ok true st1 else tb ρ st1:=rfl
@[simp] theorem z_not : dNot ta ρ st = (ta ρ st).bind fun x st1 => .ok (!x) st1:=rfl
@[simp] theorem z_andV : dAndV fa fb ρ st = (fa ρ st).bind fun d st1 => (asB d st1).bind fun x st2 => if x = true then fb ρ st2 else .ok (.bl false) st2:=rfl
@[simp] theorem z_orV : dOrV fa fb ρ st = (fa ρ st).bind fun d st1 => (asB d st1).bind fun x st2 => if x = true then .ok (.bl true) st2 else fb ρ st2:=rfl
@[simp] theorem z_notV : dNotV fa ρ st = (fa ρ st).bind fun d st1 => (asB d st1).bind fun x st2 => .ok (.bl (!x)) st2:=rfl
@[simp] theorem z_if : dIf t fa fb ρ st = (t ρ st).bind fun x st1 => if x = true then fa ρ st1 else fb ρ st1:=rfl
@[simp] theorem z_chain {G' : D → D → Sto → Out D} : dChain G G' fa fb fc ρ st = (fa ρ st).bind fun x st1 => (fb ρ st1).bind fun y st2 => (G x y st2).bind fun z st3 => (asB z st3).bind fun k st4 =>
 if k = true then (fc ρ st4).bind fun w st5 => G' y w st5 else .ok (.bl false) st4:=rfl
@[simp] theorem z_nil : dNil ρ st = .ok [] st:=rfl
@[simp] theorem z_cons : dCons f da ρ st = (f ρ st).bind fun x st1 => (da ρ st1).bind fun xs st2 => .ok (x :: xs) st2:=rfl
@[simp] theorem z_tup : dTup da ρ st = (da ρ st).bind fun xs st1 => if xs.length ≤ small then .ok (.tup xs) st1 else .bad:=rfl
@[simp] theorem z_lst : dLst da ρ st = (da ρ st).bind fun xs st1 => if xs.length ≤ small then .ok xs st1 else .bad:=rfl
@[simp] theorem z_F : dF da ρ st = (da ρ st).bind fun xs st1 => .ok (.lst xs) st1:=rfl
@[simp] theorem z_sl {γ : D → Option Int → Option Int → Sto → Out α} {l h : DO} : dSl γ f l h ρ st = (f ρ st).bind fun x st1 => (l ρ st1).bind fun lo st2 => (h ρ st2).bind fun hi st3 => γ x lo hi st3:=rfl
@[simp] theorem z_noPart : dNoPart ρ st = .ok none st:=rfl
@[simp] theorem z_part : dPart f ρ st = (f ρ st).bind asInt:=rfl
@[simp] theorem z_call {γ : List D → Sto → Out α} : dCall γ da ρ st = (da ρ st).bind γ:=rfl
@[simp] theorem z_comp {caps : List Nat} {nT : Nat} {fi : DI} {tg : TgD} : dComp caps nT fi tg t f ρ st = (fi ρ st).bind fun q st1 => compD q.2 tg t f q.1 (capEv ρ caps nT) st1 []:=rfl
@[simp] theorem z_seq : dSeq f ρ st = (f ρ st).bind fun d st1 => match itemsOf st1 d with
 | some xs => .ok (xs, fun st => itemsOf st d = some xs) st1
 | none => .bad:=rfl
@[simp] theorem z_inst {T : String} : dInst T f ρ st = (f ρ st).bind fun d st1 => match tyName d with
 | some t => .ok (.bl (subTy t T)) st1
 | none => .bad:=rfl
@[simp] theorem z_neg : dNeg f ρ st = (f ρ st).bind fun d st1 => match d with
 | .int i => .ok (.int (-i)) st1
 | _ => .bad:=rfl
@[simp] theorem z_sNext : sNext ρ st = .nx ρ st:=rfl
@[simp] theorem z_sSeq : sSeq g g' ρ st = match g ρ st with
 | .nx ρ' st' => g' ρ' st'
 | r => r:=rfl
@[simp] theorem z_sExpr : sExpr f ρ st = (f ρ st).to fun _ st1 => .nx ρ st1:=rfl
@[simp] theorem z_sRet : sRet f ρ st = (f ρ st).to fun d st1 => .rt d st1:=rfl
@[simp] theorem z_sIf : sIf t g g' ρ st = (t ρ st).to fun x st1 => if x = true then g ρ st1 else g' ρ st1:=rfl
@[simp] theorem z_sSet : sSet i f ρ st = (f ρ st).to fun d st1 => .nx (ρ.set i (some d)) st1:=rfl
@[simp] theorem z_sSetF : sSetF i da ρ st = (da ρ st).to fun ds st1 => .nx (ρ.set i (some (.res st1.length))) (st1 ++ [.lst ds]):=rfl
@[simp] theorem z_sFor {fi : DI} {tg : TgD} : sFor fi tg g ρ st = (fi ρ st).to fun q st1 => loopD q.2 tg g q.1 ρ st1:=rfl
@[simp] theorem z_runF {N n : Nat} {ds : List D} : runF N n g ds st = if ds.length = n then (match g (ds.map some ++ List.replicate (N - n) none) st with
 | .nx _ st' => .ok .non st'
 | .rt d st' => .ok d st'
 | _ => .bad) else .bad:=rfl
@[simp] theorem z_addD (a b : Int) (st : Sto) : addD (.int a) (.int b) st = .ok (.int (a + b)) st:=rfl
@[simp] theorem z_subD (a b : Int) (st : Sto) : subD (.int a) (.int b) st = .ok (.int (a - b)) st:=rfl
theorem small_ge {n : Nat} (h : n ≤ 1000) : n ≤ small:=Nat.le_trans h (by decide)
@[simp] theorem z_small0 : (0 : Nat) ≤ small:=Nat.zero_le _
@[simp] theorem z_small1 : (1 : Nat) ≤ small:=by decide
@[simp] theorem z_small2 : (2 : Nat) ≤ small:=by decide
@[simp] theorem z_small3 : (3 : Nat) ≤ small:=by decide
@[simp] theorem z_small4 : (4 : Nat) ≤ small:=by decide
@[simp] theorem z_small5 : (5 : Nat) ≤ small:=by decide
@[simp] theorem z_small6 : (6 : Nat) ≤ small:=by decide
end
end DL
end
section
namespace K01
open PySem L2 DL
noncomputable def top (i : Nat) : Stmt:=PySem.Challenge.pw_cardplaces_k01_known.main.body.getD i (.Pass ⟨0, 0, 0, 0⟩)
noncomputable abbrev sz_law_cell : Stmt:=top 24
theorem scz_law_cell : FnScope ["_law_script", "_law_k"] ["_law_script", "_law_k"] (defScope sz_law_cell) := ⟨rfl, rfl, rfl, by decide +kernel, rfl, by decide +kernel, by decide +kernel⟩
noncomputable def gz_law_cell : DS:=(sSeq (sIf (dB (dBin eqD (dVar 0) (dF (dLst dNil)))) (sRet (dBin mul2D (dC (.int 7)) (dVar 1))) sNext) (sRet (dBin addD (dBin ixD (dVar 0) (dBin modD (dVar 1) (dCall lenD (dCons (dVar 0) dNil)))) (dBin mul2D (dC (.int 6553)) (dBin fdivD (dVar 1) (dCall lenD (dCons (dVar 0) dNil)))))))
noncomputable def Fz_law_cell : FD:=runF 2 2 (gz_law_cell)
noncomputable abbrev sz_law_drawn : Stmt:=top 25
theorem scz_law_drawn : FnScope ["_law_script", "_law_k", "_law_many", "_law_cell_here"] ["_law_script", "_law_k", "_law_many"] (defScope sz_law_drawn) := ⟨rfl, rfl, rfl, by decide +kernel, rfl, by decide +kernel, by decide +kernel⟩
noncomputable def gz_law_drawn : DS:=(sSeq (sSet 3 (dBin modD (dBin addD (dBin mul2D (dBin modD (dCall Fz_law_cell (dCons (dVar 0) (dCons (dVar 1) dNil))) (dC (.int 2147483563))) (dC (.int 69069))) (dBin mul2D (dC (.int 104723)) (dBin addD (dVar 1) (dC (.int 1))))) (dC (.int 2147483563)))) (sSeq (sSet 3 (dBin modD (dBin addD (dBin mul2D (dVar 3) (dVar 3)) (dBin fdivD (dVar 3) (dC (.int 3)))) (dC (.int 2147483399)))) (sRet (dBin modD (dBin fdivD (dBin modD (dBin addD (dBin mul2D (dVar 3) (dVar 3)) (dBin fdivD (dVar 3) (dC (.int 7)))) (dC (.int 2147483647))) (dC (.int 11))) (dVar 2)))))
noncomputable def Fz_law_drawn : FD:=runF 4 3 (gz_law_drawn)
noncomputable abbrev sz_law_place : Stmt:=top 26
theorem scz_law_place : FnScope ["_law_script", "_law_at"] ["_law_script", "_law_at"] (defScope sz_law_place) := ⟨rfl, rfl, rfl, by decide +kernel, rfl, by decide +kernel, by decide +kernel⟩
noncomputable def Ez_law_place_1 : DE := (dBin ixD (dC (.str "abc")) (dCall Fz_law_drawn (dCons (dVar 1) (dCons (dBin addD (dBin addD (dVar 2) (dC (.int 1))) (dVar 0)) (dCons (dC (.int 3)) dNil)))))
noncomputable def gz_law_place : DS:=(sRet (dCall tupleD (dCons (dF (dComp [0, 1] 1 (dRng1 (dCons (dCall Fz_law_drawn (dCons (dVar 0) (dCons (dVar 1) (dCons (dC (.int 4)) dNil)))) dNil)) (tgName 0) dTrue Ez_law_place_1)) dNil)))
noncomputable def Fz_law_place : FD:=runF 2 2 (gz_law_place)
noncomputable abbrev sz_law_guards : Stmt:=top 29
theorem scz_law_guards : FnScope ["_law_script", "_law_at", "_law_found", "_law_k", "_law_here", "_law_word", "_law_both"] ["_law_script", "_law_at"] (defScope sz_law_guards) := ⟨rfl, rfl, rfl, by decide +kernel, rfl, by decide +kernel, by decide +kernel⟩
noncomputable def Bz_law_guards_1 : DS := (sSeq (sSet 4 (dBin addD (dBin addD (dVar 1) (dC (.int 1))) (dBin mul2D (dC (.int 20)) (dVar 3)))) (sSeq (sSet 5 (dBin ixD (dF (dLst (dCons (dC (.str "let")) (dCons (dC (.str "stop")) (dCons (dC (.str "ask")) (dCons (dC (.str "ask")) dNil)))))) (dCall Fz_law_drawn (dCons (dVar 0) (dCons (dBin addD (dVar 4) (dC (.int 1))) (dCons (dC (.int 4)) dNil)))))) (sSeq (sIf (dB (dBin eqD (dCall Fz_law_drawn (dCons (dVar 0) (dCons (dBin addD (dVar 4) (dC (.int 2))) (dCons (dC (.int 3)) dNil)))) (dC (.int 0)))) (sSet 5 (dCall Fz_law_place (dCons (dVar 0) (dCons (dBin addD (dVar 4) (dC (.int 3))) dNil)))) sNext) (sSeq (sSet 6 (dTup (dCons (dSl cutT (dCall Fz_law_place (dCons (dVar 0) (dCons (dBin addD (dVar 4) (dC (.int 8))) dNil))) dNoPart (dPart (dC (.int 2)))) (dCons (dSl cutT (dCall Fz_law_place (dCons (dVar 0) (dCons (dBin addD (dVar 4) (dC (.int 13))) dNil))) dNoPart (dPart (dC (.int 2)))) dNil)))) (sSet 2 (dBin addD (dVar 2) (dTup (dCons (dBin addD (dVar 6) (dTup (dCons (dVar 5) dNil))) dNil))))))))
noncomputable def gz_law_guards : DS:=(sSeq (sSet 2 (dTup dNil)) (sSeq (sFor (dRng1 (dCons (dCall Fz_law_drawn (dCons (dVar 0) (dCons (dVar 1) (dCons (dC (.int 6)) dNil)))) dNil)) (tgName 3) Bz_law_guards_1) (sRet (dVar 2))))
noncomputable def Fz_law_guards : FD:=runF 7 2 (gz_law_guards)
noncomputable abbrev sz_law_links : Stmt:=top 32
theorem scz_law_links : FnScope ["_law_script", "_law_at", "_law_found", "_law_k", "_law_here", "_law_word", "_law_kind", "_law_part", "_law_steps"] ["_law_script", "_law_at"] (defScope sz_law_links) := ⟨rfl, rfl, rfl, by decide +kernel, rfl, by decide +kernel, by decide +kernel⟩
noncomputable def Ez_law_links_1 : DE:=(dBin ixD (dVar 1) (dCall Fz_law_drawn (dCons (dVar 2) (dCons (dBin addD (dBin addD (dVar 3) (dC (.int 4))) (dVar 0)) (dCons (dC (.int 6)) dNil)))))
noncomputable def Bz_law_links_1 : DS := (sSeq (sSet 4 (dBin addD (dBin addD (dVar 1) (dC (.int 1))) (dBin mul2D (dC (.int 20)) (dVar 3)))) (sSeq (sSet 5 (dBin ixD (dF (dLst (dCons (dC (.str "up")) (dCons (dC (.str "in")) (dCons (dC (.str "on")) (dCons (dC (.str "go")) dNil)))))) (dCall Fz_law_drawn (dCons (dVar 0) (dCons (dVar 4) (dCons (dC (.int 4)) dNil)))))) (sSeq (sSet 6 (dBin ixD (dF (dLst (dRow [(.str "open"), (.str "open"), (.str "open"), (.str "replace"), (.str "go")] dNil))) (dCall Fz_law_drawn (dCons (dVar 0) (dCons (dBin addD (dVar 4) (dC (.int 1))) (dCons (dC (.int 5)) dNil)))))) (sSeq (sSet 7 (dBin subD (dCall Fz_law_drawn (dCons (dVar 0) (dCons (dBin addD (dVar 4) (dC (.int 2))) (dCons (dC (.int 5)) dNil)))) (dC (.int 2)))) (sSeq (sIf (dB (dBin neD (dVar 6) (dC (.str "go")))) (sSeq (sSet 8 (dF (dLst (dRow [(.str "a"), (.str "b"), (.str "c"), (.str ".."), (.str ".."), (.str ".")] dNil)))) (sSet 7 (dCall tupleD (dCons (dF (dComp [8, 0, 4] 1 (dRng1 (dCons (dCall Fz_law_drawn (dCons (dVar 0) (dCons (dBin addD (dVar 4) (dC (.int 3))) (dCons (dC (.int 4)) dNil)))) dNil)) (tgName 0) dTrue Ez_law_links_1)) dNil)))) sNext) (sSet 2 (dBin addD (dVar 2) (dTup (dCons (dTup (dCons (dSl cutT (dCall Fz_law_place (dCons (dVar 0) (dCons (dBin addD (dVar 4) (dC (.int 9))) dNil))) dNoPart (dPart (dC (.int 2)))) (dCons (dVar 5) (dCons (dVar 6) (dCons (dVar 7) dNil))))) dNil)))))))))
noncomputable def gz_law_links : DS:=(sSeq (sSet 2 (dTup dNil)) (sSeq (sFor (dRng1 (dCons (dCall Fz_law_drawn (dCons (dVar 0) (dCons (dVar 1) (dCons (dC (.int 9)) dNil)))) dNil)) (tgName 3) Bz_law_links_1) (sRet (dVar 2))))
noncomputable def Fz_law_links : FD:=runF 9 2 (gz_law_links)
noncomputable abbrev sz_law_odd : Stmt:=top 27
theorem scz_law_odd : FnScope ["_law_number", "_law_some"] ["_law_number"] (defScope sz_law_odd) := ⟨rfl, rfl, rfl, by decide +kernel, rfl, by decide +kernel, by decide +kernel⟩
noncomputable def gz_law_odd : DS := (sSeq (sSet 1 (dC (.lst [.int (-1), .int 0, .int 10, .bl true, .non, .str "", .str "a", .str "abcde", .str "A", .str "let", .str "stop", .str "..", .str ".", .str "open", .str "go", .tup [], .lst [], .tup [.str "a"]]))) (sRet (dBin ixD (dF (dBinF catL (dVar 1) (dF (dLst (dCons (dTup (dCons (dC (.str "a")) (dCons (dC (.str "B")) dNil))) dNil))))) (dBin modD (dVar 0) (dC (.int 19))))))
noncomputable def Fz_law_odd : FD:=runF 2 1 (gz_law_odd)
noncomputable abbrev sz_law_spoilt : Stmt:=top 28
theorem scz_law_spoilt : FnScope ["_law_thing", "_law_number", "_law_deep", "_law_at", "_law_part"] ["_law_thing", "_law_number", "_law_deep"] (defScope sz_law_spoilt) := ⟨rfl, rfl, rfl, by decide +kernel, rfl, by decide +kernel, by decide +kernel⟩
noncomputable def gz_law_spoilt (slf : FD) : DS := (sSeq (sIf (dAnd (dB (dBin gtD (dVar 2) (dC (.int 0)))) (dAnd (dB (dInst "tuple" (dVar 0))) (dAnd (dB (dBin gtD (dCall lenD (dCons (dVar 0) dNil)) (dC (.int 0)))) (dB (dBin gtD (dBin modD (dVar 1) (dC (.int 7))) (dC (.int 0))))))) (sSeq (sSet 3 (dBin modD (dBin fdivD (dVar 1) (dC (.int 7))) (dCall lenD (dCons (dVar 0) dNil)))) (sSeq (sSet 4 (dCall slf (dCons (dBin ixD (dVar 0) (dVar 3)) (dCons (dBin fdivD (dVar 1) (dC (.int 91))) (dCons (dBin subD (dVar 2) (dC (.int 1))) dNil))))) (sRet (dBin addD (dBin addD (dSl cutT (dVar 0) dNoPart (dPart (dVar 3))) (dTup (dCons (dVar 4) dNil))) (dSl cutT (dVar 0) (dPart (dBin addD (dVar 3) (dC (.int 1)))) dNoPart))))) sNext) (sSeq (sIf (dAnd (dB (dInst "tuple" (dVar 0))) (dAnd (dB (dBin gtD (dCall lenD (dCons (dVar 0) dNil)) (dC (.int 0)))) (dB (dBin eqD (dBin modD (dBin fdivD (dVar 1) (dC (.int 7))) (dC (.int 2))) (dC (.int 0)))))) (sRet (dBin ixD (dF (dLst (dCons (dF (dCall listF (dCons (dVar 0) dNil))) (dCons (dSl cutT (dVar 0) dNoPart (dPart (dNeg (dC (.int 1))))) (dCons (dBin addD (dVar 0) (dSl cutT (dVar 0) (dPart (dNeg (dC (.int 1)))) dNoPart)) (dCons (dSl cutT (dVar 0) (dPart (dC (.int 1))) dNoPart) (dCons (dRevT (dVar 0) (dNeg (dC (.int 1)))) (dCons (dBin mul2D (dVar 0) (dC (.int 3))) dNil)))))))) (dBin modD (dBin fdivD (dVar 1) (dC (.int 14))) (dC (.int 6))))) sNext) (sSeq (sIf (dAnd (dB (dInst "int" (dVar 0))) (dB (dBin eqD (dBin modD (dBin fdivD (dVar 1) (dC (.int 7))) (dC (.int 2))) (dC (.int 0))))) (sRet (dBin ixD (dF (dLst (dCons (dCall strID (dCons (dVar 0) dNil)) (dCons (dBin subD (dC (.int 0)) (dVar 0)) (dCons (dBin addD (dVar 0) (dC (.int 1))) (dCons (dBin eqD (dVar 0) (dC (.int 1))) (dCons (dBin subD (dVar 0) (dC (.int 10))) (dCons (dBin addD (dVar 0) (dC (.int 10))) dNil)))))))) (dBin modD (dBin fdivD (dVar 1) (dC (.int 14))) (dC (.int 6))))) sNext) (sRet (dCall Fz_law_odd (dCons (dBin fdivD (dVar 1) (dC (.int 7))) dNil))))))
noncomputable def Fz_law_spoilt : Nat → FD
 | 0 => runF 5 3 sBad
 | n + 1 => runF 5 3 (gz_law_spoilt (Fz_law_spoilt n))
noncomputable abbrev szis_too_long : Stmt:=top 5
theorem sczis_too_long : FnScope ["words"] ["words"] (defScope szis_too_long) := ⟨rfl, rfl, rfl, by decide +kernel, rfl, by decide +kernel, by decide +kernel⟩
noncomputable def gzis_too_long : DS:=(sRet (dBin gtD (dCall lenD (dCons (dVar 0) dNil)) (dC (.int 6))))
noncomputable def Fzis_too_long : FD:=runF 1 1 (gzis_too_long)
noncomputable abbrev szis_letter : Stmt:=top 3
theorem sczis_letter : FnScope ["sign"] ["sign"] (defScope szis_letter) := ⟨rfl, rfl, rfl, by decide +kernel, rfl, by decide +kernel, by decide +kernel⟩
noncomputable def gzis_letter : DS := (sRet (dChain leX leX (dC (.str "a")) (dVar 0) (dC (.str "z"))))
noncomputable def Fzis_letter : FD:=runF 1 1 (gzis_letter)
noncomputable abbrev szis_word : Stmt:=top 4
theorem sczis_word : FnScope ["thing"] ["thing"] (defScope szis_word) := ⟨rfl, rfl, rfl, by decide +kernel, rfl, by decide +kernel, by decide +kernel⟩
noncomputable def Ezis_word_1 : DE:=(dCall Fzis_letter (dCons (dVar 0) dNil))
noncomputable def gzis_word : DS := (sSeq (sIf (dNot (dB (dInst "str" (dVar 0)))) (sRet (dC (.bl false))) sNext) (sRet (dAndV (dChain leX leX (dC (.int 1)) (dCall lenD (dCons (dVar 0) dNil)) (dC (.int 4))) (dCall allD (dCons (dF (dComp [] 1 (dSigns (dVar 0)) (tgName 0) dTrue Ezis_word_1)) dNil)))))
noncomputable def Fzis_word : FD:=runF 1 1 (gzis_word)
noncomputable abbrev szis_place : Stmt:=top 6
theorem sczis_place : FnScope ["thing"] ["thing"] (defScope szis_place) := ⟨rfl, rfl, rfl, by decide +kernel, rfl, by decide +kernel, by decide +kernel⟩
noncomputable def Ezis_place_1 : DE:=(dCall Fzis_word (dCons (dVar 0) dNil))
noncomputable def gzis_place : DS := (sSeq (sIf (dNot (dB (dInst "tuple" (dVar 0)))) (sRet (dC (.bl false))) sNext) (sRet (dAndV (dNotV (dCall Fzis_too_long (dCons (dVar 0) dNil))) (dCall allD (dCons (dF (dComp [] 1 (dSeq (dVar 0)) (tgName 0) dTrue Ezis_place_1)) dNil)))))
noncomputable def Fzis_place : FD:=runF 1 1 (gzis_place)
noncomputable abbrev szis_guard : Stmt:=top 10
theorem sczis_guard : FnScope ["thing"] ["thing"] (defScope szis_guard) := ⟨rfl, rfl, rfl, by decide +kernel, rfl, by decide +kernel, by decide +kernel⟩
noncomputable def gzis_guard : DS := (sSeq (sIf (dOr (dNot (dB (dInst "tuple" (dVar 0)))) (dB (dBin neD (dCall lenD (dCons (dVar 0) dNil)) (dC (.int 3))))) (sRet (dC (.bl false))) sNext) (sRet (dAndV (dCall Fzis_place (dCons (dBin ixD (dVar 0) (dC (.int 0))) dNil)) (dAndV (dCall Fzis_place (dCons (dBin ixD (dVar 0) (dC (.int 1))) dNil)) (dOrV (dInG ["let", "stop", "ask"] (dBin ixD (dVar 0) (dC (.int 2)))) (dCall Fzis_place (dCons (dBin ixD (dVar 0) (dC (.int 2))) dNil)))))))
noncomputable def Fzis_guard : FD:=runF 1 1 (gzis_guard)
noncomputable abbrev szare_guards : Stmt:=top 11
theorem sczare_guards : FnScope ["thing"] ["thing"] (defScope szare_guards) := ⟨rfl, rfl, rfl, by decide +kernel, rfl, by decide +kernel, by decide +kernel⟩
noncomputable def Ezare_guards_1 : DE:=(dCall Fzis_guard (dCons (dVar 0) dNil))
noncomputable def gzare_guards : DS := (sSeq (sIf (dNot (dB (dInst "tuple" (dVar 0)))) (sRet (dC (.bl false))) sNext) (sRet (dAndV (dBin leX (dCall lenD (dCons (dVar 0) dNil)) (dC (.int 8))) (dCall allD (dCons (dF (dComp [] 1 (dSeq (dVar 0)) (tgName 0) dTrue Ezare_guards_1)) dNil)))))
noncomputable def Fzare_guards : FD:=runF 1 1 (gzare_guards)
noncomputable abbrev szis_way : Stmt:=top 20
theorem sczis_way : FnScope ["thing"] ["thing"] (defScope szis_way) := ⟨rfl, rfl, rfl, by decide +kernel, rfl, by decide +kernel, by decide +kernel⟩
noncomputable def gzis_way : DS := (sSeq (sIf (dOr (dNot (dB (dInst "int" (dVar 0)))) (dB (dInst "bool" (dVar 0)))) (sRet (dC (.bl false))) sNext) (sRet (dChain leX leX (dNeg (dC (.int 9))) (dVar 0) (dC (.int 9)))))
noncomputable def Fzis_way : FD:=runF 1 1 (gzis_way)
noncomputable abbrev szis_step : Stmt:=top 18
theorem sczis_step : FnScope ["thing"] ["thing"] (defScope szis_step) := ⟨rfl, rfl, rfl, by decide +kernel, rfl, by decide +kernel, by decide +kernel⟩
noncomputable def gzis_step : DS := (sRet (dOrV (dCall Fzis_word (dCons (dVar 0) dNil)) (dInG [".", ".."] (dVar 0))))
noncomputable def Fzis_step : FD:=runF 1 1 (gzis_step)
noncomputable abbrev szare_steps : Stmt:=top 19
theorem sczare_steps : FnScope ["thing"] ["thing"] (defScope szare_steps) := ⟨rfl, rfl, rfl, by decide +kernel, rfl, by decide +kernel, by decide +kernel⟩
noncomputable def Ezare_steps_1 : DE:=(dCall Fzis_step (dCons (dVar 0) dNil))
noncomputable def gzare_steps : DS := (sSeq (sIf (dNot (dB (dInst "tuple" (dVar 0)))) (sRet (dC (.bl false))) sNext) (sRet (dAndV (dBin leX (dCall lenD (dCons (dVar 0) dNil)) (dC (.int 4))) (dCall allD (dCons (dF (dComp [] 1 (dSeq (dVar 0)) (tgName 0) dTrue Ezare_steps_1)) dNil)))))
noncomputable def Fzare_steps : FD:=runF 1 1 (gzare_steps)
noncomputable abbrev szis_link : Stmt:=top 21
theorem sczis_link : FnScope ["thing"] ["thing"] (defScope szis_link) := ⟨rfl, rfl, rfl, by decide +kernel, rfl, by decide +kernel, by decide +kernel⟩
noncomputable def gzis_link : DS := (sSeq (sIf (dOr (dNot (dB (dInst "tuple" (dVar 0)))) (dB (dBin neD (dCall lenD (dCons (dVar 0) dNil)) (dC (.int 4))))) (sRet (dC (.bl false))) sNext) (sSeq (sIf (dOr (dNot (dB (dCall Fzis_place (dCons (dBin ixD (dVar 0) (dC (.int 0))) dNil)))) (dNot (dB (dCall Fzis_word (dCons (dBin ixD (dVar 0) (dC (.int 1))) dNil))))) (sRet (dC (.bl false))) sNext) (sSeq (sIf (dB (dBin eqD (dBin ixD (dVar 0) (dC (.int 2))) (dC (.str "go")))) (sRet (dCall Fzis_way (dCons (dBin ixD (dVar 0) (dC (.int 3))) dNil))) sNext) (sRet (dAndV (dInG ["open", "replace"] (dBin ixD (dVar 0) (dC (.int 2)))) (dCall Fzare_steps (dCons (dBin ixD (dVar 0) (dC (.int 3))) dNil)))))))
noncomputable def Fzis_link : FD:=runF 1 1 (gzis_link)
noncomputable abbrev szare_links : Stmt:=top 22
theorem sczare_links : FnScope ["thing"] ["thing"] (defScope szare_links) := ⟨rfl, rfl, rfl, by decide +kernel, rfl, by decide +kernel, by decide +kernel⟩
noncomputable def Ezare_links_1 : DE:=(dCall Fzis_link (dCons (dVar 0) dNil))
noncomputable def gzare_links : DS := (sSeq (sIf (dNot (dB (dInst "tuple" (dVar 0)))) (sRet (dC (.bl false))) sNext) (sRet (dAndV (dBin leX (dCall lenD (dCons (dVar 0) dNil)) (dC (.int 12))) (dCall allD (dCons (dF (dComp [] 1 (dSeq (dVar 0)) (tgName 0) dTrue Ezare_links_1)) dNil)))))
noncomputable def Fzare_links : FD:=runF 1 1 (gzare_links)
noncomputable abbrev sz_law_is_word : Stmt:=top 35
theorem scz_law_is_word : FnScope ["_law_thing"] ["_law_thing"] (defScope sz_law_is_word) := ⟨rfl, rfl, rfl, by decide +kernel, rfl, by decide +kernel, by decide +kernel⟩
noncomputable def Ez_law_is_word_1 : DE:=(dVar 0)
noncomputable def Cz_law_is_word_1 : DT := (dB (dBin notInS (dVar 0) (dC (.str "abcdefghijklmnopqrstuvwxyz"))))
noncomputable def gz_law_is_word : DS := (sSeq (sIf (dOr (dNot (dB (dInst "str" (dVar 0)))) (dNot (dB (dChain leX leX (dC (.int 1)) (dCall lenD (dCons (dVar 0) dNil)) (dC (.int 4)))))) (sRet (dC (.bl false))) sNext) (sRet (dBin eqD (dF (dComp [] 1 (dSigns (dVar 0)) (tgName 0) Cz_law_is_word_1 Ez_law_is_word_1)) (dF (dLst dNil)))))
noncomputable def Fz_law_is_word : FD:=runF 1 1 (gz_law_is_word)
noncomputable abbrev sz_law_is_place : Stmt:=top 36
theorem scz_law_is_place : FnScope ["_law_thing"] ["_law_thing"] (defScope sz_law_is_place) := ⟨rfl, rfl, rfl, by decide +kernel, rfl, by decide +kernel, by decide +kernel⟩
noncomputable def Ez_law_is_place_1 : DE:=(dVar 0)
noncomputable def Cz_law_is_place_1 : DT:=(dNot (dB (dCall Fz_law_is_word (dCons (dVar 0) dNil))))
noncomputable def gz_law_is_place : DS := (sSeq (sIf (dOr (dNot (dB (dInst "tuple" (dVar 0)))) (dB (dBin gtD (dCall lenD (dCons (dVar 0) dNil)) (dC (.int 6))))) (sRet (dC (.bl false))) sNext) (sRet (dBin eqD (dF (dComp [] 1 (dSeq (dVar 0)) (tgName 0) Cz_law_is_place_1 Ez_law_is_place_1)) (dF (dLst dNil)))))
noncomputable def Fz_law_is_place : FD:=runF 1 1 (gz_law_is_place)
noncomputable abbrev sz_law_is_guard : Stmt:=top 37
theorem scz_law_is_guard : FnScope ["_law_thing"] ["_law_thing"] (defScope sz_law_is_guard) := ⟨rfl, rfl, rfl, by decide +kernel, rfl, by decide +kernel, by decide +kernel⟩
noncomputable def gz_law_is_guard : DS := (sSeq (sIf (dOr (dNot (dB (dInst "tuple" (dVar 0)))) (dOr (dB (dBin neD (dCall lenD (dCons (dVar 0) dNil)) (dC (.int 3)))) (dOr (dNot (dB (dCall Fz_law_is_place (dCons (dBin ixD (dVar 0) (dC (.int 0))) dNil)))) (dNot (dB (dCall Fz_law_is_place (dCons (dBin ixD (dVar 0) (dC (.int 1))) dNil))))))) (sRet (dC (.bl false))) sNext) (sRet (dOrV (dCall Fz_law_is_place (dCons (dBin ixD (dVar 0) (dC (.int 2))) dNil)) (dBin inD (dBin ixD (dVar 0) (dC (.int 2))) (dTup (dCons (dC (.str "let")) (dCons (dC (.str "stop")) (dCons (dC (.str "ask")) dNil))))))))
noncomputable def Fz_law_is_guard : FD:=runF 1 1 (gz_law_is_guard)
noncomputable abbrev sz_law_is_link : Stmt:=top 38
theorem scz_law_is_link : FnScope ["_law_thing"] ["_law_thing"] (defScope sz_law_is_link) := ⟨rfl, rfl, rfl, by decide +kernel, rfl, by decide +kernel, by decide +kernel⟩
noncomputable def Ez_law_is_link_1 : DE:=(dVar 0)
noncomputable def Cz_law_is_link_1 : DT := (dAnd (dNot (dB (dCall Fz_law_is_word (dCons (dVar 0) dNil)))) (dB (dBin notInD (dVar 0) (dTup (dCons (dC (.str ".")) (dCons (dC (.str "..")) dNil))))))
noncomputable def gz_law_is_link : DS := (sSeq (sIf (dOr (dNot (dB (dInst "tuple" (dVar 0)))) (dOr (dB (dBin neD (dCall lenD (dCons (dVar 0) dNil)) (dC (.int 4)))) (dOr (dNot (dB (dCall Fz_law_is_place (dCons (dBin ixD (dVar 0) (dC (.int 0))) dNil)))) (dNot (dB (dCall Fz_law_is_word (dCons (dBin ixD (dVar 0) (dC (.int 1))) dNil))))))) (sRet (dC (.bl false))) sNext) (sSeq (sIf (dB (dBin eqD (dBin ixD (dVar 0) (dC (.int 2))) (dC (.str "go")))) (sRet (dAndV (dInst "int" (dBin ixD (dVar 0) (dC (.int 3)))) (dAndV (dNotV (dInst "bool" (dBin ixD (dVar 0) (dC (.int 3))))) (dChain leX leX (dNeg (dC (.int 9))) (dBin ixD (dVar 0) (dC (.int 3))) (dC (.int 9)))))) sNext) (sSeq (sIf (dOr (dB (dBin notInD (dBin ixD (dVar 0) (dC (.int 2))) (dTup (dCons (dC (.str "open")) (dCons (dC (.str "replace")) dNil))))) (dOr (dNot (dB (dInst "tuple" (dBin ixD (dVar 0) (dC (.int 3)))))) (dB (dBin gtD (dCall lenD (dCons (dBin ixD (dVar 0) (dC (.int 3))) dNil)) (dC (.int 4)))))) (sRet (dC (.bl false))) sNext) (sRet (dBin eqD (dF (dComp [] 1 (dSeq (dBin ixD (dVar 0) (dC (.int 3)))) (tgName 0) Cz_law_is_link_1 Ez_law_is_link_1)) (dF (dLst dNil)))))))
noncomputable def Fz_law_is_link : FD:=runF 1 1 (gz_law_is_link)
noncomputable abbrev sz_law_are : Stmt:=top 39
theorem scz_law_are : FnScope ["_law_way", "_law_thing"] ["_law_way", "_law_thing"] (defScope sz_law_are) := ⟨rfl, rfl, rfl, by decide +kernel, rfl, by decide +kernel, by decide +kernel⟩
noncomputable def Ez_law_are_1 : DE:=(dVar 0)
noncomputable def Cz_law_are_1 : DT:=(dNot (dB (dCall Fz_law_is_guard (dCons (dVar 0) dNil))))
noncomputable def Ez_law_are_2 : DE:=(dVar 0)
noncomputable def Cz_law_are_2 : DT:=(dNot (dB (dCall Fz_law_is_link (dCons (dVar 0) dNil))))
noncomputable def gz_law_are : DS := (sSeq (sIf (dB (dBin eqD (dVar 0) (dC (.int 0)))) (sRet (dCall Fz_law_is_place (dCons (dVar 1) dNil))) sNext) (sSeq (sIf (dOr (dNot (dB (dInst "tuple" (dVar 1)))) (dB (dBin gtD (dCall lenD (dCons (dVar 1) dNil)) (dBin ixD (dF (dLst (dCons (dC (.int 8)) (dCons (dC (.int 12)) dNil)))) (dBin subD (dVar 0) (dC (.int 1))))))) (sRet (dC (.bl false))) sNext) (sSeq (sIf (dB (dBin eqD (dVar 0) (dC (.int 1)))) (sRet (dBin eqD (dF (dComp [] 1 (dSeq (dVar 1)) (tgName 0) Cz_law_are_1 Ez_law_are_1)) (dF (dLst dNil)))) sNext) (sRet (dBin eqD (dF (dComp [] 1 (dSeq (dVar 1)) (tgName 0) Cz_law_are_2 Ez_law_are_2)) (dF (dLst dNil)))))))
noncomputable def Fz_law_are : FD:=runF 2 2 (gz_law_are)
noncomputable abbrev sz_law_each : Stmt:=top 40
theorem scz_law_each : FnScope ["_law_thing", "_law_found", "_law_place_here"] ["_law_thing"] (defScope sz_law_each) := ⟨rfl, rfl, rfl, by decide +kernel, rfl, by decide +kernel, by decide +kernel⟩
noncomputable def Ez_law_each_1 : DE:=(dBin addD (dBin addD (dSl cutT (dVar 1) dNoPart (dPart (dVar 2))) (dTup (dCons (dVar 0) dNil))) (dSl cutT (dVar 1) (dPart (dBin addD (dVar 2) (dC (.int 1)))) dNoPart))
noncomputable def Bz_law_each_1 (slf : FD) : DS:=(sSet 1 (dF (dBinF catL (dVar 1) (dF (dComp [0, 2] 1 (dSeq (dCall slf (dCons (dBin ixD (dVar 0) (dVar 2)) dNil))) (tgName 0) dTrue Ez_law_each_1)))))
noncomputable def gz_law_each (slf : FD) : DS := (sSeq (sIf (dB (dInst "int" (dVar 0))) (sRet (dF (dLst (dCons (dC .non) (dCons (dC (.bl true)) (dCons (dBin subD (dVar 0) (dC (.int 1))) (dCons (dBin addD (dVar 0) (dC (.int 1))) (dCons (dC (.int 1000)) dNil)))))))) sNext) (sSeq (sIf (dNot (dB (dInst "tuple" (dVar 0)))) (sRet (dF (dLst (dRow [.non, (.str ""), (.str "A"), (.str "abcde"), (.str "...")] dNil)))) sNext) (sSeq (sSet 1 (dF (dLst (dCons (dC .non) (dCons (dF (dCall listF (dCons (dVar 0) dNil))) (dCons (dBin addD (dVar 0) (dSl cutT (dVar 0) (dPart (dNeg (dC (.int 1)))) dNoPart)) (dCons (dSl cutT (dVar 0) (dPart (dC (.int 1))) dNoPart) dNil))))))) (sSeq (sFor (dRng1 (dCons (dCall lenD (dCons (dVar 0) dNil)) dNil)) (tgName 2) (Bz_law_each_1 slf)) (sRet (dVar 1))))))
noncomputable def Fz_law_each : Nat → FD
 | 0 => runF 3 1 sBad
 | n + 1 => runF 3 1 (gz_law_each (Fz_law_each n))
noncomputable abbrev sz_law_told : Stmt:=top 41
theorem scz_law_told : FnScope ["_law_way", "_law_thing"] ["_law_way", "_law_thing"] (defScope sz_law_told) := ⟨rfl, rfl, rfl, by decide +kernel, rfl, by decide +kernel, by decide +kernel⟩
noncomputable def gz_law_told : DS:=(sSeq (sIf (dB (dBin eqD (dVar 0) (dC (.int 0)))) (sRet (dCall Fzis_place (dCons (dVar 1) dNil))) sNext) (sRet (dIf (dB (dBin eqD (dVar 0) (dC (.int 1)))) (dCall Fzare_guards (dCons (dVar 1) dNil)) (dCall Fzare_links (dCons (dVar 1) dNil)))))
noncomputable def Fz_law_told : FD:=runF 2 2 (gz_law_told)
noncomputable abbrev szlaw : Stmt:=top 42
theorem sczlaw : FnScope ["_law_script", "_law_way", "_law_thing", "_law_spoilt_here", "_law_far", "_law_one", "_law_said", "_law_bases", "_law_base"] ["_law_script"] (defScope szlaw) := ⟨rfl, rfl, rfl, by decide +kernel, rfl, by decide +kernel, by decide +kernel⟩
noncomputable def stzlaw_p1 : Stmt:=(defBody szlaw).getD 0 (.Pass ⟨0, 0, 0, 0⟩)
noncomputable def stzlaw_p2 : Stmt:=(forBody stzlaw_p1).getD 0 (.Pass ⟨0, 0, 0, 0⟩)
noncomputable def stzlaw_p3 : Stmt:=(forBody stzlaw_p1).getD 1 (.Pass ⟨0, 0, 0, 0⟩)
noncomputable def stzlaw_p4 : Stmt:=(forBody stzlaw_p1).getD 2 (.Pass ⟨0, 0, 0, 0⟩)
noncomputable def stzlaw_p5 : Stmt:=(forBody stzlaw_p1).getD 3 (.Pass ⟨0, 0, 0, 0⟩)
noncomputable def stzlaw_p6 : Stmt:=(forBody stzlaw_p1).getD 4 (.Pass ⟨0, 0, 0, 0⟩)
noncomputable def stzlaw_p7 : Stmt:=(defBody szlaw).getD 1 (.Pass ⟨0, 0, 0, 0⟩)
noncomputable def stzlaw_p8 : Stmt:=(defBody szlaw).getD 2 (.Pass ⟨0, 0, 0, 0⟩)
noncomputable def stzlaw_p9 : Stmt:=(defBody szlaw).getD 3 (.Pass ⟨0, 0, 0, 0⟩)
noncomputable def stzlaw_p10 : Stmt:=(defBody szlaw).getD 4 (.Pass ⟨0, 0, 0, 0⟩)
noncomputable def Pzlaw_p2 : DS:=(sSet 2 (dCall Fz_law_place (dCons (dVar 0) (dCons (dC (.int 0)) dNil))))
noncomputable def Pzlaw_p3 : DS:=(sIf (dB (dBin gtD (dVar 1) (dC (.int 0)))) (sSet 2 (dIf (dB (dBin eqD (dVar 1) (dC (.int 1)))) (dCall Fz_law_guards (dCons (dVar 0) (dCons (dC (.int 10)) dNil))) (dCall Fz_law_links (dCons (dVar 0) (dCons (dC (.int 150)) dNil))))) sNext)
noncomputable def Pzlaw_p4 : DS:=(sSet 3 (dCall (Fz_law_spoilt 4) (dCons (dVar 2) (dCons (dCall Fz_law_drawn (dCons (dVar 0) (dCons (dBin addD (dC (.int 400)) (dVar 1)) (dCons (dBin powD (dC (.int 10)) (dC (.int 7))) dNil)))) (dCons (dCall Fz_law_drawn (dCons (dVar 0) (dCons (dBin addD (dC (.int 410)) (dVar 1)) (dCons (dC (.int 4)) dNil)))) dNil)))))
noncomputable def Pzlaw_p5 : DS:=(sSet 4 (dBin ixD (dF (dLst (dCons (dC (.int 9)) (dCons (dC (.int 10)) (dCons (dNeg (dC (.int 9))) (dCons (dNeg (dC (.int 10))) dNil)))))) (dCall Fz_law_drawn (dCons (dVar 0) (dCons (dC (.int 420)) (dCons (dC (.int 4)) dNil))))))
noncomputable def Bzlaw_1 : DS := (sSeq (sSet 6 (dCall Fzis_place (dCons (dVar 5) dNil))) (sSeq (sIf (dB (dBin gtD (dVar 1) (dC (.int 0)))) (sSet 6 (dIf (dB (dBin eqD (dVar 1) (dC (.int 1)))) (dCall Fzare_guards (dCons (dVar 5) dNil)) (dCall Fzare_links (dCons (dVar 5) dNil)))) sNext) (sIf (dOr (dNot (dB (dInst "bool" (dVar 6)))) (dB (dBin neD (dVar 6) (dCall Fz_law_are (dCons (dVar 1) (dCons (dVar 5) dNil)))))) (sRet (dC (.bl false))) sNext)))
noncomputable def Pzlaw_p6 : DS := (sFor (dSeq (dTup (dCons (dVar 2) (dCons (dVar 3) (dCons (dBin mul2D (dVar 2) (dC (.int 3))) (dCons (dF (dCall listF (dCons (dVar 2) dNil))) (dCons (dSl cutT (dVar 2) dNoPart (dPart (dC (.int 1)))) (dCons (dTup dNil) (dCons (dC .non) (dCons (dC (.str "let")) (dCons (dTup (dCons (dTup (dCons (dTup dNil) (dCons (dC (.str "a")) (dCons (dC (.str "go")) (dCons (dVar 4) dNil))))) dNil)) dNil))))))))))) (tgName 5) Bzlaw_1)
noncomputable def Bzlaw_2 : DS:=(sSeq Pzlaw_p2 (sSeq Pzlaw_p3 (sSeq Pzlaw_p4 (sSeq Pzlaw_p5 Pzlaw_p6))))
noncomputable def Pzlaw_p1 : DS:=(sFor (dRng1 (dCons (dC (.int 3)) dNil)) (tgName 1) Bzlaw_2)
noncomputable def Pzlaw_p7 : DS := (sSetF 7 (dLst (dVals [.tup [.str "ab", .str "c"], .tup [.tup [.tup [.str "a"], .tup [.str "b"], .str "stop"], .tup [.tup [], .tup [.str "a"], .tup [.str "c"]]]])))
noncomputable def Pzlaw_p8 : DS := (sExpr (dAppend (dVar 7) (dC (.tup [.tup [.tup [.str "a"], .str "go", .str "open", .tup [.str "b", .str "..", .str "."]], .tup [.tup [.str "a"], .str "in", .str "go", .int (-3)]]))))
noncomputable def Ezlaw_1 : DE:=(dVar 0)
noncomputable def Czlaw_1 : DT:=(dB (dBin neD (dCall Fz_law_told (dCons (dVar 1) (dCons (dVar 0) dNil))) (dCall Fz_law_are (dCons (dVar 1) (dCons (dVar 0) dNil)))))
noncomputable def Bzlaw_3 : DS:=(sIf (dB (dBin neD (dF (dComp [1] 1 (dSeq (dF (dBinF catL (dF (dLst (dCons (dVar 8) dNil))) (dCall (Fz_law_each 4) (dCons (dVar 8) dNil))))) (tgName 0) Czlaw_1 Ezlaw_1)) (dF (dLst dNil)))) (sRet (dC (.bl false))) sNext)
noncomputable def Pzlaw_p9 : DS:=(sFor (dEnum (dVar 7)) (tgTup [1, 8]) Bzlaw_3)
noncomputable def Pzlaw_p10 : DS:=(sRet (dC (.bl true)))
noncomputable def gzlaw : DS:=(sSeq Pzlaw_p1 (sSeq Pzlaw_p7 (sSeq Pzlaw_p8 (sSeq Pzlaw_p9 Pzlaw_p10))))
noncomputable def Fzlaw : FD:=runF 9 1 (gzlaw)
section
set_option maxHeartbeats 4000000
variable {P : Program} {w : World} {K : PySem.W.Frag} {mg : Str → Option Value} {base : Heap} {cv : Nat → Addr}
theorem okz_law_cell {f : Addr} {fd : FuncData} (F : Fun K "_law_cell" "_law_cell" sz_law_cell f fd) (hm : mg "_law_cell" = some (.ref f)) (hb : Binds K fd ["_law_script", "_law_k"] []) (b_len : mg "len" = none) : FnAt P w K mg base "_law_cell" 1 Fz_law_cell :=
 fnAt (k:=0) F scz_law_cell hm hb fun cdv A outer s H E hr => (pds_cons (pd_if (pdt_cmp (op_eqD hr.units) (pd_var 0) (pd_F (pdf_lst pda_nil))) (pds_one (pd_ret (pd_op op_mul2D pd_int (pd_var 1)))) pds_nil) (pds_one (pd_ret (pd_op op_addD (pd_ix (pd_var 0) (pd_op op_modD (pd_var 1) (pd_callB call_lenD rfl b_len PySem.boot_len (pda_cons (pd_var 0) pda_nil)))) (pd_op op_mul2D pd_int (pd_op op_fdivD (pd_var 1) (pd_callB call_lenD rfl b_len PySem.boot_len (pda_cons (pd_var 0) pda_nil))))))))
theorem okz_law_drawn {f : Addr} {fd : FuncData} (F : Fun K "_law_drawn" "_law_drawn" sz_law_drawn f fd) (hm : mg "_law_drawn" = some (.ref f)) (hb : Binds K fd ["_law_script", "_law_k", "_law_many"] []) (hz_law_cell : FnAt P w K mg base "_law_cell" 1 Fz_law_cell) : FnAt P w K mg base "_law_drawn" 2 Fz_law_drawn :=
 fnAt (k:=1) F scz_law_drawn hm hb fun cdv A outer s H E hr => (pds_cons (pd_set 3 scz_law_drawn.nd rfl (by first | exact Or.inl rfl | exact Or.inr rfl) (pd_op op_modD (pd_op op_addD (pd_op op_mul2D (pd_op op_modD (pd_fn hz_law_cell hr (by decide) rfl (pda_cons (pd_var 0) (pda_cons (pd_var 1) pda_nil))) pd_int) pd_int) (pd_op op_mul2D pd_int (pd_op op_addD (pd_var 1) pd_int))) pd_int)) (pds_cons (pd_set 3 scz_law_drawn.nd rfl (by first | exact Or.inl rfl | exact Or.inr rfl) (pd_op op_modD (pd_op op_addD (pd_op op_mul2D (pd_var 3) (pd_var 3)) (pd_op op_fdivD (pd_var 3) pd_int)) pd_int)) (pds_one (pd_ret (pd_op op_modD (pd_op op_fdivD (pd_op op_modD (pd_op op_addD (pd_op op_mul2D (pd_var 3) (pd_var 3)) (pd_op op_fdivD (pd_var 3) pd_int)) pd_int) pd_int) (pd_var 2))))))
theorem okz_law_place {f : Addr} {fd : FuncData} (F : Fun K "_law_place" "_law_place" sz_law_place f fd) (hm : mg "_law_place" = some (.ref f)) (hb : Binds K fd ["_law_script", "_law_at"] []) (b_range : mg "range" = none) (b_tuple : mg "tuple" = none) (hz_law_drawn : FnAt P w K mg base "_law_drawn" 2 Fz_law_drawn) : FnAt P w K mg base "_law_place" 3 Fz_law_place :=
 fnAt (k := 2) F scz_law_place hm hb fun cdv A outer s H E hr => (pds_one (pd_ret (pd_callTy call_tupleD rfl b_tuple PyProof.Rows.boot_tuple (pda_cons (pd_F (pdf_lc rfl ⟨Blk.of (N := ["_law_k", "_law_script", "_law_at"]) (caps := [0, 1]) (nT := 1) (by show blkB (defScope sz_law_place) _ ["_law_script", "_law_at"] _ _ _ = true; decide +kernel), fun _ _ _ _ => (pgd_name 0 (by show (["_law_k", "_law_script", "_law_at"] : List Str).Nodup; decide +kernel) rfl (by first | exact Or.inl rfl | exact Or.inr rfl)), fun _ _ _ _ => pts_nil, fun _ _ _ _ => (pd_ix pd_str (pd_fn hz_law_drawn hr (by decide) rfl (pda_cons (pd_var 1) (pda_cons (pd_op op_addD (pd_op op_addD (pd_var 2) pd_int) (pd_var 0)) (pda_cons pd_int pda_nil)))))⟩ (pid_range1 rfl b_range (pda_cons (pd_fn hz_law_drawn hr (by decide) rfl (pda_cons (pd_var 0) (pda_cons (pd_var 1) (pda_cons pd_int pda_nil)))) pda_nil)))) pda_nil))))
theorem okz_law_guards {f : Addr} {fd : FuncData} (F : Fun K "_law_guards" "_law_guards" sz_law_guards f fd) (hm : mg "_law_guards" = some (.ref f)) (hb : Binds K fd ["_law_script", "_law_at"] []) (b_range : mg "range" = none) (hz_law_drawn : FnAt P w K mg base "_law_drawn" 2 Fz_law_drawn) (hz_law_place : FnAt P w K mg base "_law_place" 3 Fz_law_place) : FnAt P w K mg base "_law_guards" 4 Fz_law_guards :=
 fnAt (k:=3) F scz_law_guards hm hb fun cdv A outer s H E hr => (pds_cons (pd_set 2 scz_law_guards.nd rfl (by first | exact Or.inl rfl | exact Or.inr rfl) (pd_tup pda_nil)) (pds_cons (pd_for PassesOwn.never rfl (pid_range1 rfl b_range (pda_cons (pd_fn hz_law_drawn hr (by decide) rfl (pda_cons (pd_var 0) (pda_cons (pd_var 1) (pda_cons pd_int pda_nil)))) pda_nil)) (pgd_name 3 scz_law_guards.nd rfl (by first | exact Or.inl rfl | exact Or.inr rfl)) (pds_cons (pd_set 4 scz_law_guards.nd rfl (by first | exact Or.inl rfl | exact Or.inr rfl) (pd_op op_addD (pd_op op_addD (pd_var 1) pd_int) (pd_op op_mul2D pd_int (pd_var 3)))) (pds_cons (pd_set 5 scz_law_guards.nd rfl (by first | exact Or.inl rfl | exact Or.inr rfl) (pd_ix (pd_F (pdf_lst (pda_cons pd_str (pda_cons pd_str (pda_cons pd_str (pda_cons pd_str pda_nil)))))) (pd_fn hz_law_drawn hr (by decide) rfl (pda_cons (pd_var 0) (pda_cons (pd_op op_addD (pd_var 4) pd_int) (pda_cons pd_int pda_nil)))))) (pds_cons (pd_if (pdt_cmp (op_eqD hr.units) (pd_fn hz_law_drawn hr (by decide) rfl (pda_cons (pd_var 0) (pda_cons (pd_op op_addD (pd_var 4) pd_int) (pda_cons pd_int pda_nil)))) pd_int) (pds_one (pd_set 5 scz_law_guards.nd rfl (by first | exact Or.inl rfl | exact Or.inr rfl) (pd_fn hz_law_place hr (by decide) rfl (pda_cons (pd_var 0) (pda_cons (pd_op op_addD (pd_var 4) pd_int) pda_nil))))) pds_nil) (pds_cons (pd_set 6 scz_law_guards.nd rfl (by first | exact Or.inl rfl | exact Or.inr rfl) (pd_tup (pda_cons (pd_slice sl_T (pd_fn hz_law_place hr (by decide) rfl (pda_cons (pd_var 0) (pda_cons (pd_op op_addD (pd_var 4) pd_int) pda_nil))) pdo_none (pdo_some pd_int)) (pda_cons (pd_slice sl_T (pd_fn hz_law_place hr (by decide) rfl (pda_cons (pd_var 0) (pda_cons (pd_op op_addD (pd_var 4) pd_int) pda_nil))) pdo_none (pdo_some pd_int)) pda_nil)))) (pds_one (pd_set 2 scz_law_guards.nd rfl (by first | exact Or.inl rfl | exact Or.inr rfl) (pd_op op_addD (pd_var 2) (pd_tup (pda_cons (pd_op op_addD (pd_var 6) (pd_tup (pda_cons (pd_var 5) pda_nil))) pda_nil)))))))))) (pds_one (pd_ret (pd_var 2)))))
theorem okz_law_links {f : Addr} {fd : FuncData} (F : Fun K "_law_links" "_law_links" sz_law_links f fd) (hm : mg "_law_links" = some (.ref f)) (hb : Binds K fd ["_law_script", "_law_at"] []) (b_range : mg "range" = none) (b_tuple : mg "tuple" = none) (hz_law_drawn : FnAt P w K mg base "_law_drawn" 2 Fz_law_drawn) (hz_law_place : FnAt P w K mg base "_law_place" 3 Fz_law_place) : FnAt P w K mg base "_law_links" 4 Fz_law_links :=
 fnAt (k := 3) F scz_law_links hm hb fun cdv A outer s H E hr => (pds_cons (pd_set 2 scz_law_links.nd rfl (by first | exact Or.inl rfl | exact Or.inr rfl) (pd_tup pda_nil)) (pds_cons (pd_for PassesOwn.never rfl (pid_range1 rfl b_range (pda_cons (pd_fn hz_law_drawn hr (by decide) rfl (pda_cons (pd_var 0) (pda_cons (pd_var 1) (pda_cons pd_int pda_nil)))) pda_nil)) (pgd_name 3 scz_law_links.nd rfl (by first | exact Or.inl rfl | exact Or.inr rfl)) (pds_cons (pd_set 4 scz_law_links.nd rfl (by first | exact Or.inl rfl | exact Or.inr rfl) (pd_op op_addD (pd_op op_addD (pd_var 1) pd_int) (pd_op op_mul2D pd_int (pd_var 3)))) (pds_cons (pd_set 5 scz_law_links.nd rfl (by first | exact Or.inl rfl | exact Or.inr rfl) (pd_ix (pd_F (pdf_lst (pda_cons pd_str (pda_cons pd_str (pda_cons pd_str (pda_cons pd_str pda_nil)))))) (pd_fn hz_law_drawn hr (by decide) rfl (pda_cons (pd_var 0) (pda_cons (pd_var 4) (pda_cons pd_int pda_nil)))))) (pds_cons (pd_set 6 scz_law_links.nd rfl (by first | exact Or.inl rfl | exact Or.inr rfl) (pd_ix (pd_F (pdf_lst (pda_row pda_nil [(.str "open", 0, _), (.str "open", 0, _), (.str "open", 0, _), (.str "replace", 0, _), (.str "go", 0, _)] rfl))) (pd_fn hz_law_drawn hr (by decide) rfl (pda_cons (pd_var 0) (pda_cons (pd_op op_addD (pd_var 4) pd_int) (pda_cons pd_int pda_nil)))))) (pds_cons (pd_set 7 scz_law_links.nd rfl (by first | exact Or.inl rfl | exact Or.inr rfl) (pd_op op_subD (pd_fn hz_law_drawn hr (by decide) rfl (pda_cons (pd_var 0) (pda_cons (pd_op op_addD (pd_var 4) pd_int) (pda_cons pd_int pda_nil)))) pd_int)) (pds_cons (pd_if (pdt_cmp (op_neD hr.units) (pd_var 6) pd_str) (pds_cons (pd_set 8 scz_law_links.nd rfl (by first | exact Or.inl rfl | exact Or.inr rfl) (pd_F (pdf_lst (pda_row pda_nil [(.str "a", 0, _), (.str "b", 0, _), (.str "c", 0, _), (.str "..", 0, _), (.str "..", 0, _), (.str ".", 0, _)] rfl)))) (pds_one (pd_set 7 scz_law_links.nd rfl (by first | exact Or.inl rfl | exact Or.inr rfl) (pd_callTy call_tupleD rfl b_tuple PyProof.Rows.boot_tuple (pda_cons (pd_F (pdf_lc rfl ⟨Blk.of (N := ["_law_j", "_law_steps", "_law_script", "_law_here"]) (caps := [8, 0, 4]) (nT := 1) (by show blkB (defScope sz_law_links) _ ["_law_script", "_law_at", "_law_found", "_law_k", "_law_here", "_law_word", "_law_kind", "_law_part", "_law_steps"] _ _ _ = true; decide +kernel), fun _ _ _ _ => (pgd_name 0 (by show (["_law_j", "_law_steps", "_law_script", "_law_here"] : List Str).Nodup; decide +kernel) rfl (by first | exact Or.inl rfl | exact Or.inr rfl)), fun _ _ _ _ => pts_nil, fun _ _ _ _ => (pd_ix (pd_var 1) (pd_fn hz_law_drawn hr (by decide) rfl (pda_cons (pd_var 2) (pda_cons (pd_op op_addD (pd_op op_addD (pd_var 3) pd_int) (pd_var 0)) (pda_cons pd_int pda_nil)))))⟩ (pid_range1 rfl b_range (pda_cons (pd_fn hz_law_drawn hr (by decide) rfl (pda_cons (pd_var 0) (pda_cons (pd_op op_addD (pd_var 4) pd_int) (pda_cons pd_int pda_nil)))) pda_nil)))) pda_nil))))) pds_nil) (pds_one (pd_set 2 scz_law_links.nd rfl (by first | exact Or.inl rfl | exact Or.inr rfl) (pd_op op_addD (pd_var 2) (pd_tup (pda_cons (pd_tup (pda_cons (pd_slice sl_T (pd_fn hz_law_place hr (by decide) rfl (pda_cons (pd_var 0) (pda_cons (pd_op op_addD (pd_var 4) pd_int) pda_nil))) pdo_none (pdo_some pd_int)) (pda_cons (pd_var 5) (pda_cons (pd_var 6) (pda_cons (pd_var 7) pda_nil))))) pda_nil))))))))))) (pds_one (pd_ret (pd_var 2)))))
theorem okz_law_odd {f : Addr} {fd : FuncData} (F : Fun K "_law_odd" "_law_odd" sz_law_odd f fd) (hm : mg "_law_odd" = some (.ref f)) (hb : Binds K fd ["_law_number"] [])  : FnAt P w K mg base "_law_odd" 1 Fz_law_odd :=
 fnAt (k:=0) F scz_law_odd hm hb fun cdv A outer s H E hr => (@pds_cons _ _ _ _ _ _ (@pd_set _ _ _ _ _ _ 1 _ scz_law_odd.nd rfl (by first | exact Or.inl rfl | exact Or.inr rfl) (@pd_vc _ _ 5 _ _ (by decide +kernel)) rfl (by first | exact Or.inl rfl | exact Or.inr rfl)) (pds_one (pd_ret (pd_ix (pd_F (pdf_op op_catL (pd_var 1) (pd_F (pdf_lst (pda_cons (pd_tup (pda_cons pd_str (pda_cons pd_str pda_nil))) pda_nil))))) (pd_op op_modD (pd_var 0) pd_int)))))
theorem okz_law_spoilt {f : Addr} {fd : FuncData} (F : Fun K "_law_spoilt" "_law_spoilt" sz_law_spoilt f fd) (hm : mg "_law_spoilt" = some (.ref f)) (hb : Binds K fd ["_law_thing", "_law_number", "_law_deep"] []) (b_int : mg "int" = none) (b_isinstance : mg "isinstance" = none) (b_len : mg "len" = none) (b_list : mg "list" = none) (b_str : mg "str" = none) (b_tuple : mg "tuple" = none) (hz_law_odd : FnAt P w K mg base "_law_odd" 1 Fz_law_odd) (n : Nat) : FnAt P w K mg base "_law_spoilt" (2 + n) (Fz_law_spoilt n) := by
 induction n with
 | zero => exact fnAt (k:=1) F scz_law_spoilt hm hb fun cdv A outer s H E hr => pds_bad
 | succ n hslf => exact fnAt (k := 2 + n) F scz_law_spoilt hm hb fun cdv A outer s H E hr => (pds_cons (pd_if (PDW.pt (pdw_and (pdt_cmp op_gtD (pd_var 2) pd_int) (pdw_and (pdt_val (pd_inst (T := "tuple") (by decide) (pd_var 0) rfl b_isinstance rfl b_tuple PyProof.Rows.boot_tuple)) (pdw_and (pdt_cmp op_gtD (pd_callB call_lenD rfl b_len PySem.boot_len (pda_cons (pd_var 0) pda_nil)) pd_int) (pdw_and1 (pdt_cmp op_gtD (pd_op op_modD (pd_var 1) pd_int) pd_int)))))) (pds_cons (pd_set 3 scz_law_spoilt.nd rfl (by first | exact Or.inl rfl | exact Or.inr rfl) (pd_op op_modD (pd_op op_fdivD (pd_var 1) pd_int) (pd_callB call_lenD rfl b_len PySem.boot_len (pda_cons (pd_var 0) pda_nil)))) (pds_cons (pd_set 4 scz_law_spoilt.nd rfl (by first | exact Or.inl rfl | exact Or.inr rfl) (pd_fn hslf hr (Nat.le_refl _) rfl (pda_cons (pd_ix (pd_var 0) (pd_var 3)) (pda_cons (pd_op op_fdivD (pd_var 1) pd_int) (pda_cons (pd_op op_subD (pd_var 2) pd_int) pda_nil))))) (pds_one (pd_ret (pd_op op_addD (pd_op op_addD (pd_slice sl_T (pd_var 0) pdo_none (pdo_some (pd_var 3))) (pd_tup (pda_cons (pd_var 4) pda_nil))) (pd_slice sl_T (pd_var 0) (pdo_some (pd_op op_addD (pd_var 3) pd_int)) pdo_none)))))) pds_nil) (pds_cons (pd_if (PDW.pt (pdw_and (pdt_val (pd_inst (T := "tuple") (by decide) (pd_var 0) rfl b_isinstance rfl b_tuple PyProof.Rows.boot_tuple)) (pdw_and (pdt_cmp op_gtD (pd_callB call_lenD rfl b_len PySem.boot_len (pda_cons (pd_var 0) pda_nil)) pd_int) (pdw_and1 (pdt_cmp (op_eqD hr.units) (pd_op op_modD (pd_op op_fdivD (pd_var 1) pd_int) pd_int) pd_int))))) (pds_one (pd_ret (pd_ix (pd_F (pdf_lst (pda_cons (pd_F (pdf_callTy call_listF rfl b_list PyProof.Rows.boot_list (pda_cons (pd_var 0) pda_nil))) (pda_cons (pd_slice sl_T (pd_var 0) pdo_none (pdo_some (pd_neg pd_int))) (pda_cons (pd_op op_addD (pd_var 0) (pd_slice sl_T (pd_var 0) (pdo_some (pd_neg pd_int)) pdo_none)) (pda_cons (pd_slice sl_T (pd_var 0) (pdo_some pd_int) pdo_none) (pda_cons (pd_revT (pd_var 0) (pd_neg pd_int)) (pda_cons (pd_op op_mul2D (pd_var 0) pd_int) pda_nil)))))))) (pd_op op_modD (pd_op op_fdivD (pd_var 1) pd_int) pd_int)))) pds_nil) (pds_cons (pd_if (PDW.pt (pdw_and (pdt_val (pd_inst (T := "int") (by decide) (pd_var 0) rfl b_isinstance rfl b_int PyProof.Rows.boot_int)) (pdw_and1 (pdt_cmp (op_eqD hr.units) (pd_op op_modD (pd_op op_fdivD (pd_var 1) pd_int) pd_int) pd_int)))) (pds_one (pd_ret (pd_ix (pd_F (pdf_lst (pda_cons (pd_callTy call_strID rfl b_str PyProof.Rows.boot_str (pda_cons (pd_var 0) pda_nil)) (pda_cons (pd_op op_subD pd_int (pd_var 0)) (pda_cons (pd_op op_addD (pd_var 0) pd_int) (pda_cons (pd_cmp (op_eqD hr.units) (pd_var 0) pd_int) (pda_cons (pd_op op_subD (pd_var 0) pd_int) (pda_cons (pd_op op_addD (pd_var 0) pd_int) pda_nil)))))))) (pd_op op_modD (pd_op op_fdivD (pd_var 1) pd_int) pd_int)))) pds_nil) (pds_one (pd_ret (pd_fn hz_law_odd hr (by omega) rfl (pda_cons (pd_op op_fdivD (pd_var 1) pd_int) pda_nil)))))))
theorem okzis_too_long {f : Addr} {fd : FuncData} (F : Fun K "is_too_long" "is_too_long" szis_too_long f fd) (hm : mg "is_too_long" = some (.ref f)) (hb : Binds K fd ["words"] []) (b_len : mg "len" = none) {t_MOST_WORDS : Tok} (c_MOST_WORDS : mg "MOST_WORDS" = some (Value.int 6 t_MOST_WORDS)) : FnAt P w K mg base "is_too_long" 1 Fzis_too_long :=
 fnAt (k:=0) F sczis_too_long hm hb fun cdv A outer s H E hr => (pds_one (pd_ret (pd_cmp op_gtD (pd_callB call_lenD rfl b_len PySem.boot_len (pda_cons (pd_var 0) pda_nil)) (pd_glob (v:=.int 6) rfl c_MOST_WORDS ⟨_, rfl⟩ (fun _ _ => Rep.int_i.mpr rfl)))))
theorem okzis_letter {f : Addr} {fd : FuncData} (F : Fun K "is_letter" "is_letter" szis_letter f fd) (hm : mg "is_letter" = some (.ref f)) (hb : Binds K fd ["sign"] [])  : FnAt P w K mg base "is_letter" 1 Fzis_letter :=
 fnAt (k:=0) F sczis_letter hm hb fun cdv A outer s H E hr => (pds_one (pd_ret (pd_chain op_leX op_leX pd_str (pd_var 0) pd_str)))
theorem okzis_word {f : Addr} {fd : FuncData} (F : Fun K "is_word" "is_word" szis_word f fd) (hm : mg "is_word" = some (.ref f)) (hb : Binds K fd ["thing"] []) (b_all : mg "all" = none) (b_isinstance : mg "isinstance" = none) (b_len : mg "len" = none) (b_str : mg "str" = none) {t_MOST_LETTERS : Tok} (c_MOST_LETTERS : mg "MOST_LETTERS" = some (Value.int 4 t_MOST_LETTERS)) (hzis_letter : FnAt P w K mg base "is_letter" 1 Fzis_letter) : FnAt P w K mg base "is_word" 2 Fzis_word :=
 fnAt (k := 1) F sczis_word hm hb fun cdv A outer s H E hr => (pds_cons (pd_if (pdt_not (pdt_val (pd_inst (T := "str") (by decide) (pd_var 0) rfl b_isinstance rfl b_str PyProof.Rows.boot_str))) (pds_one (pd_ret pd_bl)) pds_nil) (pds_one (pd_ret (pd_and (pd_chain op_leX op_leX pd_int (pd_callB call_lenD rfl b_len PySem.boot_len (pda_cons (pd_var 0) pda_nil)) (pd_glob (v := .int 4) rfl c_MOST_LETTERS ⟨_, rfl⟩ (fun _ _ => Rep.int_i.mpr rfl))) (pd_one (pd_callB (call_allD rfl) rfl b_all PyProof.Rows.boot_all (pda_cons (pd_F (pdf_lc rfl ⟨Blk.of (N := ["sign"]) (caps := []) (nT := 1) (by show blkB (defScope szis_word) _ ["thing"] _ _ _ = true; decide +kernel), fun _ _ _ _ => (pgd_name 0 (by show (["sign"] : List Str).Nodup; decide +kernel) rfl (by first | exact Or.inl rfl | exact Or.inr rfl)), fun _ _ _ _ => pts_nil, fun _ _ _ _ => (pd_fn hzis_letter hr (by decide) rfl (pda_cons (pd_var 0) pda_nil))⟩ (pid_signs (pd_var 0)))) pda_nil)))))))
theorem okzis_place {f : Addr} {fd : FuncData} (F : Fun K "is_place" "is_place" szis_place f fd) (hm : mg "is_place" = some (.ref f)) (hb : Binds K fd ["thing"] []) (b_all : mg "all" = none) (b_isinstance : mg "isinstance" = none) (b_tuple : mg "tuple" = none) (hzis_too_long : FnAt P w K mg base "is_too_long" 1 Fzis_too_long) (hzis_word : FnAt P w K mg base "is_word" 2 Fzis_word) : FnAt P w K mg base "is_place" 3 Fzis_place :=
 fnAt (k := 2) F sczis_place hm hb fun cdv A outer s H E hr => (pds_cons (pd_if (pdt_not (pdt_val (pd_inst (T := "tuple") (by decide) (pd_var 0) rfl b_isinstance rfl b_tuple PyProof.Rows.boot_tuple))) (pds_one (pd_ret pd_bl)) pds_nil) (pds_one (pd_ret (pd_and (pd_not (pd_fn hzis_too_long hr (by decide) rfl (pda_cons (pd_var 0) pda_nil))) (pd_one (pd_callB (call_allD rfl) rfl b_all PyProof.Rows.boot_all (pda_cons (pd_F (pdf_lc rfl ⟨Blk.of (N := ["part"]) (caps := []) (nT := 1) (by show blkB (defScope szis_place) _ ["thing"] _ _ _ = true; decide +kernel), fun _ _ _ _ => (pgd_name 0 (by show (["part"] : List Str).Nodup; decide +kernel) rfl (by first | exact Or.inl rfl | exact Or.inr rfl)), fun _ _ _ _ => pts_nil, fun _ _ _ _ => (pd_fn hzis_word hr (by decide) rfl (pda_cons (pd_var 0) pda_nil))⟩ (pid_seq (pd_var 0)))) pda_nil)))))))
theorem okzis_guard {f : Addr} {fd : FuncData} (F : Fun K "is_guard" "is_guard" szis_guard f fd) (hm : mg "is_guard" = some (.ref f)) (hb : Binds K fd ["thing"] []) (b_isinstance : mg "isinstance" = none) (b_len : mg "len" = none) (b_tuple : mg "tuple" = none) {T_GUARD_WORDS : Addr} (tm_GUARD_WORDS : mg "GUARD_WORDS" = some (.ref T_GUARD_WORDS)) (tg_GUARD_WORDS : TupG K T_GUARD_WORDS ["let", "stop", "ask"]) (hzis_place : FnAt P w K mg base "is_place" 3 Fzis_place) : FnAt P w K mg base "is_guard" 4 Fzis_guard :=
 fnAt (k := 3) F sczis_guard hm hb fun cdv A outer s H E hr => (pds_cons (pd_if (PDW.pt (pdw_or (pdt_not (pdt_val (pd_inst (T := "tuple") (by decide) (pd_var 0) rfl b_isinstance rfl b_tuple PyProof.Rows.boot_tuple))) (pdw_or1 (pdt_cmp (op_neD hr.units) (pd_callB call_lenD rfl b_len PySem.boot_len (pda_cons (pd_var 0) pda_nil)) pd_int)))) (pds_one (pd_ret pd_bl)) pds_nil) (pds_one (pd_ret (pd_and (pd_fn hzis_place hr (by decide) rfl (pda_cons (pd_ix (pd_var 0) pd_int) pda_nil)) (pd_and (pd_fn hzis_place hr (by decide) rfl (pda_cons (pd_ix (pd_var 0) pd_int) pda_nil)) (pd_one (pd_or (pd_inG hr.units tg_GUARD_WORDS rfl tm_GUARD_WORDS (pd_ix (pd_var 0) pd_int)) (pd_one (pd_fn hzis_place hr (by decide) rfl (pda_cons (pd_ix (pd_var 0) pd_int) pda_nil))))))))))
theorem okzare_guards {f : Addr} {fd : FuncData} (F : Fun K "are_guards" "are_guards" szare_guards f fd) (hm : mg "are_guards" = some (.ref f)) (hb : Binds K fd ["thing"] []) (b_all : mg "all" = none) (b_isinstance : mg "isinstance" = none) (b_len : mg "len" = none) (b_tuple : mg "tuple" = none) {t_MOST_GUARDS : Tok} (c_MOST_GUARDS : mg "MOST_GUARDS" = some (Value.int 8 t_MOST_GUARDS)) (hzis_guard : FnAt P w K mg base "is_guard" 4 Fzis_guard) : FnAt P w K mg base "are_guards" 5 Fzare_guards :=
 fnAt (k := 4) F sczare_guards hm hb fun cdv A outer s H E hr => (pds_cons (pd_if (pdt_not (pdt_val (pd_inst (T := "tuple") (by decide) (pd_var 0) rfl b_isinstance rfl b_tuple PyProof.Rows.boot_tuple))) (pds_one (pd_ret pd_bl)) pds_nil) (pds_one (pd_ret (pd_and (pd_cmp op_leX (pd_callB call_lenD rfl b_len PySem.boot_len (pda_cons (pd_var 0) pda_nil)) (pd_glob (v := .int 8) rfl c_MOST_GUARDS ⟨_, rfl⟩ (fun _ _ => Rep.int_i.mpr rfl))) (pd_one (pd_callB (call_allD rfl) rfl b_all PyProof.Rows.boot_all (pda_cons (pd_F (pdf_lc rfl ⟨Blk.of (N := ["part"]) (caps := []) (nT := 1) (by show blkB (defScope szare_guards) _ ["thing"] _ _ _ = true; decide +kernel), fun _ _ _ _ => (pgd_name 0 (by show (["part"] : List Str).Nodup; decide +kernel) rfl (by first | exact Or.inl rfl | exact Or.inr rfl)), fun _ _ _ _ => pts_nil, fun _ _ _ _ => (pd_fn hzis_guard hr (by decide) rfl (pda_cons (pd_var 0) pda_nil))⟩ (pid_seq (pd_var 0)))) pda_nil)))))))
theorem okzis_way {f : Addr} {fd : FuncData} (F : Fun K "is_way" "is_way" szis_way f fd) (hm : mg "is_way" = some (.ref f)) (hb : Binds K fd ["thing"] []) (b_bool : mg "bool" = none) (b_int : mg "int" = none) (b_isinstance : mg "isinstance" = none) {t_FURTHEST : Tok} (c_FURTHEST : mg "FURTHEST" = some (Value.int 9 t_FURTHEST)) : FnAt P w K mg base "is_way" 1 Fzis_way :=
 fnAt (k := 0) F sczis_way hm hb fun cdv A outer s H E hr => (pds_cons (pd_if (PDW.pt (pdw_or (pdt_not (pdt_val (pd_inst (T := "int") (by decide) (pd_var 0) rfl b_isinstance rfl b_int PyProof.Rows.boot_int))) (pdw_or1 (pdt_val (pd_inst (T := "bool") (by decide) (pd_var 0) rfl b_isinstance rfl b_bool PyProof.Rows.boot_bool))))) (pds_one (pd_ret pd_bl)) pds_nil) (pds_one (pd_ret (pd_chain op_leX op_leX (pd_neg (pd_glob (v := .int 9) rfl c_FURTHEST ⟨_, rfl⟩ (fun _ _ => Rep.int_i.mpr rfl))) (pd_var 0) (pd_glob (v := .int 9) rfl c_FURTHEST ⟨_, rfl⟩ (fun _ _ => Rep.int_i.mpr rfl))))))
theorem okzis_step {f : Addr} {fd : FuncData} (F : Fun K "is_step" "is_step" szis_step f fd) (hm : mg "is_step" = some (.ref f)) (hb : Binds K fd ["thing"] []) {T_STEPS_THAT_STAY_OR_RISE : Addr} (tm_STEPS_THAT_STAY_OR_RISE : mg "STEPS_THAT_STAY_OR_RISE" = some (.ref T_STEPS_THAT_STAY_OR_RISE)) (tg_STEPS_THAT_STAY_OR_RISE : TupG K T_STEPS_THAT_STAY_OR_RISE [".", ".."]) (hzis_word : FnAt P w K mg base "is_word" 2 Fzis_word) : FnAt P w K mg base "is_step" 3 Fzis_step :=
 fnAt (k:=2) F sczis_step hm hb fun cdv A outer s H E hr => (pds_one (pd_ret (pd_or (pd_fn hzis_word hr (by decide) rfl (pda_cons (pd_var 0) pda_nil)) (pd_one (pd_inG hr.units tg_STEPS_THAT_STAY_OR_RISE rfl tm_STEPS_THAT_STAY_OR_RISE (pd_var 0))))))
theorem okzare_steps {f : Addr} {fd : FuncData} (F : Fun K "are_steps" "are_steps" szare_steps f fd) (hm : mg "are_steps" = some (.ref f)) (hb : Binds K fd ["thing"] []) (b_all : mg "all" = none) (b_isinstance : mg "isinstance" = none) (b_len : mg "len" = none) (b_tuple : mg "tuple" = none) {t_MOST_STEPS : Tok} (c_MOST_STEPS : mg "MOST_STEPS" = some (Value.int 4 t_MOST_STEPS)) (hzis_step : FnAt P w K mg base "is_step" 3 Fzis_step) : FnAt P w K mg base "are_steps" 4 Fzare_steps :=
 fnAt (k := 3) F sczare_steps hm hb fun cdv A outer s H E hr => (pds_cons (pd_if (pdt_not (pdt_val (pd_inst (T := "tuple") (by decide) (pd_var 0) rfl b_isinstance rfl b_tuple PyProof.Rows.boot_tuple))) (pds_one (pd_ret pd_bl)) pds_nil) (pds_one (pd_ret (pd_and (pd_cmp op_leX (pd_callB call_lenD rfl b_len PySem.boot_len (pda_cons (pd_var 0) pda_nil)) (pd_glob (v := .int 4) rfl c_MOST_STEPS ⟨_, rfl⟩ (fun _ _ => Rep.int_i.mpr rfl))) (pd_one (pd_callB (call_allD rfl) rfl b_all PyProof.Rows.boot_all (pda_cons (pd_F (pdf_lc rfl ⟨Blk.of (N := ["part"]) (caps := []) (nT := 1) (by show blkB (defScope szare_steps) _ ["thing"] _ _ _ = true; decide +kernel), fun _ _ _ _ => (pgd_name 0 (by show (["part"] : List Str).Nodup; decide +kernel) rfl (by first | exact Or.inl rfl | exact Or.inr rfl)), fun _ _ _ _ => pts_nil, fun _ _ _ _ => (pd_fn hzis_step hr (by decide) rfl (pda_cons (pd_var 0) pda_nil))⟩ (pid_seq (pd_var 0)))) pda_nil)))))))
theorem okzis_link {f : Addr} {fd : FuncData} (F : Fun K "is_link" "is_link" szis_link f fd) (hm : mg "is_link" = some (.ref f)) (hb : Binds K fd ["thing"] []) (b_isinstance : mg "isinstance" = none) (b_len : mg "len" = none) (b_tuple : mg "tuple" = none) {T_STEP_KINDS : Addr} (tm_STEP_KINDS : mg "STEP_KINDS" = some (.ref T_STEP_KINDS)) (tg_STEP_KINDS : TupG K T_STEP_KINDS ["open", "replace"]) (hzare_steps : FnAt P w K mg base "are_steps" 4 Fzare_steps) (hzis_place : FnAt P w K mg base "is_place" 3 Fzis_place) (hzis_way : FnAt P w K mg base "is_way" 1 Fzis_way) (hzis_word : FnAt P w K mg base "is_word" 2 Fzis_word) : FnAt P w K mg base "is_link" 5 Fzis_link :=
 fnAt (k := 4) F sczis_link hm hb fun cdv A outer s H E hr => (pds_cons (pd_if (PDW.pt (pdw_or (pdt_not (pdt_val (pd_inst (T := "tuple") (by decide) (pd_var 0) rfl b_isinstance rfl b_tuple PyProof.Rows.boot_tuple))) (pdw_or1 (pdt_cmp (op_neD hr.units) (pd_callB call_lenD rfl b_len PySem.boot_len (pda_cons (pd_var 0) pda_nil)) pd_int)))) (pds_one (pd_ret pd_bl)) pds_nil) (pds_cons (pd_if (PDW.pt (pdw_or (pdt_not (pdt_val (pd_fn hzis_place hr (by decide) rfl (pda_cons (pd_ix (pd_var 0) pd_int) pda_nil)))) (pdw_or1 (pdt_not (pdt_val (pd_fn hzis_word hr (by decide) rfl (pda_cons (pd_ix (pd_var 0) pd_int) pda_nil))))))) (pds_one (pd_ret pd_bl)) pds_nil) (pds_cons (pd_if (pdt_cmp (op_eqD hr.units) (pd_ix (pd_var 0) pd_int) pd_str) (pds_one (pd_ret (pd_fn hzis_way hr (by decide) rfl (pda_cons (pd_ix (pd_var 0) pd_int) pda_nil)))) pds_nil) (pds_one (pd_ret (pd_and (pd_inG hr.units tg_STEP_KINDS rfl tm_STEP_KINDS (pd_ix (pd_var 0) pd_int)) (pd_one (pd_fn hzare_steps hr (by decide) rfl (pda_cons (pd_ix (pd_var 0) pd_int) pda_nil)))))))))
theorem okzare_links {f : Addr} {fd : FuncData} (F : Fun K "are_links" "are_links" szare_links f fd) (hm : mg "are_links" = some (.ref f)) (hb : Binds K fd ["thing"] []) (b_all : mg "all" = none) (b_isinstance : mg "isinstance" = none) (b_len : mg "len" = none) (b_tuple : mg "tuple" = none) {t_MOST_LINKS : Tok} (c_MOST_LINKS : mg "MOST_LINKS" = some (Value.int 12 t_MOST_LINKS)) (hzis_link : FnAt P w K mg base "is_link" 5 Fzis_link) : FnAt P w K mg base "are_links" 6 Fzare_links :=
 fnAt (k := 5) F sczare_links hm hb fun cdv A outer s H E hr => (pds_cons (pd_if (pdt_not (pdt_val (pd_inst (T := "tuple") (by decide) (pd_var 0) rfl b_isinstance rfl b_tuple PyProof.Rows.boot_tuple))) (pds_one (pd_ret pd_bl)) pds_nil) (pds_one (pd_ret (pd_and (pd_cmp op_leX (pd_callB call_lenD rfl b_len PySem.boot_len (pda_cons (pd_var 0) pda_nil)) (pd_glob (v := .int 12) rfl c_MOST_LINKS ⟨_, rfl⟩ (fun _ _ => Rep.int_i.mpr rfl))) (pd_one (pd_callB (call_allD rfl) rfl b_all PyProof.Rows.boot_all (pda_cons (pd_F (pdf_lc rfl ⟨Blk.of (N := ["part"]) (caps := []) (nT := 1) (by show blkB (defScope szare_links) _ ["thing"] _ _ _ = true; decide +kernel), fun _ _ _ _ => (pgd_name 0 (by show (["part"] : List Str).Nodup; decide +kernel) rfl (by first | exact Or.inl rfl | exact Or.inr rfl)), fun _ _ _ _ => pts_nil, fun _ _ _ _ => (pd_fn hzis_link hr (by decide) rfl (pda_cons (pd_var 0) pda_nil))⟩ (pid_seq (pd_var 0)))) pda_nil)))))))
theorem okz_law_is_word {f : Addr} {fd : FuncData} (F : Fun K "_law_is_word" "_law_is_word" sz_law_is_word f fd) (hm : mg "_law_is_word" = some (.ref f)) (hb : Binds K fd ["_law_thing"] []) (b_isinstance : mg "isinstance" = none) (b_len : mg "len" = none) (b_str : mg "str" = none) : FnAt P w K mg base "_law_is_word" 1 Fz_law_is_word :=
 fnAt (k := 0) F scz_law_is_word hm hb fun cdv A outer s H E hr => (pds_cons (pd_if (PDW.pt (pdw_or (pdt_not (pdt_val (pd_inst (T := "str") (by decide) (pd_var 0) rfl b_isinstance rfl b_str PyProof.Rows.boot_str))) (pdw_or1 (pdt_not (pdt_chain op_leX op_leX pd_int (pd_callB call_lenD rfl b_len PySem.boot_len (pda_cons (pd_var 0) pda_nil)) pd_int))))) (pds_one (pd_ret pd_bl)) pds_nil) (pds_one (pd_ret (pd_cmp (op_eqD hr.units) (pd_F (pdf_lc rfl ⟨Blk.of (N := ["_law_sign"]) (caps := []) (nT := 1) (by show blkB (defScope sz_law_is_word) _ ["_law_thing"] _ _ _ = true; decide +kernel), fun _ _ _ _ => (pgd_name 0 (by show (["_law_sign"] : List Str).Nodup; decide +kernel) rfl (by first | exact Or.inl rfl | exact Or.inr rfl)), fun _ _ _ _ => pts_one (pdt_cmp op_notInS (pd_var 0) pd_str), fun _ _ _ _ => (pd_var 0)⟩ (pid_signs (pd_var 0)))) (pd_F (pdf_lst pda_nil))))))
theorem okz_law_is_place {f : Addr} {fd : FuncData} (F : Fun K "_law_is_place" "_law_is_place" sz_law_is_place f fd) (hm : mg "_law_is_place" = some (.ref f)) (hb : Binds K fd ["_law_thing"] []) (b_isinstance : mg "isinstance" = none) (b_len : mg "len" = none) (b_tuple : mg "tuple" = none) (hz_law_is_word : FnAt P w K mg base "_law_is_word" 1 Fz_law_is_word) : FnAt P w K mg base "_law_is_place" 2 Fz_law_is_place :=
 fnAt (k := 1) F scz_law_is_place hm hb fun cdv A outer s H E hr => (pds_cons (pd_if (PDW.pt (pdw_or (pdt_not (pdt_val (pd_inst (T := "tuple") (by decide) (pd_var 0) rfl b_isinstance rfl b_tuple PyProof.Rows.boot_tuple))) (pdw_or1 (pdt_cmp op_gtD (pd_callB call_lenD rfl b_len PySem.boot_len (pda_cons (pd_var 0) pda_nil)) pd_int)))) (pds_one (pd_ret pd_bl)) pds_nil) (pds_one (pd_ret (pd_cmp (op_eqD hr.units) (pd_F (pdf_lc rfl ⟨Blk.of (N := ["_law_word"]) (caps := []) (nT := 1) (by show blkB (defScope sz_law_is_place) _ ["_law_thing"] _ _ _ = true; decide +kernel), fun _ _ _ _ => (pgd_name 0 (by show (["_law_word"] : List Str).Nodup; decide +kernel) rfl (by first | exact Or.inl rfl | exact Or.inr rfl)), fun _ _ _ _ => pts_one (pdt_not (pdt_val (pd_fn hz_law_is_word hr (by decide) rfl (pda_cons (pd_var 0) pda_nil)))), fun _ _ _ _ => (pd_var 0)⟩ (pid_seq (pd_var 0)))) (pd_F (pdf_lst pda_nil))))))
theorem okz_law_is_guard {f : Addr} {fd : FuncData} (F : Fun K "_law_is_guard" "_law_is_guard" sz_law_is_guard f fd) (hm : mg "_law_is_guard" = some (.ref f)) (hb : Binds K fd ["_law_thing"] []) (b_isinstance : mg "isinstance" = none) (b_len : mg "len" = none) (b_tuple : mg "tuple" = none) (hz_law_is_place : FnAt P w K mg base "_law_is_place" 2 Fz_law_is_place) : FnAt P w K mg base "_law_is_guard" 3 Fz_law_is_guard :=
 fnAt (k := 2) F scz_law_is_guard hm hb fun cdv A outer s H E hr => (pds_cons (pd_if (PDW.pt (pdw_or (pdt_not (pdt_val (pd_inst (T := "tuple") (by decide) (pd_var 0) rfl b_isinstance rfl b_tuple PyProof.Rows.boot_tuple))) (pdw_or (pdt_cmp (op_neD hr.units) (pd_callB call_lenD rfl b_len PySem.boot_len (pda_cons (pd_var 0) pda_nil)) pd_int) (pdw_or (pdt_not (pdt_val (pd_fn hz_law_is_place hr (by decide) rfl (pda_cons (pd_ix (pd_var 0) pd_int) pda_nil)))) (pdw_or1 (pdt_not (pdt_val (pd_fn hz_law_is_place hr (by decide) rfl (pda_cons (pd_ix (pd_var 0) pd_int) pda_nil))))))))) (pds_one (pd_ret pd_bl)) pds_nil) (pds_one (pd_ret (pd_or (pd_fn hz_law_is_place hr (by decide) rfl (pda_cons (pd_ix (pd_var 0) pd_int) pda_nil)) (pd_one (pd_cmp (op_inD hr.units) (pd_ix (pd_var 0) pd_int) (pd_tup (pda_cons pd_str (pda_cons pd_str (pda_cons pd_str pda_nil))))))))))
theorem okz_law_is_link {f : Addr} {fd : FuncData} (F : Fun K "_law_is_link" "_law_is_link" sz_law_is_link f fd) (hm : mg "_law_is_link" = some (.ref f)) (hb : Binds K fd ["_law_thing"] []) (b_bool : mg "bool" = none) (b_int : mg "int" = none) (b_isinstance : mg "isinstance" = none) (b_len : mg "len" = none) (b_tuple : mg "tuple" = none) (hz_law_is_place : FnAt P w K mg base "_law_is_place" 2 Fz_law_is_place) (hz_law_is_word : FnAt P w K mg base "_law_is_word" 1 Fz_law_is_word) : FnAt P w K mg base "_law_is_link" 3 Fz_law_is_link :=
 fnAt (k := 2) F scz_law_is_link hm hb fun cdv A outer s H E hr => (pds_cons (pd_if (PDW.pt (pdw_or (pdt_not (pdt_val (pd_inst (T := "tuple") (by decide) (pd_var 0) rfl b_isinstance rfl b_tuple PyProof.Rows.boot_tuple))) (pdw_or (pdt_cmp (op_neD hr.units) (pd_callB call_lenD rfl b_len PySem.boot_len (pda_cons (pd_var 0) pda_nil)) pd_int) (pdw_or (pdt_not (pdt_val (pd_fn hz_law_is_place hr (by decide) rfl (pda_cons (pd_ix (pd_var 0) pd_int) pda_nil)))) (pdw_or1 (pdt_not (pdt_val (pd_fn hz_law_is_word hr (by decide) rfl (pda_cons (pd_ix (pd_var 0) pd_int) pda_nil))))))))) (pds_one (pd_ret pd_bl)) pds_nil) (pds_cons (pd_if (pdt_cmp (op_eqD hr.units) (pd_ix (pd_var 0) pd_int) pd_str) (pds_one (pd_ret (pd_and (pd_inst (T := "int") (by decide) (pd_ix (pd_var 0) pd_int) rfl b_isinstance rfl b_int PyProof.Rows.boot_int) (pd_and (pd_not (pd_inst (T := "bool") (by decide) (pd_ix (pd_var 0) pd_int) rfl b_isinstance rfl b_bool PyProof.Rows.boot_bool)) (pd_one (pd_chain op_leX op_leX (pd_neg pd_int) (pd_ix (pd_var 0) pd_int) pd_int)))))) pds_nil) (pds_cons (pd_if (PDW.pt (pdw_or (pdt_cmp (op_notInD hr.units) (pd_ix (pd_var 0) pd_int) (pd_tup (pda_cons pd_str (pda_cons pd_str pda_nil)))) (pdw_or (pdt_not (pdt_val (pd_inst (T := "tuple") (by decide) (pd_ix (pd_var 0) pd_int) rfl b_isinstance rfl b_tuple PyProof.Rows.boot_tuple))) (pdw_or1 (pdt_cmp op_gtD (pd_callB call_lenD rfl b_len PySem.boot_len (pda_cons (pd_ix (pd_var 0) pd_int) pda_nil)) pd_int))))) (pds_one (pd_ret pd_bl)) pds_nil) (pds_one (pd_ret (pd_cmp (op_eqD hr.units) (pd_F (pdf_lc rfl ⟨Blk.of (N := ["_law_step"]) (caps := []) (nT := 1) (by show blkB (defScope sz_law_is_link) _ ["_law_thing"] _ _ _ = true; decide +kernel), fun _ _ _ _ => (pgd_name 0 (by show (["_law_step"] : List Str).Nodup; decide +kernel) rfl (by first | exact Or.inl rfl | exact Or.inr rfl)), fun _ _ _ _ => pts_one (PDW.pt (pdw_and (pdt_not (pdt_val (pd_fn hz_law_is_word hr (by decide) rfl (pda_cons (pd_var 0) pda_nil)))) (pdw_and1 (pdt_cmp (op_notInD hr.units) (pd_var 0) (pd_tup (pda_cons pd_str (pda_cons pd_str pda_nil))))))), fun _ _ _ _ => (pd_var 0)⟩ (pid_seq (pd_ix (pd_var 0) pd_int)))) (pd_F (pdf_lst pda_nil))))))))
theorem okz_law_are {f : Addr} {fd : FuncData} (F : Fun K "_law_are" "_law_are" sz_law_are f fd) (hm : mg "_law_are" = some (.ref f)) (hb : Binds K fd ["_law_way", "_law_thing"] []) (b_isinstance : mg "isinstance" = none) (b_len : mg "len" = none) (b_tuple : mg "tuple" = none) (hz_law_is_guard : FnAt P w K mg base "_law_is_guard" 3 Fz_law_is_guard) (hz_law_is_link : FnAt P w K mg base "_law_is_link" 3 Fz_law_is_link) (hz_law_is_place : FnAt P w K mg base "_law_is_place" 2 Fz_law_is_place) : FnAt P w K mg base "_law_are" 4 Fz_law_are :=
 fnAt (k := 3) F scz_law_are hm hb fun cdv A outer s H E hr => (pds_cons (pd_if (pdt_cmp (op_eqD hr.units) (pd_var 0) pd_int) (pds_one (pd_ret (pd_fn hz_law_is_place hr (by decide) rfl (pda_cons (pd_var 1) pda_nil)))) pds_nil) (pds_cons (pd_if (PDW.pt (pdw_or (pdt_not (pdt_val (pd_inst (T := "tuple") (by decide) (pd_var 1) rfl b_isinstance rfl b_tuple PyProof.Rows.boot_tuple))) (pdw_or1 (pdt_cmp op_gtD (pd_callB call_lenD rfl b_len PySem.boot_len (pda_cons (pd_var 1) pda_nil)) (pd_ix (pd_F (pdf_lst (pda_cons pd_int (pda_cons pd_int pda_nil)))) (pd_op op_subD (pd_var 0) pd_int)))))) (pds_one (pd_ret pd_bl)) pds_nil) (pds_cons (pd_if (pdt_cmp (op_eqD hr.units) (pd_var 0) pd_int) (pds_one (pd_ret (pd_cmp (op_eqD hr.units) (pd_F (pdf_lc rfl ⟨Blk.of (N := ["_law_one"]) (caps := []) (nT := 1) (by show blkB (defScope sz_law_are) _ ["_law_way", "_law_thing"] _ _ _ = true; decide +kernel), fun _ _ _ _ => (pgd_name 0 (by show (["_law_one"] : List Str).Nodup; decide +kernel) rfl (by first | exact Or.inl rfl | exact Or.inr rfl)), fun _ _ _ _ => pts_one (pdt_not (pdt_val (pd_fn hz_law_is_guard hr (by decide) rfl (pda_cons (pd_var 0) pda_nil)))), fun _ _ _ _ => (pd_var 0)⟩ (pid_seq (pd_var 1)))) (pd_F (pdf_lst pda_nil))))) pds_nil) (pds_one (pd_ret (pd_cmp (op_eqD hr.units) (pd_F (pdf_lc rfl ⟨Blk.of (N := ["_law_one"]) (caps := []) (nT := 1) (by show blkB (defScope sz_law_are) _ ["_law_way", "_law_thing"] _ _ _ = true; decide +kernel), fun _ _ _ _ => (pgd_name 0 (by show (["_law_one"] : List Str).Nodup; decide +kernel) rfl (by first | exact Or.inl rfl | exact Or.inr rfl)), fun _ _ _ _ => pts_one (pdt_not (pdt_val (pd_fn hz_law_is_link hr (by decide) rfl (pda_cons (pd_var 0) pda_nil)))), fun _ _ _ _ => (pd_var 0)⟩ (pid_seq (pd_var 1)))) (pd_F (pdf_lst pda_nil))))))))
theorem okz_law_each {f : Addr} {fd : FuncData} (F : Fun K "_law_each" "_law_each" sz_law_each f fd) (hm : mg "_law_each" = some (.ref f)) (hb : Binds K fd ["_law_thing"] []) (b_int : mg "int" = none) (b_isinstance : mg "isinstance" = none) (b_len : mg "len" = none) (b_list : mg "list" = none) (b_range : mg "range" = none) (b_tuple : mg "tuple" = none) (n : Nat) : FnAt P w K mg base "_law_each" (1 + n) (Fz_law_each n) := by
 induction n with
 | zero => exact fnAt (k:=0) F scz_law_each hm hb fun cdv A outer s H E hr => pds_bad
 | succ n hslf => exact fnAt (k := 1 + n) F scz_law_each hm hb fun cdv A outer s H E hr => (pds_cons (pd_if (pdt_val (pd_inst (T := "int") (by decide) (pd_var 0) rfl b_isinstance rfl b_int PyProof.Rows.boot_int)) (pds_one (pd_ret (pd_F (pdf_lst (pda_cons pd_non (pda_cons pd_bl (pda_cons (pd_op op_subD (pd_var 0) pd_int) (pda_cons (pd_op op_addD (pd_var 0) pd_int) (pda_cons pd_int pda_nil))))))))) pds_nil) (pds_cons (pd_if (pdt_not (pdt_val (pd_inst (T := "tuple") (by decide) (pd_var 0) rfl b_isinstance rfl b_tuple PyProof.Rows.boot_tuple))) (pds_one (pd_ret (pd_F (pdf_lst (pda_row pda_nil [(.none, 0, _), (.str "", 0, _), (.str "A", 0, _), (.str "abcde", 0, _), (.str "...", 0, _)] rfl))))) pds_nil) (pds_cons (pd_set 1 scz_law_each.nd rfl (by first | exact Or.inl rfl | exact Or.inr rfl) (pd_F (pdf_lst (pda_cons pd_non (pda_cons (pd_F (pdf_callTy call_listF rfl b_list PyProof.Rows.boot_list (pda_cons (pd_var 0) pda_nil))) (pda_cons (pd_op op_addD (pd_var 0) (pd_slice sl_T (pd_var 0) (pdo_some (pd_neg pd_int)) pdo_none)) (pda_cons (pd_slice sl_T (pd_var 0) (pdo_some pd_int) pdo_none) pda_nil))))))) (pds_cons (pd_for PassesOwn.never rfl (pid_range1 rfl b_range (pda_cons (pd_callB call_lenD rfl b_len PySem.boot_len (pda_cons (pd_var 0) pda_nil)) pda_nil)) (pgd_name 2 scz_law_each.nd rfl (by first | exact Or.inl rfl | exact Or.inr rfl)) (pds_one (pd_set 1 scz_law_each.nd rfl (by first | exact Or.inl rfl | exact Or.inr rfl) (pd_F (pdf_op op_catL (pd_var 1) (pd_F (pdf_lc rfl ⟨Blk.of (N := ["_law_part", "_law_thing", "_law_place_here"]) (caps := [0, 2]) (nT := 1) (by show blkB (defScope sz_law_each) _ ["_law_thing", "_law_found", "_law_place_here"] _ _ _ = true; decide +kernel), fun _ _ _ _ => (pgd_name 0 (by show (["_law_part", "_law_thing", "_law_place_here"] : List Str).Nodup; decide +kernel) rfl (by first | exact Or.inl rfl | exact Or.inr rfl)), fun _ _ _ _ => pts_nil, fun _ _ _ _ => (pd_op op_addD (pd_op op_addD (pd_slice sl_T (pd_var 1) pdo_none (pdo_some (pd_var 2))) (pd_tup (pda_cons (pd_var 0) pda_nil))) (pd_slice sl_T (pd_var 1) (pdo_some (pd_op op_addD (pd_var 2) pd_int)) pdo_none))⟩ (pid_seq (pd_fn hslf hr (Nat.le_refl _) rfl (pda_cons (pd_ix (pd_var 0) (pd_var 2)) pda_nil)))))))))) (pds_one (pd_ret (pd_var 1)))))))
theorem okz_law_told {f : Addr} {fd : FuncData} (F : Fun K "_law_told" "_law_told" sz_law_told f fd) (hm : mg "_law_told" = some (.ref f)) (hb : Binds K fd ["_law_way", "_law_thing"] []) (hzare_guards : FnAt P w K mg base "are_guards" 5 Fzare_guards) (hzare_links : FnAt P w K mg base "are_links" 6 Fzare_links) (hzis_place : FnAt P w K mg base "is_place" 3 Fzis_place) : FnAt P w K mg base "_law_told" 7 Fz_law_told :=
 fnAt (k:=6) F scz_law_told hm hb fun cdv A outer s H E hr => (pds_cons (pd_if (pdt_cmp (op_eqD hr.units) (pd_var 0) pd_int) (pds_one (pd_ret (pd_fn hzis_place hr (by decide) rfl (pda_cons (pd_var 1) pda_nil)))) pds_nil) (pds_one (pd_ret (pd_ifExp (pdt_cmp (op_eqD hr.units) (pd_var 0) pd_int) (pd_fn hzare_guards hr (by decide) rfl (pda_cons (pd_var 1) pda_nil)) (pd_fn hzare_links hr (by decide) rfl (pda_cons (pd_var 1) pda_nil))))))
noncomputable abbrev Nzlaw : List Str := ["_law_script", "_law_way", "_law_thing", "_law_spoilt_here", "_law_far", "_law_one", "_law_said", "_law_bases", "_law_base"]
theorem okzlaw_p2 (hz_law_place : FnAt P w K mg base "_law_place" 3 Fz_law_place) (fA : Addr) (cdv : Value) (A : Around) (outer : List Env) (s : Shared) (H : Hp) (E : XK) (hr : Room 7 (A.deeper (PyProof.Rows.envOfC "law" (defScope szlaw) s.heap.objs.size fA cdv))) : PDs (cxOf CX0 P w K mg base Nzlaw "law" (defScope szlaw) fA cdv A outer s H E).nox EX0 stzlaw_p2 Pzlaw_p2 := (pd_set 2 sczlaw.nd rfl (by first | exact Or.inl rfl | exact Or.inr rfl) (pd_fn hz_law_place hr (by decide) rfl (pda_cons (pd_var 0) (pda_cons pd_int pda_nil))))
theorem okzlaw_p3 (hz_law_guards : FnAt P w K mg base "_law_guards" 4 Fz_law_guards) (hz_law_links : FnAt P w K mg base "_law_links" 4 Fz_law_links) (fA : Addr) (cdv : Value) (A : Around) (outer : List Env) (s : Shared) (H : Hp) (E : XK) (hr : Room 7 (A.deeper (PyProof.Rows.envOfC "law" (defScope szlaw) s.heap.objs.size fA cdv))) : PDs (cxOf CX0 P w K mg base Nzlaw "law" (defScope szlaw) fA cdv A outer s H E).nox EX0 stzlaw_p3 Pzlaw_p3 := (pd_if (pdt_cmp op_gtD (pd_var 1) pd_int) (pds_one (pd_set 2 sczlaw.nd rfl (by first | exact Or.inl rfl | exact Or.inr rfl) (pd_ifExp (pdt_cmp (op_eqD hr.units) (pd_var 1) pd_int) (pd_fn hz_law_guards hr (by decide) rfl (pda_cons (pd_var 0) (pda_cons pd_int pda_nil))) (pd_fn hz_law_links hr (by decide) rfl (pda_cons (pd_var 0) (pda_cons pd_int pda_nil)))))) pds_nil)
theorem okzlaw_p4 (hz_law_drawn : FnAt P w K mg base "_law_drawn" 2 Fz_law_drawn) (hz_law_spoilt : FnAt P w K mg base "_law_spoilt" 6 (Fz_law_spoilt 4)) (fA : Addr) (cdv : Value) (A : Around) (outer : List Env) (s : Shared) (H : Hp) (E : XK) (hr : Room 7 (A.deeper (PyProof.Rows.envOfC "law" (defScope szlaw) s.heap.objs.size fA cdv))) : PDs (cxOf CX0 P w K mg base Nzlaw "law" (defScope szlaw) fA cdv A outer s H E).nox EX0 stzlaw_p4 Pzlaw_p4 := (pd_set 3 sczlaw.nd rfl (by first | exact Or.inl rfl | exact Or.inr rfl) (pd_fn hz_law_spoilt hr (by decide) rfl (pda_cons (pd_var 2) (pda_cons (pd_fn hz_law_drawn hr (by decide) rfl (pda_cons (pd_var 0) (pda_cons (pd_op op_addD pd_int (pd_var 1)) (pda_cons (pd_op op_powD pd_int pd_int) pda_nil)))) (pda_cons (pd_fn hz_law_drawn hr (by decide) rfl (pda_cons (pd_var 0) (pda_cons (pd_op op_addD pd_int (pd_var 1)) (pda_cons pd_int pda_nil)))) pda_nil)))))
theorem okzlaw_p5 (hz_law_drawn : FnAt P w K mg base "_law_drawn" 2 Fz_law_drawn) (fA : Addr) (cdv : Value) (A : Around) (outer : List Env) (s : Shared) (H : Hp) (E : XK) (hr : Room 7 (A.deeper (PyProof.Rows.envOfC "law" (defScope szlaw) s.heap.objs.size fA cdv))) : PDs (cxOf CX0 P w K mg base Nzlaw "law" (defScope szlaw) fA cdv A outer s H E).nox EX0 stzlaw_p5 Pzlaw_p5 := (pd_set 4 sczlaw.nd rfl (by first | exact Or.inl rfl | exact Or.inr rfl) (pd_ix (pd_F (pdf_lst (pda_cons pd_int (pda_cons pd_int (pda_cons (pd_neg pd_int) (pda_cons (pd_neg pd_int) pda_nil)))))) (pd_fn hz_law_drawn hr (by decide) rfl (pda_cons (pd_var 0) (pda_cons pd_int (pda_cons pd_int pda_nil))))))
theorem okzlaw_p6 (b_bool : mg "bool" = none) (b_isinstance : mg "isinstance" = none) (b_list : mg "list" = none) (hz_law_are : FnAt P w K mg base "_law_are" 4 Fz_law_are) (hzare_guards : FnAt P w K mg base "are_guards" 5 Fzare_guards) (hzare_links : FnAt P w K mg base "are_links" 6 Fzare_links) (hzis_place : FnAt P w K mg base "is_place" 3 Fzis_place) (fA : Addr) (cdv : Value) (A : Around) (outer : List Env) (s : Shared) (H : Hp) (E : XK) (hr : Room 7 (A.deeper (PyProof.Rows.envOfC "law" (defScope szlaw) s.heap.objs.size fA cdv))) : PDs (cxOf CX0 P w K mg base Nzlaw "law" (defScope szlaw) fA cdv A outer s H E).nox EX0 stzlaw_p6 Pzlaw_p6 := (pd_for PassesOwn.never rfl (pid_seq (pd_tup (pda_cons (pd_var 2) (pda_cons (pd_var 3) (pda_cons (pd_op op_mul2D (pd_var 2) pd_int) (pda_cons (pd_F (pdf_callTy call_listF rfl b_list PyProof.Rows.boot_list (pda_cons (pd_var 2) pda_nil))) (pda_cons (pd_slice sl_T (pd_var 2) pdo_none (pdo_some pd_int)) (pda_cons (pd_tup pda_nil) (pda_cons pd_non (pda_cons pd_str (pda_cons (pd_tup (pda_cons (pd_tup (pda_cons (pd_tup pda_nil) (pda_cons pd_str (pda_cons pd_str (pda_cons (pd_var 4) pda_nil))))) pda_nil)) pda_nil))))))))))) (pgd_name 5 sczlaw.nd rfl (by first | exact Or.inl rfl | exact Or.inr rfl)) (pds_cons (pd_set 6 sczlaw.nd rfl (by first | exact Or.inl rfl | exact Or.inr rfl) (pd_fn hzis_place hr (by decide) rfl (pda_cons (pd_var 5) pda_nil))) (pds_cons (pd_if (pdt_cmp op_gtD (pd_var 1) pd_int) (pds_one (pd_set 6 sczlaw.nd rfl (by first | exact Or.inl rfl | exact Or.inr rfl) (pd_ifExp (pdt_cmp (op_eqD hr.units) (pd_var 1) pd_int) (pd_fn hzare_guards hr (by decide) rfl (pda_cons (pd_var 5) pda_nil)) (pd_fn hzare_links hr (by decide) rfl (pda_cons (pd_var 5) pda_nil))))) pds_nil) (pds_one (pd_if (PDW.pt (pdw_or (pdt_not (pdt_val (pd_inst (T := "bool") (by decide) (pd_var 6) rfl b_isinstance rfl b_bool PyProof.Rows.boot_bool))) (pdw_or1 (pdt_cmp (op_neD hr.units) (pd_var 6) (pd_fn hz_law_are hr (by decide) rfl (pda_cons (pd_var 1) (pda_cons (pd_var 5) pda_nil))))))) (pds_one (pd_ret pd_bl)) pds_nil)))))
theorem okzlaw_p1 (b_bool : mg "bool" = none) (b_isinstance : mg "isinstance" = none) (b_list : mg "list" = none) (b_range : mg "range" = none) (hz_law_are : FnAt P w K mg base "_law_are" 4 Fz_law_are) (hz_law_drawn : FnAt P w K mg base "_law_drawn" 2 Fz_law_drawn) (hz_law_guards : FnAt P w K mg base "_law_guards" 4 Fz_law_guards) (hz_law_links : FnAt P w K mg base "_law_links" 4 Fz_law_links) (hz_law_place : FnAt P w K mg base "_law_place" 3 Fz_law_place) (hz_law_spoilt : FnAt P w K mg base "_law_spoilt" 6 (Fz_law_spoilt 4)) (hzare_guards : FnAt P w K mg base "are_guards" 5 Fzare_guards) (hzare_links : FnAt P w K mg base "are_links" 6 Fzare_links) (hzis_place : FnAt P w K mg base "is_place" 3 Fzis_place) (fA : Addr) (cdv : Value) (A : Around) (outer : List Env) (s : Shared) (H : Hp) (E : XK) (hr : Room 7 (A.deeper (PyProof.Rows.envOfC "law" (defScope szlaw) s.heap.objs.size fA cdv))) : PDs (cxOf CX0 P w K mg base Nzlaw "law" (defScope szlaw) fA cdv A outer s H E).nox EX0 stzlaw_p1 Pzlaw_p1 := (pd_for PassesOwn.never rfl (pid_range1 rfl b_range (pda_cons pd_int pda_nil)) (pgd_name 1 sczlaw.nd rfl (by first | exact Or.inl rfl | exact Or.inr rfl)) (show PDS _ _ [stzlaw_p2, stzlaw_p3, stzlaw_p4, stzlaw_p5, stzlaw_p6] _ from (pds_cons (okzlaw_p2 hz_law_place fA cdv A outer s H E hr) (pds_cons (okzlaw_p3 hz_law_guards hz_law_links fA cdv A outer s H E hr) (pds_cons (okzlaw_p4 hz_law_drawn hz_law_spoilt fA cdv A outer s H E hr) (pds_cons (okzlaw_p5 hz_law_drawn fA cdv A outer s H E hr) (pds_one (okzlaw_p6 b_bool b_isinstance b_list hz_law_are hzare_guards hzare_links hzis_place fA cdv A outer s H E hr))))))))
theorem okzlaw_p7  (fA : Addr) (cdv : Value) (A : Around) (outer : List Env) (s : Shared) (H : Hp) (E : XK) (hr : Room 7 (A.deeper (PyProof.Rows.envOfC "law" (defScope szlaw) s.heap.objs.size fA cdv))) : PDs (cxOf CX0 P w K mg base Nzlaw "law" (defScope szlaw) fA cdv A outer s H E).nox EX0 stzlaw_p7 Pzlaw_p7 := @pd_setF _ _ _ _ _ 7 _ _ sczlaw.nd rfl (by first | exact Or.inl rfl | exact Or.inr rfl) (@pdf_lst _ _ _ _ _ (@pda_vc _ _ 5 _ _ (by decide +kernel))) rfl (by first | exact Or.inl rfl | exact Or.inr rfl)
theorem okzlaw_p8  (fA : Addr) (cdv : Value) (A : Around) (outer : List Env) (s : Shared) (H : Hp) (E : XK) (hr : Room 7 (A.deeper (PyProof.Rows.envOfC "law" (defScope szlaw) s.heap.objs.size fA cdv))) : PDs (cxOf CX0 P w K mg base Nzlaw "law" (defScope szlaw) fA cdv A outer s H E).nox EX0 stzlaw_p8 Pzlaw_p8 := @pd_expr _ _ _ _ _ (@pd_append _ _ _ _ _ _ _ _ (pd_var 7) (@pd_vc _ _ 6 _ _ (by decide +kernel)) rfl rfl rfl rfl rfl) rfl
theorem okzlaw_p9 (b_enumerate : mg "enumerate" = none) (hz_law_are : FnAt P w K mg base "_law_are" 4 Fz_law_are) (hz_law_each : FnAt P w K mg base "_law_each" 5 (Fz_law_each 4)) (hz_law_told : FnAt P w K mg base "_law_told" 7 Fz_law_told) (fA : Addr) (cdv : Value) (A : Around) (outer : List Env) (s : Shared) (H : Hp) (E : XK) (hr : Room 7 (A.deeper (PyProof.Rows.envOfC "law" (defScope szlaw) s.heap.objs.size fA cdv))) : PDs (cxOf CX0 P w K mg base Nzlaw "law" (defScope szlaw) fA cdv A outer s H E).nox EX0 stzlaw_p9 Pzlaw_p9 := (pd_for PassesOwn.never rfl (pid_enum rfl b_enumerate (pd_var 7)) (pgd_tup rfl (pgsd_cons 1 sczlaw.nd rfl (by first | exact Or.inl rfl | exact Or.inr rfl) (pgsd_cons 8 sczlaw.nd rfl (by first | exact Or.inl rfl | exact Or.inr rfl) pgsd_nil))) (pds_one (pd_if (pdt_cmp (op_neD hr.units) (pd_F (pdf_lc rfl ⟨Blk.of (N := ["_law_one", "_law_way"]) (caps := [1]) (nT := 1) (by show blkB (defScope szlaw) _ Nzlaw _ _ _ = true; decide +kernel), fun _ _ _ _ => (pgd_name 0 (by show (["_law_one", "_law_way"] : List Str).Nodup; decide +kernel) rfl (by first | exact Or.inl rfl | exact Or.inr rfl)), fun _ _ _ _ => pts_one (pdt_cmp (op_neD hr.units) (pd_fn hz_law_told hr (by decide) rfl (pda_cons (pd_var 1) (pda_cons (pd_var 0) pda_nil))) (pd_fn hz_law_are hr (by decide) rfl (pda_cons (pd_var 1) (pda_cons (pd_var 0) pda_nil)))), fun _ _ _ _ => (pd_var 0)⟩ (pid_seq (pd_F (pdf_op op_catL (pd_F (pdf_lst (pda_cons (pd_var 8) pda_nil))) (pd_fn hz_law_each hr (by decide) rfl (pda_cons (pd_var 8) pda_nil))))))) (pd_F (pdf_lst pda_nil))) (pds_one (pd_ret pd_bl)) pds_nil)))
theorem okzlaw_p10  (fA : Addr) (cdv : Value) (A : Around) (outer : List Env) (s : Shared) (H : Hp) (E : XK) (hr : Room 7 (A.deeper (PyProof.Rows.envOfC "law" (defScope szlaw) s.heap.objs.size fA cdv))) : PDs (cxOf CX0 P w K mg base Nzlaw "law" (defScope szlaw) fA cdv A outer s H E).nox EX0 stzlaw_p10 Pzlaw_p10 := (pd_ret pd_bl)
theorem okzlaw {f : Addr} {fd : FuncData} (F : Fun K "law" "law" szlaw f fd) (b_bool : mg "bool" = none) (b_enumerate : mg "enumerate" = none) (b_isinstance : mg "isinstance" = none) (b_list : mg "list" = none) (b_range : mg "range" = none) (hz_law_are : FnAt P w K mg base "_law_are" 4 Fz_law_are) (hz_law_drawn : FnAt P w K mg base "_law_drawn" 2 Fz_law_drawn) (hz_law_each : FnAt P w K mg base "_law_each" 5 (Fz_law_each 4)) (hz_law_guards : FnAt P w K mg base "_law_guards" 4 Fz_law_guards) (hz_law_links : FnAt P w K mg base "_law_links" 4 Fz_law_links) (hz_law_place : FnAt P w K mg base "_law_place" 3 Fz_law_place) (hz_law_spoilt : FnAt P w K mg base "_law_spoilt" 6 (Fz_law_spoilt 4)) (hz_law_told : FnAt P w K mg base "_law_told" 7 Fz_law_told) (hzare_guards : FnAt P w K mg base "are_guards" 5 Fzare_guards) (hzare_links : FnAt P w K mg base "are_links" 6 Fzare_links) (hzis_place : FnAt P w K mg base "is_place" 3 Fzis_place) : FnOk P w K mg base CX0 8 f fd ["_law_script"] (spD K Fzlaw) :=
 fnD (k:=7) F sczlaw fun cdv A outer s H E hr => (show PDS _ _ [stzlaw_p1, stzlaw_p7, stzlaw_p8, stzlaw_p9, stzlaw_p10] _ from (@pds_cons _ _ _ _ _ _ (okzlaw_p1 b_bool b_isinstance b_list b_range hz_law_are hz_law_drawn hz_law_guards hz_law_links hz_law_place hz_law_spoilt hzare_guards hzare_links hzis_place f cdv A outer s H E hr) (@pds_cons _ _ _ _ _ _ (@okzlaw_p7 _ _ _ _ _ f cdv A outer s H E hr) (@pds_cons _ _ _ _ _ _ (@okzlaw_p8 _ _ _ _ _ f cdv A outer s H E hr) (pds_cons (okzlaw_p9 b_enumerate hz_law_are hz_law_each hz_law_told f cdv A outer s H E hr) (pds_one (okzlaw_p10  f cdv A outer s H E hr)))))))
end
end K01
end
section
set_option maxHeartbeats 2000000
namespace K01
open PySem L2 DL
theorem neD_int (x y : Int) (st : Sto) : neD (.int x) (.int y) st = .ok (.bl (!decide (x = y))) st:=by
 rw [neD_nice rfl rfl]
 congr 3
 exact decide_eq_decide.mpr (by rw [D.int.injEq])
theorem loop_off {chk : Sto → Prop} {t : TgD} {g : DS} (P : Nat → Ev → Sto → Prop) (hc : ∀ j ρ st, P j ρ st → chk st) : ∀ (xs : List D) (n : Nat), (∀ j x, xs[j]? = some x → ∀ ρ st, P (n + j) ρ st → ∃ ρ1 ρ2 st2, t x ρ = some ρ1 ∧ g ρ1 st = .nx ρ2 st2 ∧ P (n + j + 1) ρ2 st2) →
  ∀ ρ st, P n ρ st → ∃ ρ2 st2, loopD chk t g xs ρ st = .nx ρ2 st2 ∧ P (n + xs.length) ρ2 st2
 | [], n, _, ρ, st, h => ⟨ρ, st, loop_nil (hc n ρ st h), h⟩
 | x :: xs, n, hx, ρ, st, h => by
  obtain ⟨ρ1, ρ2, st2, e1, e2, h2⟩:=hx 0 x rfl ρ st h
  obtain ⟨ρ3, st3, e3, h3⟩:=loop_off P hc xs (n + 1) (fun j y hy ρ st hp => by
   have q : n + 1 + j = n + (j + 1):=by omega
   rw [q] at hp
   obtain ⟨r1, r2, s2, k1, k2, k3⟩:=hx (j + 1) y (by simpa using hy) ρ st hp
   exact ⟨r1, r2, s2, k1, k2, by rw [q]; exact k3⟩) ρ2 st2 h2
  refine ⟨ρ3, st3, (loop_nx (hc n ρ st h) e1 e2).trans e3, ?_⟩
  have q : n + (x :: xs).length = n + 1 + xs.length:=by simp; omega
  rw [q]
  exact h3
theorem loop_rng {chk : Sto → Prop} {t : TgD} {g : DS} {f : Nat → D} (P : Nat → Ev → Sto → Prop) (hc : ∀ j ρ st, P j ρ st → chk st) (n : Nat) (step : ∀ j, j < n → ∀ ρ st, P j ρ st → ∃ ρ1 ρ2 st2, t (f j) ρ = some ρ1 ∧ g ρ1 st = .nx ρ2 st2 ∧ P (j + 1) ρ2 st2) (ρ : Ev) (st : Sto) (h : P 0 ρ st) :
  ∃ ρ2 st2, loopD chk t g ((List.range n).map f) ρ st = .nx ρ2 st2 ∧ P n ρ2 st2:=by
 obtain ⟨ρ2, st2, e, h2⟩:=loop_off P hc ((List.range n).map f) 0 (fun j x hx ρ st hp => by
  rw [Nat.zero_add] at hp ⊢
  have hj : j < n:=by
   have:=(List.getElem?_eq_some_iff.mp hx).1
   simpa using this
  rw [List.getElem?_map, List.getElem?_range hj] at hx
  simp only [Option.map_some, Option.some.injEq] at hx
  rw [← hx]
  exact step j hj ρ st hp) ρ st h
 refine ⟨ρ2, st2, e, ?_⟩
 simpa using h2
noncomputable def cellV (ns : List Int) (k : Int) : Int:=if ns = [] then 7 * k else ns.getD (k % ns.length).toNat 0 + 6553 * (k / ns.length)
theorem eq_scr_nil (xs : List D) (st : Sto) : eqD (.scr xs) (.lst []) st = .ok (.bl xs.isEmpty) st:=by
 cases xs <;> rfl
theorem len_scr (xs : List D) (st : Sto) : lenD [.scr xs] st = .ok (.int xs.length) st:=rfl
theorem ix_scr (ns : List Int) (k : Int) (st : Sto) (h0 : 0 ≤ k) (h1 : k < ns.length) : ixD (.scr (ns.map .int)) (.int k) st = .ok (.int (ns.getD k.toNat 0)) st:=by
 have e : L2.atI (ns.map D.int) k = some (.int (ns.getD k.toNat 0)):=by
  unfold L2.atI L2.ixN
  rw [if_pos h0, if_pos (by rw [List.length_map]; exact h1)]
  have hk : k.toNat < ns.length:=by omega
  simp [List.getElem?_map, List.getElem?_eq_getElem hk]
 simp [ixD, itemsOf, seqL, e]
theorem cell_eq (ns : List Int) (hl : ns.length ≤ 63) (k : Int) (st : Sto) : Fz_law_cell [.scr (ns.map .int), .int k] st = .ok (.int (cellV ns k)) st:=by
 unfold Fz_law_cell gz_law_cell cellV
 by_cases h : ns = []
 ·subst h
  have e1:=mul2_int _ _ st (mulOk_l 7 k (by decide) (by decide))
  have e2:=eq_scr_nil [] st
  simp [e1, e2]
 ·have hp : 0 < ns.length:=List.length_pos_iff.mpr h
  have h1 : (0 : Int) < (ns.length : Int):=by omega
  have h2 : 0 ≤ k % (ns.length : Int):=Int.emod_nonneg _ (by omega)
  have h3 : k % (ns.length : Int) < ns.length:=Int.emod_lt_of_pos _ h1
  have e0:=eq_scr_nil (ns.map .int) st
  have e1:=len_scr (ns.map .int) st
  have e2:=mod_int k _ st h1
  have e3:=fdiv_int k _ st h1 (by omega : (ns.length : Int) < 1073741824)
  have e4:=ix_scr ns _ st h2 h3
  have e5:=mul2_int _ _ st (mulOk_l 6553 (k / ns.length) (by decide) (by decide))
  rw [List.length_map] at e1
  simp [e0, e1, e2, e3, e4, e5, h]
noncomputable def mixA (c k : Int) : Int:=(c % 2147483563 * 69069 + 104723 * (k + 1)) % 2147483563
noncomputable def mixB (a : Int) : Int:=(a * a + a / 3) % 2147483399
noncomputable def mixC (b m : Int) : Int:=(b * b + b / 7) % 2147483647 / 11 % m
noncomputable def drawnV (ns : List Int) (k m : Int) : Int:=mixC (mixB (mixA (cellV ns k) k)) m
theorem drawn_eq (ns : List Int) (hl : ns.length ≤ 63) (k m : Int) (hm : 0 < m) (st : Sto) : Fz_law_drawn [.scr (ns.map .int), .int k, .int m] st = .ok (.int (drawnV ns k m)) st:=by
 have a1 : 0 ≤ mixA (cellV ns k) k:=Int.emod_nonneg _ (by decide)
 have a2 : mixA (cellV ns k) k < 2147483563:=Int.emod_lt_of_pos _ (by decide)
 have b1 : 0 ≤ mixB (mixA (cellV ns k) k):=Int.emod_nonneg _ (by decide)
 have b2 : mixB (mixA (cellV ns k) k) < 2147483399:=Int.emod_lt_of_pos _ (by decide)
 have c0 : 0 ≤ cellV ns k % 2147483563:=Int.emod_nonneg _ (by decide)
 have c1 : cellV ns k % 2147483563 < 2147483563:=Int.emod_lt_of_pos _ (by decide)
 have e1 : mul2D (.int (cellV ns k % 2147483563)) (.int 69069) st = .ok (.int (cellV ns k % 2147483563 * 69069)) st:=mul2_int _ _ _ (mulOk_r _ _ (by decide) (by decide))
 have e2 : mul2D (.int 104723) (.int (k + 1)) st = .ok (.int (104723 * (k + 1))) st:=mul2_int _ _ _ (mulOk_l _ _ (by decide) (by decide))
 have e3 : mul2D (.int (mixA (cellV ns k) k)) (.int (mixA (cellV ns k) k)) st = .ok (.int (mixA (cellV ns k) k * mixA (cellV ns k) k)) st:=mul2_int _ _ _ (mulOk_l _ _ (by omega) (by omega))
 have e4 : mul2D (.int (mixB (mixA (cellV ns k) k))) (.int (mixB (mixA (cellV ns k) k))) st = .ok (.int (mixB (mixA (cellV ns k) k) * mixB (mixA (cellV ns k) k))) st:=mul2_int _ _ _ (mulOk_l _ _ (by omega) (by omega))
 have hA : (cellV ns k % 2147483563 * 69069 + 104723 * (k + 1)) % 2147483563 = mixA (cellV ns k) k:=rfl
 have hB : (mixA (cellV ns k) k * mixA (cellV ns k) k + mixA (cellV ns k) k / 3) % 2147483399 = mixB (mixA (cellV ns k) k):=rfl
 have e0:=cell_eq ns hl k st
 have m1:=fun i => mod_int i 2147483563 st (by decide)
 have m2:=fun i => mod_int i 2147483399 st (by decide)
 have m3:=fun i => mod_int i 2147483647 st (by decide)
 have m4:=fun i => mod_int i m st hm
 have d1:=fun i => fdiv_int i 3 st (by decide) (by decide)
 have d2:=fun i => fdiv_int i 7 st (by decide) (by decide)
 have d3:=fun i => fdiv_int i 11 st (by decide) (by decide)
 unfold Fz_law_drawn gz_law_drawn
 simp [e0, e1, e2, e3, e4, m1, m2, m3, m4, d1, d2, d3, hA, hB]
 rfl
theorem drawn_lo (ns : List Int) (k m : Int) (hm : 0 < m) : 0 ≤ drawnV ns k m:=Int.emod_nonneg _ (by omega)
theorem drawn_hi (ns : List Int) (k m : Int) (hm : 0 < m) : drawnV ns k m < m:=Int.emod_lt_of_pos _ hm
noncomputable def letter (i : Nat) : Str:=⟨#[97 + i]⟩
theorem ix_abc (i : Int) (st : Sto) (h0 : 0 ≤ i) (h1 : i < 3) : ixD (.str "abc") (.int i) st = .ok (.str (letter i.toNat)) st := by
 have : i = 0 ∨ i = 1 ∨ i = 2:=by omega
 rcases this with rfl | rfl | rfl <;> rfl
noncomputable def placeV (ns : List Int) (at_ : Int) : List Str:=(List.range (drawnV ns at_ 4).toNat).map fun (i : Nat) => letter (drawnV ns (at_ + 1 + (i : Int)) 3).toNat
theorem placeV_len (ns : List Int) (at_ : Int) : (placeV ns at_).length ≤ 3:=by
 have:=drawn_hi ns at_ 4 (by decide)
 simp only [placeV, List.length_map, List.length_range]
 omega
theorem placeV_mem (ns : List Int) (at_ : Int) : ∀ x ∈ placeV ns at_, x = letter 0 ∨ x = letter 1 ∨ x = letter 2:=by
 intro x hx
 obtain ⟨i, _, rfl⟩:=List.mem_map.mp hx
 have h1:=drawn_lo ns (at_ + 1 + (i : Int)) 3 (by decide)
 have h2:=drawn_hi ns (at_ + 1 + (i : Int)) 3 (by decide)
 have : (drawnV ns (at_ + 1 + (i : Int)) 3).toNat = 0 ∨ (drawnV ns (at_ + 1 + (i : Int)) 3).toNat = 1 ∨ (drawnV ns (at_ + 1 + (i : Int)) 3).toNat = 2:=by omega
 rcases this with h | h | h <;> rw [h] <;> simp
theorem place_eq (ns : List Int) (hl : ns.length ≤ 63) (at_ : Int) (st : Sto) : Fz_law_place [.scr (ns.map .int), .int at_] st = .ok (pl (placeV ns at_)) st:=by
 have e1:=drawn_eq ns hl at_ 4 (by decide) st
 have h1:=drawn_lo ns at_ 4 (by decide)
 have h2:=drawn_hi ns at_ 4 (by decide)
 have e2 : compD (fun _ => True) (tgName 0) dTrue Ez_law_place_1
   ((List.range (drawnV ns at_ 4).toNat).map (fun (i : Nat) => D.int (0 + i))) [none, some (.scr (ns.map .int)), some (.int at_)] st [] = .ok ((placeV ns at_).map .str) st:=by
  rw [compD_map (fun ρ => ∃ a, ρ = [a, some (.scr (ns.map .int)), some (.int at_)]) (fun d => match d with | .int i => .str (letter (drawnV ns (at_ + 1 + i) 3).toNat) | _ => .non) trivial _ _ _ ⟨_, rfl⟩ (by simp [small]; omega)]
  ·simp [placeV, List.map_map, Function.comp_def]
  ·rintro x hx ρ ⟨a, rfl⟩
   obtain ⟨i, _, rfl⟩:=List.mem_map.mp hx
   refine ⟨_, rfl, ⟨_, rfl⟩, ?_⟩
   have e3:=drawn_eq ns hl (at_ + 1 + (0 + (i : Int))) 3 (by decide) st
   have e4:=ix_abc (drawnV ns (at_ + 1 + (0 + (i : Int))) 3) st (drawn_lo _ _ _ (by decide)) (drawn_hi _ _ _ (by decide))
   simp only [Int.zero_add] at e3 e4
   unfold Ez_law_place_1
   simp [e3, e4]
 have h3 : rngOk (drawnV ns at_ 4) = true:=rngOk_of (by omega) (by omega)
 unfold Fz_law_place gz_law_place
 simp only [Int.zero_add] at e2
 simp [e1, e2, h3, capEv, tuple_lst, dRng1]
 rfl
noncomputable def up : Str := ".."
noncomputable def stay : Str := "."
theorem seq_nx {g g' : DS} {ρ ρ' : Ev} {st st' : Sto} (h : g ρ st = .nx ρ' st') : sSeq g g' ρ st = g' ρ' st':=by simp [h]
theorem compD_fm {α : Type} (g : α → D) (p : α → Bool) (h : α → D) {chk : Sto → Prop} {t : TgD} {cond : DT} {fe : DE} {st : Sto} (IE : Ev → Prop) (hc : chk st) : ∀ (xs : List α) (ρ : Ev) (acc : List D), IE ρ → acc.length + xs.length ≤ small →
  (∀ x ∈ xs, ∀ ρ, IE ρ → ∃ ρ1, t (g x) ρ = some ρ1 ∧ IE ρ1 ∧ cond ρ1 st = .ok (p x) st ∧ (p x = true → fe ρ1 st = .ok (h x) st)) → compD chk t cond fe (xs.map g) ρ st acc = .ok (acc ++ (xs.filter p).map h) st
 | [], ρ, acc, _, _, _ => by simp [compD, hc]
 | x :: xs, ρ, acc, hI, hl, hx => by
  obtain ⟨ρ1, e1, h1, e2, e3⟩:=hx x List.mem_cons_self ρ hI
  rw [List.map_cons]
  unfold compD
  rw [if_pos ⟨hc, by simp at hl; omega⟩, e1]
  dsimp only
  rw [e2]
  cases hp : p x with
  | true =>
   dsimp only
   rw [e3 hp]
   dsimp only
   rw [compD_fm g p h IE hc xs ρ1 (acc ++ [h x]) h1 (by simp at hl ⊢; omega) fun y hy => hx y (List.mem_cons_of_mem _ hy)]
   simp [hp]
  | false =>
   dsimp only
   rw [compD_fm g p h IE hc xs ρ1 acc h1 (by simp at hl ⊢; omega) fun y hy => hx y (List.mem_cons_of_mem _ hy)]
   simp [hp]
theorem compD_mm {α : Type} (g : α → D) (h : α → D) {chk : Sto → Prop} {t : TgD} {fe : DE} {st : Sto} (IE : Ev → Prop) (hc : chk st) (xs : List α) (ρ : Ev) (acc : List D) (hI : IE ρ) (hl : acc.length + xs.length ≤ small)
  (hx : ∀ x ∈ xs, ∀ ρ, IE ρ → ∃ ρ1, t (g x) ρ = some ρ1 ∧ IE ρ1 ∧ fe ρ1 st = .ok (h x) st) : compD chk t dTrue fe (xs.map g) ρ st acc = .ok (acc ++ xs.map h) st:=by
 rw [compD_fm g (fun _ => true) h IE hc xs ρ acc hI hl fun x hm ρ hi => ?_]
 ·rw [List.filter_eq_self.mpr fun _ _ => rfl]
 ·obtain ⟨ρ1, e1, e2, e3⟩:=hx x hm ρ hi
  exact ⟨ρ1, e1, e2, rfl, fun _ => e3⟩
theorem sif_no {t : DT} {g : DS} {ρ : Ev} {st st' : Sto} (h : t ρ st = .ok false st') : sIf t g sNext ρ st = .nx ρ st':=by simp [h]
theorem sif_t {t : DT} {g g' : DS} {ρ : Ev} {st st' : Sto} (h : t ρ st = .ok true st') : sIf t g g' ρ st = g ρ st':=by simp [h]
theorem run_rt {N n : Nat} {g : DS} {ds : List D} {st st' : Sto} {d : D} (hl : ds.length = n) (h : g (ds.map some ++ List.replicate (N - n) none) st = .rt d st') : runF N n g ds st = .ok d st':=by
 rw [z_runF, if_pos hl, h]
noncomputable abbrev sl : Str := "/"
noncomputable def cq (x : Str) : List Nat:=x.cps.toList
noncomputable def AW (p : List Str) : Prop:=(∀ w ∈ p, w = letter 0 ∨ w = letter 1 ∨ w = letter 2) ∧ p.length ≤ 6
theorem AW.one {p : List Str} (h : AW p) : ∀ w ∈ p, w.length = 1:=fun w hw => by rcases h.1 w hw with rfl | rfl | rfl <;> rfl
noncomputable def isL (c : Nat) : Bool:=decide (97 ≤ c ∧ c ≤ 122)
noncomputable def isW (n : Str) : Bool:=decide (1 ≤ n.length ∧ n.length ≤ 4) && (cq n).all isL
noncomputable def Asc (x : Str) : Prop:=(∀ c ∈ cq x, c < 128) ∧ x.length ≤ 200
theorem cq_len (x : Str) : (cq x).length = x.length:=by
 unfold cq
 rw [Array.length_toList]
 rfl
theorem sgn_ok {c : Nat} (st : Sto) : Fzis_letter [.str ⟨#[c]⟩] st = .ok (.bl (isL c)) st:=by
 have ea : ("a" : Str).cps.toList = [97] := by decide +kernel
 have ez : ("z" : Str).cps.toList = [122] := by decide +kernel
 have a1 : leX (.str "a") (.str ⟨#[c]⟩) st = .ok (.bl (decide (97 ≤ c))) st := by
  simp only [leX, ea]
  congr 2
  rcases Nat.lt_or_ge c 97 with h | h
  ·simp [List.cons_lt_cons_iff, h]
  ·simp [List.cons_lt_cons_iff, h, Nat.not_lt.mpr h]
 have a2 : leX (.str ⟨#[c]⟩) (.str "z") st = .ok (.bl (decide (c ≤ 122))) st := by
  simp only [leX, ez]
  congr 2
  rcases Nat.lt_or_ge 122 c with h | h
  ·simp [List.cons_lt_cons_iff, h]
  ·simp [List.cons_lt_cons_iff, h, Nat.not_lt.mpr h]
 unfold Fzis_letter gzis_letter
 by_cases h : 97 ≤ c
 ·simp [a1, a2, h, isL]
 ·simp [a1, a2, h, isL]
theorem bls_map : ∀ bs : List Bool, blsOf (bs.map D.bl) = some bs
 | [] => rfl
 | b :: bs => by
  rw [List.map_cons, blsOf, bls_map bs]
  rfl
theorem all_bls (bs : List Bool) (st : Sto) : allD [.lst (bs.map D.bl)] st = .ok (.bl (bs.all id)) st:=by
 simp only [allD, bls_map]
theorem isword_is {n : Str} (h : Asc n) (st : Sto) : Fzis_word [.str n] st = .ok (.bl (isW n)) st:=by
 have hl:=h.2
 have e1 : lenD [.str n] st = .ok (.int n.length) st:=by
  show (if n.length ≤ small then Out.ok (D.int n.length) st else .bad) = _
  rw [if_pos (small_ge (by omega))]
 have h2 : n.cps.all (· < 128) = true:=by
  rw [Array.all_eq_true']
  intro c hc
  exact decide_eq_true (h.1 c (Array.mem_toList_iff.mpr hc))
 obtain ⟨Y, hY⟩ : ∃ Y, Y = (cq n).map fun c => D.str ⟨#[c]⟩:=⟨_, rfl⟩
 have e4 : compD (fun _ => True) (tgName 0) dTrue Ezis_word_1 Y [none] st [] = .ok (((cq n).map isL).map D.bl) st:=by
  have:=compD_mm (chk:=fun _ => True) (t:=tgName 0) (fe:=Ezis_word_1) (fun c => D.str ⟨#[c]⟩) (fun c => D.bl (isL c)) (fun ρ => ∃ a, ρ = [a]) (st:=st) trivial (cq n) [none] [] ⟨_, rfl⟩ (by simp only [List.length_nil, Nat.zero_add]; rw [cq_len]; exact small_ge (by omega)) ?_
  ·rw [← hY] at this
   rw [this, List.map_map]
   rfl
  ·rintro c hc ρ ⟨a, rfl⟩
   refine ⟨_, rfl, ⟨_, rfl⟩, ?_⟩
   unfold Ezis_word_1
   simp [sgn_ok st]
 have e5:=all_bls ((cq n).map isL) st
 have ha : ((cq n).map isL).all id = (cq n).all isL:=by rw [List.all_map]; rfl
 rw [ha] at e5
 have e6 : dSigns (dVar 0) [some (.str n)] st = .ok (Y, fun _ => True) st:=by
  have : (signs n).map D.str = Y:=by
   rw [hY]
   unfold signs
   rw [List.map_map]
   rfl
  rw [← this]
  show (if n.cps.all (· < 128) = true then Out.ok ((signs n).map D.str, fun _ => True) st else .bad) = _
  rw [if_pos h2]
 generalize ((cq n).map isL).map D.bl = R at e4 e5
 unfold Fzis_word gzis_word
 by_cases k1 : (1 : Int) ≤ (n.length : Int)
 ·by_cases k2 : (n.length : Int) ≤ 4
  ·have hw : isW n = (cq n).all isL:=by
    unfold isW
    rw [decide_eq_true (by omega)]
    exact Bool.true_and _
   rw [hw]
   simp [tyName, subTy, e1, leX, e6, capEv, e4, e5, k1, k2]
  ·have hw : isW n = false:=by
    unfold isW
    rw [decide_eq_false (by omega)]
    exact Bool.false_and _
   rw [hw]
   simp [tyName, subTy, e1, leX, k1, k2]
 ·have hw : isW n = false:=by
   unfold isW
   rw [decide_eq_false (by omega)]
   exact Bool.false_and _
  rw [hw]
  simp [tyName, subTy, e1, leX, k1]
inductive Ok : D → Prop
 | non : Ok .non
 | bl (b : Bool) : Ok (.bl b)
 | int (i : Int) : Ok (.int i)
 | str (x : Str) : Asc x → Ok (.str x)
 | tup (ds : List D) : ds.length ≤ 100 → (∀ d ∈ ds, Ok d) → Ok (.tup ds)
 | lst (ds : List D) : ds.length ≤ 100 → (∀ d ∈ ds, Ok d) → Ok (.lst ds)
noncomputable def strIn : D → List Str → Bool
 | .str x, ws => decide (x ∈ ws)
 | _, _ => false
theorem eqN_str {d : D} (h : Ok d) (w : Str) (st : Sto) : eqN st depth (.str w) d = some (strIn d [w]) ∧ eqN st depth d (.str w) = some (strIn d [w]):=by
 cases h with
 | str x hx =>
  have h1 : (w == x) = decide (x ∈ [w]):=by
   rw [Bool.eq_iff_iff]
   simp
   exact eq_comm
  have h2 : (x == w) = decide (x ∈ [w]):=by
   rw [Bool.eq_iff_iff]
   simp
  constructor
  ·show some (w == x) = some (decide (x ∈ [w]))
   rw [h1]
  ·show some (x == w) = some (decide (x ∈ [w]))
   rw [h2]
 | _ => exact ⟨rfl, rfl⟩
theorem strIn_cons (d : D) (w : Str) (ws : List Str) : strIn d (w :: ws) = (strIn d [w] || strIn d ws):=by
 cases d with
 | str x => simp [strIn]
 | _ => rfl
theorem strIn_nil (d : D) : strIn d [] = false:=by
 cases d with
 | str x => simp [strIn]
 | _ => rfl
theorem inN_strs {d : D} (h : Ok d) (st : Sto) : ∀ ws : List Str, inN st depth d (ws.map D.str) = some (strIn d ws)
 | [] => by rw [strIn_nil]; rfl
 | w :: ws => by
  rw [List.map_cons]
  unfold inN
  rw [inN_strs h st ws, (eqN_str h w st).1, strIn_cons d w ws]
theorem eqD_w {d : D} (h : Ok d) (w : Str) (st : Sto) : eqD d (.str w) st = .ok (.bl (strIn d [w])) st:=by
 simp only [eqD, (eqN_str h w st).2]
theorem inD_ws {d : D} (h : Ok d) (ws : List Str) (st : Sto) : inD d (.tup (ws.map D.str)) st = .ok (.bl (strIn d ws)) st:=by
 unfold inD
 show (match inN st depth d (ws.map D.str) with | some k => Out.ok (D.bl k) st | none => .bad) = _
 rw [inN_strs h]
theorem notInD_ws {d : D} (h : Ok d) (ws : List Str) (st : Sto) : notInD d (.tup (ws.map D.str)) st = .ok (.bl (!strIn d ws)) st:=by
 unfold notInD
 show (match inN st depth d (ws.map D.str) with | some k => Out.ok (D.bl (!k)) st | none => .bad) = _
 rw [inN_strs h]
theorem len_tup (ds : List D) (st : Sto) : lenD [.tup ds] st = .ok (.int ds.length) st:=rfl
theorem comp_all (f : D → Bool) {fe : DE} {st : Sto} {ds : List D} (hl : ds.length ≤ 100) (h : ∀ d ∈ ds, fe [some d] st = .ok (.bl (f d)) st) : compD (fun st => itemsOf st (.tup ds) = some ds) (tgName 0) dTrue fe ds [none] st [] = .ok ((ds.map f).map D.bl) st:=by
 have e:=compD_mm (chk:=fun st => itemsOf st (.tup ds) = some ds) (t:=tgName 0) (fe:=fe) (st:=st) (fun d : D => d) (fun d => D.bl (f d)) (fun ρ => ∃ a, ρ = [a]) rfl ds [none] [] ⟨_, rfl⟩ (by simp only [List.length_nil, Nat.zero_add]; exact small_ge (by omega)) (fun d hd ρ ⟨a, hρ⟩ => by
  subst hρ
  exact ⟨_, rfl, ⟨_, rfl⟩, h d hd⟩)
 rw [List.map_id'] at e
 rw [e, List.map_map]
 rfl
theorem comp_not (f : D → Bool) {cond : DT} {fe : DE} {st : Sto} {ds : List D} (hfe : ∀ d, fe [some d] st = .ok d st) (hl : ds.length ≤ 100) (h : ∀ d ∈ ds, cond [some d] st = .ok (!f d) st) : compD (fun st => itemsOf st (.tup ds) = some ds) (tgName 0) cond fe ds [none] st [] = .ok (ds.filter fun d => !f d) st:=by
 have e:=compD_fm (chk:=fun st => itemsOf st (.tup ds) = some ds) (t:=tgName 0) (cond:=cond) (fe:=fe) (st:=st) (fun d : D => d) (fun d => !f d) (fun d => d) (fun ρ => ∃ a, ρ = [a]) rfl ds [none] [] ⟨_, rfl⟩ (by simp only [List.length_nil, Nat.zero_add]; exact small_ge (by omega)) (fun d hd ρ ⟨a, hρ⟩ => by
  subst hρ
  exact ⟨_, rfl, ⟨_, rfl⟩, h d hd, fun _ => hfe d⟩)
 rw [List.map_id', List.map_id'] at e
 exact e
theorem nil_all (f : D → Bool) (ds : List D) (st : Sto) : eqD (.lst (ds.filter fun d => !f d)) (.lst []) st = .ok (.bl (ds.all f)) st:=by
 have h : (ds.filter fun d => !f d).isEmpty = ds.all f:=by
  rw [Bool.eq_iff_iff, List.isEmpty_iff, List.filter_eq_nil_iff, List.all_eq_true]
  simp
 rw [← h]
 cases ds.filter fun d => !f d <;> rfl
noncomputable def wD : D → Bool
 | .str x => isW x
 | _ => false
noncomputable def pD : D → Bool
 | .tup ds => decide (ds.length ≤ 6) && ds.all wD
 | _ => false
noncomputable def gP : D → Bool
 | .tup [a, b, c] => pD a && (pD b && (strIn c ["let", "stop", "ask"] || pD c))
 | _ => false
noncomputable def gsP : D → Bool
 | .tup ds => decide (ds.length ≤ 8) && ds.all gP
 | _ => false
noncomputable def wayD : D → Bool
 | .int i => decide (-9 ≤ i ∧ i ≤ 9)
 | _ => false
noncomputable def stpD (d : D) : Bool := wD d || strIn d [".", ".."]
noncomputable def stsD : D → Bool
 | .tup ds => decide (ds.length ≤ 4) && ds.all stpD
 | _ => false
noncomputable def lP : D → Bool
 | .tup [a, b, c, e] => pD a && (wD b && (if strIn c ["go"] = true then wayD e else strIn c ["open", "replace"] && stsD e))
 | _ => false
noncomputable def lsP : D → Bool
 | .tup ds => decide (ds.length ≤ 12) && ds.all lP
 | _ => false
theorem word_D {d : D} (h : Ok d) (st : Sto) : Fzis_word [d] st = .ok (.bl (wD d)) st:=by
 cases h with
 | str x hx => exact isword_is hx st
 | _ => unfold Fzis_word gzis_word; simp [tyName, subTy, wD]
theorem place_D {d : D} (h : Ok d) (st : Sto) : Fzis_place [d] st = .ok (.bl (pD d)) st:=by
 cases h with
 | tup ds hl hd =>
  have e1:=comp_all wD (fe:=Ezis_place_1) (st:=st) hl fun x hx => by
   unfold Ezis_place_1
   simp [word_D (hd x hx) st]
  have e2:=all_bls (ds.map wD) st
  rw [List.all_map, show (id ∘ wD) = wD from rfl] at e2
  have e3:=len_tup ds st
  have e4 : Fzis_too_long [.tup ds] st = .ok (.bl (decide (ds.length > 6))) st:=by
   unfold Fzis_too_long gzis_too_long
   simp [e3, gtD, cmpD]
   omega
  have hit : itemsOf st (.tup ds) = some ds:=rfl
  generalize (ds.map wD).map D.bl = R at e1 e2
  unfold Fzis_place gzis_place
  by_cases k : ds.length ≤ 6
  ·have hp : pD (.tup ds) = (decide (ds.length ≤ 6) && ds.all wD):=rfl
   rw [hp, decide_eq_true k]
   rw [decide_eq_false (by omega)] at e4
   simp [tyName, subTy, e4, hit, capEv, e1, e2]
  ·have hp : pD (.tup ds) = (decide (ds.length ≤ 6) && ds.all wD):=rfl
   rw [hp, decide_eq_false k]
   rw [decide_eq_true (by omega)] at e4
   simp [tyName, subTy, e4]
 | _ => unfold Fzis_place gzis_place; simp [tyName, subTy, pD]
theorem three_of_len {ds : List D} (h : ds.length = 3) : ∃ a b c, ds = [a, b, c]:=by
 match ds, h with
 | [a, b, c], _ => exact ⟨a, b, c, rfl⟩
theorem four_of_len {ds : List D} (h : ds.length = 4) : ∃ a b c e, ds = [a, b, c, e]:=by
 match ds, h with
 | [a, b, c, e], _ => exact ⟨a, b, c, e, rfl⟩
theorem gP_no {ds : List D} (h : ds.length ≠ 3) : gP (.tup ds) = false:=by
 match ds, h with
 | [], _ => rfl
 | [_], _ => rfl
 | [_, _], _ => rfl
 | [_, _, _], h => exact absurd rfl h
 | _ :: _ :: _ :: _ :: _, _ => rfl
theorem lP_no {ds : List D} (h : ds.length ≠ 4) : lP (.tup ds) = false:=by
 match ds, h with
 | [], _ => rfl
 | [_], _ => rfl
 | [_, _], _ => rfl
 | [_, _, _], _ => rfl
 | [_, _, _, _], h => exact absurd rfl h
 | _ :: _ :: _ :: _ :: _ :: _, _ => rfl
theorem guard_D {d : D} (h : Ok d) (st : Sto) : Fzis_guard [d] st = .ok (.bl (gP d)) st:=by
 cases h with
 | tup ds hl hd =>
  have e3:=len_tup ds st
  by_cases k : ds.length = 3
  ·obtain ⟨a, b, c, rfl⟩:=three_of_len k
   have ha:=place_D (hd a (by simp)) st
   have hb:=place_D (hd b (by simp)) st
   have hc:=place_D (hd c (by simp)) st
   have hi := inN_strs (hd c (by simp)) st ["let", "stop", "ask"]
   have i0 : ixD (.tup [a, b, c]) (.int 0) st = .ok a st:=rfl
   have i1 : ixD (.tup [a, b, c]) (.int 1) st = .ok b st:=rfl
   have i2 : ixD (.tup [a, b, c]) (.int 2) st = .ok c st:=rfl
   have n3 : neD (.int 3) (.int 3) st = .ok (.bl false) st:=rfl
   have e3' : lenD [.tup [a, b, c]] st = .ok (.int 3) st:=rfl
   have hg : gP (.tup [a, b, c]) = (pD a && (pD b && (strIn c ["let", "stop", "ask"] || pD c))) := rfl
   rw [hg]
   unfold Fzis_guard gzis_guard
   generalize pD a = xa at *
   generalize pD b = xb at *
   generalize pD c = xc at *
   generalize strIn c ["let", "stop", "ask"] = xs at *
   cases xa <;> cases xb <;> cases xs <;> simp [-List.map_cons, tyName, subTy, e3', n3, i0, i1, i2, ha, hb, hc, hi]
  ·rw [gP_no k]
   have n3:=neD_int (ds.length : Int) 3 st
   rw [decide_eq_false (by omega)] at n3
   unfold Fzis_guard gzis_guard
   simp [tyName, subTy, e3, n3]
 | _ => unfold Fzis_guard gzis_guard; simp [tyName, subTy, gP]
theorem guards_D {d : D} (h : Ok d) (st : Sto) : Fzare_guards [d] st = .ok (.bl (gsP d)) st:=by
 cases h with
 | tup ds hl hd =>
  have e1:=comp_all gP (fe:=Ezare_guards_1) (st:=st) hl fun x hx => by
   unfold Ezare_guards_1
   simp [guard_D (hd x hx) st]
  have e2:=all_bls (ds.map gP) st
  rw [List.all_map, show (id ∘ gP) = gP from rfl] at e2
  have e3:=len_tup ds st
  have e4 : leX (.int ds.length) (.int 8) st = .ok (.bl (decide ((ds.length : Int) ≤ 8))) st:=rfl
  have hit : itemsOf st (.tup ds) = some ds:=rfl
  have hp : gsP (.tup ds) = (decide (ds.length ≤ 8) && ds.all gP):=rfl
  rw [hp]
  generalize (ds.map gP).map D.bl = R at e1 e2
  unfold Fzare_guards gzare_guards
  by_cases k : ds.length ≤ 8
  ·rw [decide_eq_true (by omega)] at e4
   rw [decide_eq_true k]
   simp [tyName, subTy, e3, e4, hit, capEv, e1, e2]
  ·rw [decide_eq_false (by omega)] at e4
   rw [decide_eq_false k]
   simp [tyName, subTy, e3, e4]
 | _ => unfold Fzare_guards gzare_guards; simp [tyName, subTy, gsP]
theorem way_D {d : D} (h : Ok d) (st : Sto) : Fzis_way [d] st = .ok (.bl (wayD d)) st:=by
 cases h with
 | int i =>
  have hw : wayD (.int i) = decide (-9 ≤ i ∧ i ≤ 9):=rfl
  rw [hw]
  have e1 : leX (.int (-9)) (.int i) st = .ok (.bl (decide (-9 ≤ i))) st:=rfl
  have e2 : leX (.int i) (.int 9) st = .ok (.bl (decide (i ≤ 9))) st:=rfl
  unfold Fzis_way gzis_way
  by_cases k1 : -9 ≤ i
  ·rw [decide_eq_true k1] at e1
   by_cases k2 : i ≤ 9
   ·rw [decide_eq_true k2] at e2
    rw [decide_eq_true ⟨k1, k2⟩]
    simp [tyName, subTy, e1, e2]
   ·rw [decide_eq_false k2] at e2
    rw [decide_eq_false fun z => k2 z.2]
    simp [tyName, subTy, e1, e2]
  ·rw [decide_eq_false k1] at e1
   rw [decide_eq_false fun z => k1 z.1]
   simp [tyName, subTy, e1]
 | _ => unfold Fzis_way gzis_way; simp [tyName, subTy, wayD]
theorem step_D {d : D} (h : Ok d) (st : Sto) : Fzis_step [d] st = .ok (.bl (stpD d)) st:=by
 have h1:=word_D h st
 have h2 := inN_strs h st [".", ".."]
 unfold Fzis_step gzis_step stpD
 generalize wD d = xa at *
 generalize strIn d [".", ".."] = xb at *
 cases xa <;> simp [-List.map_cons, h1, h2]
theorem steps_D {d : D} (h : Ok d) (st : Sto) : Fzare_steps [d] st = .ok (.bl (stsD d)) st:=by
 cases h with
 | tup ds hl hd =>
  have e1:=comp_all stpD (fe:=Ezare_steps_1) (st:=st) hl fun x hx => by
   unfold Ezare_steps_1
   simp [step_D (hd x hx) st]
  have e2:=all_bls (ds.map stpD) st
  rw [List.all_map, show (id ∘ stpD) = stpD from rfl] at e2
  have e3:=len_tup ds st
  have e4 : leX (.int ds.length) (.int 4) st = .ok (.bl (decide ((ds.length : Int) ≤ 4))) st:=rfl
  have hit : itemsOf st (.tup ds) = some ds:=rfl
  have hp : stsD (.tup ds) = (decide (ds.length ≤ 4) && ds.all stpD):=rfl
  rw [hp]
  generalize (ds.map stpD).map D.bl = R at e1 e2
  unfold Fzare_steps gzare_steps
  by_cases k : ds.length ≤ 4
  ·rw [decide_eq_true (by omega)] at e4
   rw [decide_eq_true k]
   simp [tyName, subTy, e3, e4, hit, capEv, e1, e2]
  ·rw [decide_eq_false (by omega)] at e4
   rw [decide_eq_false k]
   simp [tyName, subTy, e3, e4]
 | _ => unfold Fzare_steps gzare_steps; simp [tyName, subTy, stsD]
theorem link_D {d : D} (h : Ok d) (st : Sto) : Fzis_link [d] st = .ok (.bl (lP d)) st:=by
 cases h with
 | tup ds hl hd =>
  have e3:=len_tup ds st
  by_cases k : ds.length = 4
  ·obtain ⟨a, b, c, e, rfl⟩:=four_of_len k
   have ha:=place_D (hd a (by simp)) st
   have hb:=word_D (hd b (by simp)) st
   have he:=way_D (hd e (by simp)) st
   have hs:=steps_D (hd e (by simp)) st
   have hq := eqD_w (hd c (by simp)) "go" st
   have hi := inN_strs (hd c (by simp)) st ["open", "replace"]
   have i0 : ixD (.tup [a, b, c, e]) (.int 0) st = .ok a st:=rfl
   have i1 : ixD (.tup [a, b, c, e]) (.int 1) st = .ok b st:=rfl
   have i2 : ixD (.tup [a, b, c, e]) (.int 2) st = .ok c st:=rfl
   have i3 : ixD (.tup [a, b, c, e]) (.int 3) st = .ok e st:=rfl
   have n4 : neD (.int 4) (.int 4) st = .ok (.bl false) st:=rfl
   have e3' : lenD [.tup [a, b, c, e]] st = .ok (.int 4) st:=rfl
   have hg : lP (.tup [a, b, c, e]) = (pD a && (wD b && (if strIn c ["go"] = true then wayD e else strIn c ["open", "replace"] && stsD e))) := rfl
   rw [hg]
   unfold Fzis_link gzis_link
   generalize pD a = xa at *
   generalize wD b = xb at *
   generalize strIn c ["go"] = xc at *
   generalize strIn c ["open", "replace"] = xs at *
   generalize wayD e = xw at *
   generalize stsD e = xt at *
   cases xa <;> cases xb <;> cases xc <;> cases xs <;> simp [-List.map_cons, tyName, subTy, e3', n4, i0, i1, i2, i3, ha, hb, hq, he, hs, hi]
  ·rw [lP_no k]
   have n4:=neD_int (ds.length : Int) 4 st
   rw [decide_eq_false (by omega)] at n4
   unfold Fzis_link gzis_link
   simp [tyName, subTy, e3, n4]
 | _ => unfold Fzis_link gzis_link; simp [tyName, subTy, lP]
theorem links_D {d : D} (h : Ok d) (st : Sto) : Fzare_links [d] st = .ok (.bl (lsP d)) st:=by
 cases h with
 | tup ds hl hd =>
  have e1:=comp_all lP (fe:=Ezare_links_1) (st:=st) hl fun x hx => by
   unfold Ezare_links_1
   simp [link_D (hd x hx) st]
  have e2:=all_bls (ds.map lP) st
  rw [List.all_map, show (id ∘ lP) = lP from rfl] at e2
  have e3:=len_tup ds st
  have e4 : leX (.int ds.length) (.int 12) st = .ok (.bl (decide ((ds.length : Int) ≤ 12))) st:=rfl
  have hit : itemsOf st (.tup ds) = some ds:=rfl
  have hp : lsP (.tup ds) = (decide (ds.length ≤ 12) && ds.all lP):=rfl
  rw [hp]
  generalize (ds.map lP).map D.bl = R at e1 e2
  unfold Fzare_links gzare_links
  by_cases k : ds.length ≤ 12
  ·rw [decide_eq_true (by omega)] at e4
   rw [decide_eq_true k]
   simp [tyName, subTy, e3, e4, hit, capEv, e1, e2]
  ·rw [decide_eq_false (by omega)] at e4
   rw [decide_eq_false k]
   simp [tyName, subTy, e3, e4]
 | _ => unfold Fzare_links gzare_links; simp [tyName, subTy, lsP]
noncomputable def abcS : Str := "abcdefghijklmnopqrstuvwxyz"
theorem abc_all : (List.range 128).all (fun c => PySem.Txt.contains abcS ⟨#[c]⟩ == isL c) = true:=by decide +kernel
theorem abc_in {c : Nat} (h : c < 128) : PySem.Txt.contains abcS ⟨#[c]⟩ = isL c:=by
 have:=List.all_eq_true.mp abc_all c (List.mem_range.mpr h)
 exact eq_of_beq this
theorem lword_D {d : D} (h : Ok d) (st : Sto) : Fz_law_is_word [d] st = .ok (.bl (wD d)) st:=by
 cases h with
 | str n hn =>
  have hl:=hn.2
  have e1 : lenD [.str n] st = .ok (.int n.length) st:=by
   show (if n.length ≤ small then Out.ok (D.int n.length) st else .bad) = _
   rw [if_pos (small_ge (by omega))]
  have h2 : n.cps.all (· < 128) = true:=by
   rw [Array.all_eq_true']
   intro c hc
   exact decide_eq_true (hn.1 c (Array.mem_toList_iff.mpr hc))
  have e4 : compD (fun _ => True) (tgName 0) Cz_law_is_word_1 Ez_law_is_word_1 ((cq n).map fun c => D.str ⟨#[c]⟩) [none] st [] = .ok (((cq n).filter fun c => !isL c).map fun c => D.str ⟨#[c]⟩) st:=by
   rw [compD_fm (chk:=fun _ => True) (fun c => D.str ⟨#[c]⟩) (fun c => !isL c) (fun c => D.str ⟨#[c]⟩) (fun ρ => ∃ a, ρ = [a]) trivial _ _ _ ⟨_, rfl⟩ (by simp only [List.length_nil, Nat.zero_add]; rw [cq_len]; exact small_ge (by omega))]
   ·rfl
   ·rintro c hc ρ ⟨a, rfl⟩
    refine ⟨_, rfl, ⟨_, rfl⟩, ?_, fun _ => rfl⟩
    have g : notInS (.str ⟨#[c]⟩) (.str "abcdefghijklmnopqrstuvwxyz") st = .ok (.bl (!isL c)) st := by
     show Out.ok (D.bl (!PySem.Txt.contains abcS ⟨#[c]⟩)) st = _
     rw [abc_in (hn.1 c hc)]
    show Cz_law_is_word_1 [some (.str ⟨#[c]⟩)] st = _
    unfold Cz_law_is_word_1
    simp [g]
  have e5 : eqD (.lst (((cq n).filter fun c => !isL c).map fun c => D.str ⟨#[c]⟩)) (.lst []) st = .ok (.bl ((cq n).all isL)) st:=by
   have h : (((cq n).filter fun c => !isL c).map fun c => D.str ⟨#[c]⟩).isEmpty = (cq n).all isL:=by
    rw [Bool.eq_iff_iff, List.isEmpty_iff, List.map_eq_nil_iff, List.filter_eq_nil_iff, List.all_eq_true]
    simp
   rw [← h]
   cases ((cq n).filter fun c => !isL c).map fun c => D.str ⟨#[c]⟩ <;> rfl
  have e6 : dSigns (dVar 0) [some (.str n)] st = .ok ((cq n).map fun c => D.str ⟨#[c]⟩, fun _ => True) st:=by
   have : (signs n).map D.str = (cq n).map fun c => D.str ⟨#[c]⟩:=by
    unfold signs
    rw [List.map_map]
    rfl
   rw [← this]
   show (if n.cps.all (· < 128) = true then Out.ok ((signs n).map D.str, fun _ => True) st else .bad) = _
   rw [if_pos h2]
  have hw : wD (.str n) = (decide (1 ≤ n.length ∧ n.length ≤ 4) && (cq n).all isL):=rfl
  rw [hw]
  generalize ((cq n).filter fun c => !isL c).map (fun c => D.str ⟨#[c]⟩) = F1 at *
  generalize (cq n).map (fun c => D.str ⟨#[c]⟩) = Y at *
  unfold Fz_law_is_word gz_law_is_word
  by_cases k1 : (1 : Int) ≤ (n.length : Int)
  ·by_cases k2 : (n.length : Int) ≤ 4
   ·rw [decide_eq_true (by omega)]
    simp [tyName, subTy, e1, leX, e6, capEv, e4, e5, k1, k2]
   ·rw [decide_eq_false (by omega)]
    simp [tyName, subTy, e1, leX, k1, k2]
  ·rw [decide_eq_false (by omega)]
   simp [tyName, subTy, e1, leX, k1]
 | _ => unfold Fz_law_is_word gz_law_is_word; simp [tyName, subTy, wD]
theorem lplace_D {d : D} (h : Ok d) (st : Sto) : Fz_law_is_place [d] st = .ok (.bl (pD d)) st:=by
 cases h with
 | tup ds hl hd =>
  have e1:=comp_not wD (cond:=Cz_law_is_place_1) (fe:=Ez_law_is_place_1) (st:=st) (ds:=ds) (fun _ => rfl) hl fun x hx => by
   unfold Cz_law_is_place_1
   simp [lword_D (hd x hx) st]
  have e2:=nil_all wD ds st
  have e3:=len_tup ds st
  have e4 : gtD (.int ds.length) (.int 6) st = .ok (.bl (decide ((6 : Int) < ds.length))) st:=rfl
  have hit : itemsOf st (.tup ds) = some ds:=rfl
  have hp : pD (.tup ds) = (decide (ds.length ≤ 6) && ds.all wD):=rfl
  rw [hp]
  generalize (ds.filter fun d => !wD d) = R at e1 e2
  unfold Fz_law_is_place gz_law_is_place
  by_cases k : ds.length ≤ 6
  ·rw [decide_eq_false (by omega)] at e4
   rw [decide_eq_true k]
   simp [tyName, subTy, e3, e4, hit, capEv, e1, e2]
  ·rw [decide_eq_true (by omega)] at e4
   rw [decide_eq_false k]
   simp [tyName, subTy, e3, e4]
 | _ => unfold Fz_law_is_place gz_law_is_place; simp [tyName, subTy, pD]
theorem lguard_D {d : D} (h : Ok d) (st : Sto) : Fz_law_is_guard [d] st = .ok (.bl (gP d)) st:=by
 cases h with
 | tup ds hl hd =>
  have e3:=len_tup ds st
  by_cases k : ds.length = 3
  ·obtain ⟨a, b, c, rfl⟩:=three_of_len k
   have ha:=lplace_D (hd a (by simp)) st
   have hb:=lplace_D (hd b (by simp)) st
   have hc:=lplace_D (hd c (by simp)) st
   have hi := inD_ws (hd c (by simp)) ["let", "stop", "ask"] st
   have hi' : inD c (.tup [.str "let", .str "stop", .str "ask"]) st = .ok (.bl (strIn c ["let", "stop", "ask"])) st := hi
   have i0 : ixD (.tup [a, b, c]) (.int 0) st = .ok a st:=rfl
   have i1 : ixD (.tup [a, b, c]) (.int 1) st = .ok b st:=rfl
   have i2 : ixD (.tup [a, b, c]) (.int 2) st = .ok c st:=rfl
   have n3 : neD (.int 3) (.int 3) st = .ok (.bl false) st:=rfl
   have e3' : lenD [.tup [a, b, c]] st = .ok (.int 3) st:=rfl
   have hg : gP (.tup [a, b, c]) = (pD a && (pD b && (strIn c ["let", "stop", "ask"] || pD c))) := rfl
   rw [hg]
   unfold Fz_law_is_guard gz_law_is_guard
   generalize pD a = xa at *
   generalize pD b = xb at *
   generalize pD c = xc at *
   generalize strIn c ["let", "stop", "ask"] = xs at *
   cases xa <;> cases xb <;> cases xc <;> simp [tyName, subTy, e3', n3, i0, i1, i2, ha, hb, hc, hi']
  ·rw [gP_no k]
   have n3:=neD_int (ds.length : Int) 3 st
   rw [decide_eq_false (by omega)] at n3
   unfold Fz_law_is_guard gz_law_is_guard
   simp [tyName, subTy, e3, n3]
 | _ => unfold Fz_law_is_guard gz_law_is_guard; simp [tyName, subTy, gP]
theorem llink_D {d : D} (h : Ok d) (st : Sto) : Fz_law_is_link [d] st = .ok (.bl (lP d)) st:=by
 cases h with
 | tup ds hl hd =>
  have e3:=len_tup ds st
  by_cases k : ds.length = 4
  ·obtain ⟨a, b, c, e, rfl⟩:=four_of_len k
   have ha:=lplace_D (hd a (by simp)) st
   have hb:=lword_D (hd b (by simp)) st
   have hq := eqD_w (hd c (by simp)) "go" st
   have hi : notInD c (.tup [.str "open", .str "replace"]) st = .ok (.bl (!strIn c ["open", "replace"])) st := notInD_ws (hd c (by simp)) ["open", "replace"] st
   have i0 : ixD (.tup [a, b, c, e]) (.int 0) st = .ok a st:=rfl
   have i1 : ixD (.tup [a, b, c, e]) (.int 1) st = .ok b st:=rfl
   have i2 : ixD (.tup [a, b, c, e]) (.int 2) st = .ok c st:=rfl
   have i3 : ixD (.tup [a, b, c, e]) (.int 3) st = .ok e st:=rfl
   have n4 : neD (.int 4) (.int 4) st = .ok (.bl false) st:=rfl
   have e3' : lenD [.tup [a, b, c, e]] st = .ok (.int 4) st:=rfl
   have hg : lP (.tup [a, b, c, e]) = (pD a && (wD b && (if strIn c ["go"] = true then wayD e else strIn c ["open", "replace"] && stsD e))) := rfl
   rw [hg]
   generalize pD a = xa at *
   generalize wD b = xb at *
   generalize strIn c ["go"] = xc at *
   generalize strIn c ["open", "replace"] = xs at *
   have he:=hd e (by simp)
   clear hd hg e3
   unfold Fz_law_is_link gz_law_is_link
   cases xa
   ·simp [tyName, subTy, e3', n4, i0, ha]
   cases xb
   ·simp [tyName, subTy, e3', n4, i0, i1, ha, hb]
   cases xc
   ·cases xs
    ·simp [tyName, subTy, e3', n4, i0, i1, i2, ha, hb, hq, hi]
    ·cases he with
     | tup es el ed =>
      have c1:=comp_not stpD (cond:=Cz_law_is_link_1) (fe:=Ez_law_is_link_1) (st:=st) (ds:=es) (fun _ => rfl) el fun x hx => by
       have g1:=lword_D (ed x hx) st
       have g2 : notInD x (.tup [.str ".", .str ".."]) st = .ok (.bl (!strIn x [".", ".."])) st := notInD_ws (ed x hx) [".", ".."] st
       unfold Cz_law_is_link_1 stpD
       generalize wD x = y1 at *
       generalize strIn x [".", ".."] = y2 at *
       cases y1 <;> simp [g1, g2]
      have c2:=nil_all stpD es st
      have c3:=len_tup es st
      have c4 : gtD (.int es.length) (.int 4) st = .ok (.bl (decide ((4 : Int) < es.length))) st:=rfl
      have hit : itemsOf st (.tup es) = some es:=rfl
      have hp : stsD (.tup es) = (decide (es.length ≤ 4) && es.all stpD):=rfl
      rw [hp]
      generalize (es.filter fun d => !stpD d) = R at c1 c2
      by_cases kk : es.length ≤ 4
      ·rw [decide_eq_false (by omega)] at c4
       rw [decide_eq_true kk]
       simp [tyName, subTy, e3', n4, i0, i1, i2, i3, ha, hb, hq, hi, c3, c4, hit, capEv, c1, c2]
      ·rw [decide_eq_true (by omega)] at c4
       rw [decide_eq_false kk]
       simp [tyName, subTy, e3', n4, i0, i1, i2, i3, ha, hb, hq, hi, c3, c4]
     | _ => simp [tyName, subTy, e3', n4, i0, i1, i2, i3, ha, hb, hq, hi, stsD]
   ·cases he with
    | int i =>
     have w1 : leX (.int (-9)) (.int i) st = .ok (.bl (decide (-9 ≤ i))) st:=rfl
     have w2 : leX (.int i) (.int 9) st = .ok (.bl (decide (i ≤ 9))) st:=rfl
     have hw : wayD (.int i) = decide (-9 ≤ i ∧ i ≤ 9):=rfl
     rw [hw]
     by_cases k1 : -9 ≤ i
     ·rw [decide_eq_true k1] at w1
      by_cases k2 : i ≤ 9
      ·rw [decide_eq_true k2] at w2
       rw [decide_eq_true ⟨k1, k2⟩]
       simp [tyName, subTy, e3', n4, i0, i1, i2, i3, ha, hb, hq, w1, w2]
      ·rw [decide_eq_false k2] at w2
       rw [decide_eq_false fun z => k2 z.2]
       simp [tyName, subTy, e3', n4, i0, i1, i2, i3, ha, hb, hq, w1, w2]
     ·rw [decide_eq_false k1] at w1
      rw [decide_eq_false fun z => k1 z.1]
      simp [tyName, subTy, e3', n4, i0, i1, i2, i3, ha, hb, hq, w1]
    | _ => simp [tyName, subTy, e3', n4, i0, i1, i2, i3, ha, hb, hq, wayD]
  ·rw [lP_no k]
   have n4:=neD_int (ds.length : Int) 4 st
   rw [decide_eq_false (by omega)] at n4
   unfold Fz_law_is_link gz_law_is_link
   simp [tyName, subTy, e3, n4]
 | _ => unfold Fz_law_is_link gz_law_is_link; simp [tyName, subTy, lP]
noncomputable def areV (way : Nat) (d : D) : Bool:=if way = 0 then pD d else if way = 1 then gsP d else lsP d
theorem lare_D {d : D} (h : Ok d) {way : Nat} (hw : way ≤ 2) (st : Sto) : Fz_law_are [.int way, d] st = .ok (.bl (areV way d)) st:=by
 have hway : way = 0 ∨ way = 1 ∨ way = 2:=by omega
 have q2 : (2 : Nat) ≤ small:=by decide
 rcases hway with rfl | rfl | rfl
 ·have e:=lplace_D h st
  have e0 : eqD (.int (0 : Nat)) (.int 0) st = .ok (.bl true) st:=rfl
  unfold Fz_law_are gz_law_are areV
  simp [e]
  simp [eqD_int, e]
 ·have e0 : eqD (.int (1 : Nat)) (.int 0) st = .ok (.bl false) st:=rfl
  have e1 : eqD (.int (1 : Nat)) (.int 1) st = .ok (.bl true) st:=rfl
  have s1 : subD (.int (1 : Nat)) (.int 1) st = .ok (.int 0) st:=rfl
  have i0 : ixD (.lst [.int 8, .int 12]) (.int 0) st = .ok (.int 8) st:=rfl
  show Fz_law_are [.int 1, d] st = _
  have ha : areV 1 d = gsP d:=rfl
  rw [ha]
  cases h with
  | tup ds hl hd =>
   have c1:=comp_not gP (cond:=Cz_law_are_1) (fe:=Ez_law_are_1) (st:=st) (ds:=ds) (fun _ => rfl) hl fun x hx => by
    unfold Cz_law_are_1
    simp [lguard_D (hd x hx) st]
   have c2:=nil_all gP ds st
   have c3:=len_tup ds st
   have c4 : gtD (.int ds.length) (.int 8) st = .ok (.bl (decide ((8 : Int) < ds.length))) st:=rfl
   have hit : itemsOf st (.tup ds) = some ds:=rfl
   have hp : gsP (.tup ds) = (decide (ds.length ≤ 8) && ds.all gP):=rfl
   rw [hp]
   generalize (ds.filter fun d => !gP d) = R at c1 c2
   unfold Fz_law_are gz_law_are
   by_cases k : ds.length ≤ 8
   ·rw [decide_eq_false (by omega)] at c4
    rw [decide_eq_true k]
    simp [eqD_int, tyName, subTy, c3, q2, subD_int, i0, c4, hit, capEv, c1, c2]
   ·rw [decide_eq_true (by omega)] at c4
    rw [decide_eq_false k]
    simp [eqD_int, tyName, subTy, c3, q2, subD_int, i0, c4]
  | _ => unfold Fz_law_are gz_law_are; simp [eqD_int, tyName, subTy, gsP]
 ·have i0 : ixD (.lst [.int 8, .int 12]) (.int 1) st = .ok (.int 12) st:=rfl
  show Fz_law_are [.int 2, d] st = _
  have ha : areV 2 d = lsP d:=rfl
  rw [ha]
  cases h with
  | tup ds hl hd =>
   have c1:=comp_not lP (cond:=Cz_law_are_2) (fe:=Ez_law_are_2) (st:=st) (ds:=ds) (fun _ => rfl) hl fun x hx => by
    unfold Cz_law_are_2
    simp [llink_D (hd x hx) st]
   have c2:=nil_all lP ds st
   have c3:=len_tup ds st
   have c4 : gtD (.int ds.length) (.int 12) st = .ok (.bl (decide ((12 : Int) < ds.length))) st:=rfl
   have hit : itemsOf st (.tup ds) = some ds:=rfl
   have hp : lsP (.tup ds) = (decide (ds.length ≤ 12) && ds.all lP):=rfl
   rw [hp]
   generalize (ds.filter fun d => !lP d) = R at c1 c2
   unfold Fz_law_are gz_law_are
   by_cases k : ds.length ≤ 12
   ·rw [decide_eq_false (by omega)] at c4
    rw [decide_eq_true k]
    simp [eqD_int, tyName, subTy, c3, q2, subD_int, i0, c4, hit, capEv, c1, c2]
   ·rw [decide_eq_true (by omega)] at c4
    rw [decide_eq_false k]
    simp [eqD_int, tyName, subTy, c3, q2, subD_int, i0, c4]
  | _ => unfold Fz_law_are gz_law_are; simp [eqD_int, tyName, subTy, lsP]
theorem told_D {d : D} (h : Ok d) {way : Nat} (hw : way ≤ 2) (st : Sto) : Fz_law_told [.int way, d] st = .ok (.bl (areV way d)) st:=by
 have hway : way = 0 ∨ way = 1 ∨ way = 2:=by omega
 have e0:=place_D h st
 have e1:=guards_D h st
 have e2:=links_D h st
 rcases hway with rfl | rfl | rfl
 ·show Fz_law_told [.int 0, d] st = .ok (.bl (pD d)) st
  unfold Fz_law_told gz_law_told
  simp [eqD_int, e0]
 ·show Fz_law_told [.int 1, d] st = .ok (.bl (gsP d)) st
  unfold Fz_law_told gz_law_told
  simp [eqD_int, e1]
 ·show Fz_law_told [.int 2, d] st = .ok (.bl (lsP d)) st
  unfold Fz_law_told gz_law_told
  simp [eqD_int, e2]
inductive Gw where
 | w (x : Str)
 | p (ws : List Str)
noncomputable def Gw.d : Gw → D
 | .w x => .str x
 | .p ws => pl ws
noncomputable abbrev Gd:=List Str × List Str × Gw
noncomputable def gdD (g : Gd) : D:=.tup [pl g.1, pl g.2.1, g.2.2.d]
noncomputable def gdsD (gs : List Gd) : D:=.tup (gs.map gdD)
noncomputable def guardV (ns : List Int) (h : Int) : Gd:=((placeV ns (h + 8)).take 2, (placeV ns (h + 13)).take 2,
 if drawnV ns (h + 2) 3 = 0 then .p (placeV ns (h + 3)) else .w ((["let", "stop", "ask", "ask"] : List Str).getD (drawnV ns (h + 1) 4).toNat "let"))
theorem ix_words (i : Int) (st : Sto) (h0 : 0 ≤ i) (h1 : i < 4) : ixD (.lst [.str "let", .str "stop", .str "ask", .str "ask"]) (.int i) st = .ok (.str ((["let", "stop", "ask", "ask"] : List Str).getD i.toNat "let")) st := by
 have : i = 0 ∨ i = 1 ∨ i = 2 ∨ i = 3:=by omega
 rcases this with rfl | rfl | rfl | rfl <;> rfl
theorem cut2 (a : List Str) (st : Sto) : cutT (pl a) none (some 2) st = .ok (pl (a.take 2)) st:=by
 have e:=cut_pl a none (some ((2 : Nat) : Int)) st
 rw [cutL_to] at e
 exact e
theorem guards_turn (ns : List Int) (hl : ns.length ≤ 63) (at_ : Int) (gs : List Gd) (k : Nat) (hg : gs.length ≤ 10) (c4 c5 c6 : Option D) (st : Sto) : ∃ c4' c5' c6', Bz_law_guards_1 [some (.scr (ns.map .int)), some (.int at_), some (gdsD gs), some (.int (0 + (k : Int))), c4, c5, c6] st =
  .nx [some (.scr (ns.map .int)), some (.int at_), some (gdsD (gs ++ [guardV ns (at_ + 1 + 20 * (k : Int))])), some (.int (0 + (k : Int))), c4', c5', c6'] st:=by
 obtain ⟨h, hh⟩ : ∃ h, h = at_ + 1 + 20 * (k : Int):=⟨_, rfl⟩
 have m1:=mul2_int 20 (k : Int) st (mulOk_l _ _ (by decide) (by decide))
 have d1:=drawn_eq ns hl (h + 1) 4 (by decide) st
 have d2:=drawn_eq ns hl (h + 2) 3 (by decide) st
 have x1:=ix_words (drawnV ns (h + 1) 4) st (drawn_lo _ _ _ (by decide)) (drawn_hi _ _ _ (by decide))
 have p1:=place_eq ns hl (h + 3) st
 have p2:=place_eq ns hl (h + 8) st
 have p3:=place_eq ns hl (h + 13) st
 have c1:=cut2 (placeV ns (h + 8)) st
 have c2:=cut2 (placeV ns (h + 13)) st
 have q1 : (1 : Nat) ≤ small:=by decide
 have q2 : (2 : Nat) ≤ small:=by decide
 have q4 : (4 : Nat) ≤ small:=by decide
 have eqi:=eqD_int (drawnV ns (h + 2) 3) 0 st
 have a1 : ∀ d : D, addD (.tup [pl ((placeV ns (h + 8)).take 2), pl ((placeV ns (h + 13)).take 2)]) (.tup [d]) st = .ok (.tup [pl ((placeV ns (h + 8)).take 2), pl ((placeV ns (h + 13)).take 2), d]) st:=fun d => by
  simp [addD, small]
 have a2 : ∀ g : Gd, addD (gdsD gs) (.tup [gdD g]) st = .ok (gdsD (gs ++ [g])) st:=fun g => by
  have hz : (gs.map gdD).length + [gdD g].length ≤ small:=small_ge (by simp; omega)
  simp only [gdsD, addD, if_pos hz]
  simp
 rw [← hh]
 generalize hw : (["let", "stop", "ask", "ask"] : List Str).getD (drawnV ns (h + 1) 4).toNat "let" = wd at x1
 by_cases hz : drawnV ns (h + 2) 3 = 0
 ·have eg : guardV ns h = ((placeV ns (h + 8)).take 2, (placeV ns (h + 13)).take 2, .p (placeV ns (h + 3))):=by unfold guardV; rw [if_pos hz]
  have a3:=a2 (guardV ns h)
  rw [eg] at a3
  have a3' : addD (gdsD gs) (.tup [.tup [pl ((placeV ns (h + 8)).take 2), pl ((placeV ns (h + 13)).take 2), pl (placeV ns (h + 3))]]) st = _:=a3
  rw [eg]
  refine ⟨some (.int h), some (pl (placeV ns (h + 3))), some (.tup [pl ((placeV ns (h + 8)).take 2), pl ((placeV ns (h + 13)).take 2)]), ?_⟩
  unfold Bz_law_guards_1
  simp only [Int.zero_add]
  rw [decide_eq_true hz] at eqi
  simp [m1, ← hh, d1, x1, d2, eqi, p1, p2, p3, c1, c2, q1, q2, q4, a1, a3']
 ·have eg : guardV ns h = ((placeV ns (h + 8)).take 2, (placeV ns (h + 13)).take 2, .w wd):=by unfold guardV; rw [if_neg hz, hw]
  have a3:=a2 (guardV ns h)
  rw [eg] at a3
  have a3' : addD (gdsD gs) (.tup [.tup [pl ((placeV ns (h + 8)).take 2), pl ((placeV ns (h + 13)).take 2), .str wd]]) st = _:=a3
  rw [eg]
  refine ⟨some (.int h), some (.str wd), some (.tup [pl ((placeV ns (h + 8)).take 2), pl ((placeV ns (h + 13)).take 2)]), ?_⟩
  unfold Bz_law_guards_1
  simp only [Int.zero_add]
  rw [decide_eq_false hz] at eqi
  simp [m1, ← hh, d1, x1, d2, eqi, p2, p3, c1, c2, q1, q2, q4, a1, a3']
noncomputable def guardsV (ns : List Int) (at_ : Int) : List Gd:=(List.range (drawnV ns at_ 6).toNat).map fun (k : Nat) => guardV ns (at_ + 1 + 20 * (k : Int))
theorem guards_eq (ns : List Int) (hl : ns.length ≤ 63) (at_ : Int) (st : Sto) : Fz_law_guards [.scr (ns.map .int), .int at_] st = .ok (gdsD (guardsV ns at_)) st:=by
 have e1:=drawn_eq ns hl at_ 6 (by decide) st
 have h1:=drawn_lo ns at_ 6 (by decide)
 have h2:=drawn_hi ns at_ 6 (by decide)
 have h3 : rngOk (drawnV ns at_ 6) = true:=rngOk_of (by omega) (by omega)
 have key : ∀ n : Nat, n ≤ 6 → ∃ c3 c4 c5 c6, loopD (fun _ => True) (tgName 3) Bz_law_guards_1 ((List.range n).map (fun (i : Nat) => D.int (0 + i))) [some (.scr (ns.map .int)), some (.int at_), some (gdsD []), none, none, none, none] st =
   .nx [some (.scr (ns.map .int)), some (.int at_), some (gdsD ((List.range n).map fun (k : Nat) => guardV ns (at_ + 1 + 20 * (k : Int)))), c3, c4, c5, c6] st:=by
  intro n hn
  have step : ∀ j, j < n → ∀ ρ s, (∃ c3 c4 c5 c6, ρ = [some (.scr (ns.map .int)), some (.int at_), some (gdsD ((List.range j).map fun (k : Nat) => guardV ns (at_ + 1 + 20 * (k : Int)))), c3, c4, c5, c6] ∧ s = st) →
    ∃ ρ1 ρ2 st2, tgName 3 (D.int (0 + (j : Int))) ρ = some ρ1 ∧ Bz_law_guards_1 ρ1 s = .nx ρ2 st2 ∧ ∃ c3 c4 c5 c6, ρ2 = [some (.scr (ns.map .int)), some (.int at_), some (gdsD ((List.range (j + 1)).map fun (k : Nat) => guardV ns (at_ + 1 + 20 * (k : Int)))), c3, c4, c5, c6] ∧ st2 = st:=by
   rintro j hj ρ s ⟨c3, c4, c5, c6, rfl, rfl⟩
   obtain ⟨c4', c5', c6', e⟩:=guards_turn ns hl at_ ((List.range j).map fun (k : Nat) => guardV ns (at_ + 1 + 20 * (k : Int))) j (by simp; omega) c4 c5 c6 s
   refine ⟨_, _, s, rfl, e, some (.int (0 + (j : Int))), c4', c5', c6', ?_, rfl⟩
   simp [List.range_succ]
  obtain ⟨ρ2, st2, e, c3, c4, c5, c6, hρ, hst⟩:=loop_rng (chk:=fun _ => True) (t:=tgName 3) (g:=Bz_law_guards_1) (f:=fun (i : Nat) => D.int (0 + i))
   (fun j ρ s => ∃ c3 c4 c5 c6, ρ = [some (.scr (ns.map .int)), some (.int at_), some (gdsD ((List.range j).map fun (k : Nat) => guardV ns (at_ + 1 + 20 * (k : Int)))), c3, c4, c5, c6] ∧ s = st) (fun _ _ _ _ => trivial) n step _ st ⟨none, none, none, none, rfl, rfl⟩
  subst hρ hst
  exact ⟨c3, c4, c5, c6, e⟩
 obtain ⟨c3, c4, c5, c6, e⟩:=key (drawnV ns at_ 6).toNat (by omega)
 have e' : loopD (fun _ => True) (tgName 3) Bz_law_guards_1 ((List.range (drawnV ns at_ 6).toNat).map (fun (i : Nat) => D.int (0 + i))) [some (.scr (ns.map .int)), some (.int at_), some (.tup []), none, none, none, none] st = _:=e
 simp only [Int.zero_add] at e'
 unfold Fz_law_guards gz_law_guards
 simp [e1, h3, dRng1, e']
 rfl
inductive Org : D → Prop
 | int (i : Int) : i.natAbs ≤ 100 → Org (.int i)
 | str (x : Str) : Asc x → Org (.str x)
 | tup (ds : List D) : ds.length ≤ 9 → (∀ d ∈ ds, Org d) → Org (.tup ds)
theorem Org.ok {d : D} (h : Org d) : Ok d:=by
 induction h with
 | int i _ => exact .int i
 | str x hx => exact .str x hx
 | tup ds hl _ ih => exact .tup ds (by omega) ih
noncomputable def ascB (x : Str) : Bool:=(cq x).all (· < 128) && decide (x.length ≤ 200)
theorem asc_of {x : Str} (h : ascB x = true) : Asc x:=by
 unfold ascB at h
 rw [Bool.and_eq_true] at h
 exact ⟨fun c hc => by simpa using List.all_eq_true.mp h.1 c hc, of_decide_eq_true h.2⟩
theorem org_pl {p : List Str} (hl : p.length ≤ 9) (h : ∀ w ∈ p, Asc w) : Org (pl p):=by
 refine .tup _ (by simpa using hl) fun d hd => ?_
 obtain ⟨w, hw, rfl⟩:=List.mem_map.mp hd
 exact .str w (h w hw)
theorem asc_letter {w : Str} (h : w = letter 0 ∨ w = letter 1 ∨ w = letter 2) : Asc w:=by
 rcases h with rfl | rfl | rfl <;> exact asc_of (by decide +kernel)
theorem org_place (ns : List Int) (k : Int) : Org (pl (placeV ns k)):=org_pl (by have:=placeV_len ns k; omega) fun w hw => asc_letter (placeV_mem ns k w hw)
theorem org_place2 (ns : List Int) (k : Int) : Org (pl ((placeV ns k).take 2)):=org_pl (by rw [List.length_take]; omega) fun w hw => asc_letter (placeV_mem ns k w (List.mem_of_mem_take hw))
theorem ix_any {xs : List D} {i : Int} (h0 : 0 ≤ i) (h1 : i < xs.length) (st : Sto) : ∃ d ∈ xs, ixD (.lst xs) (.int i) st = .ok d st:=by
 have hi : i.toNat < xs.length:=by omega
 refine ⟨xs[i.toNat], List.getElem_mem hi, ?_⟩
 have e : L2.atI xs i = some xs[i.toNat]:=by
  unfold L2.atI L2.ixN
  rw [if_pos h0, if_pos h1]
  simp only [Option.bind_some]
  exact List.getElem?_eq_getElem hi
 simp only [ixD, itemsOf, seqL, e]
theorem cut2' (p : List Str) (st : Sto) : cutT (pl p) none (some 2) st = .ok (pl (p.take 2)) st:=by
 have hc:=cut_pl p none (some ((2 : Nat) : Int)) st
 rw [cutL_to] at hc
 exact hc
noncomputable def wdsL : List D := [.str "up", .str "in", .str "on", .str "go"]
noncomputable def kdsL : List D := [.str "open", .str "open", .str "open", .str "replace", .str "go"]
noncomputable def stsL : List D := [.str "a", .str "b", .str "c", .str "..", .str "..", .str "."]
theorem str_of {xs : List D} (h : xs.all (fun d => match d with | .str x => ascB x | _ => false) = true) {d : D} (hd : d ∈ xs) : ∃ x, d = .str x ∧ Asc x:=by
 have:=List.all_eq_true.mp h d hd
 cases d with
 | str x => exact ⟨x, rfl, asc_of this⟩
 | _ => cases this
theorem link_turn (ns : List Int) (hl : ns.length ≤ 63) (at_ : Int) (j : Nat) (hj : j < 8) (ds : List D) (hds : ds.length ≤ 8) (c4 c5 c6 c7 c8 : Option D) (st : Sto) : ∃ l d4 d5 d6 d7 d8, Bz_law_links_1 [some (.scr (ns.map .int)), some (.int at_), some (.tup ds), some (.int j), c4, c5, c6, c7, c8] st = .nx [some (.scr (ns.map .int)), some (.int at_), some (.tup (ds ++ [l])), some (.int j), d4, d5, d6, d7, d8] st ∧ Org l:=by
 obtain ⟨h, hh⟩ : ∃ h : Int, h = at_ + 1 + 20 * (j : Int):=⟨_, rfl⟩
 have m1:=mul2_int 20 (j : Int) st (mulOk_l 20 (j : Int) (by decide) (by decide))
 have q1 : (1 : Nat) ≤ small:=by decide
 have q4 : (4 : Nat) ≤ small:=by decide
 have q5 : (5 : Nat) ≤ small:=by decide
 have q6 : (6 : Nat) ≤ small:=by decide
 have d1:=drawn_eq ns hl h 4 (by decide) st
 obtain ⟨dw, hdw, x1⟩:=ix_any (xs:=wdsL) (drawn_lo ns h 4 (by decide)) (drawn_hi ns h 4 (by decide)) st
 obtain ⟨w, rfl, aw⟩:=str_of (by decide +kernel) hdw
 have d2:=drawn_eq ns hl (h + 1) 5 (by decide) st
 obtain ⟨dk, hdk, x2⟩:=ix_any (xs:=kdsL) (drawn_lo ns (h + 1) 5 (by decide)) (drawn_hi ns (h + 1) 5 (by decide)) st
 obtain ⟨kn, rfl, ak⟩:=str_of (by decide +kernel) hdk
 have d3:=drawn_eq ns hl (h + 2) 5 (by decide) st
 have lo3:=drawn_lo ns (h + 2) 5 (by decide)
 have hi3:=drawn_hi ns (h + 2) 5 (by decide)
 have pe:=place_eq ns hl (h + 9) st
 have pc:=cut2' (placeV ns (h + 9)) st
 have op:=org_place2 ns (h + 9)
 have x1' : ixD (.lst [.str "up", .str "in", .str "on", .str "go"]) (.int (drawnV ns h 4)) st = .ok (.str w) st := x1
 have x2' : ixD (.lst [.str "open", .str "open", .str "open", .str "replace", .str "go"]) (.int (drawnV ns (h + 1) 5)) st = .ok (.str kn) st := x2
 have ea : ∀ l : D, addD (.tup ds) (.tup [l]) st = .ok (.tup (ds ++ [l])) st:=fun l => by
  have hz : ds.length + [l].length ≤ small:=small_ge (by simp; omega)
  simp only [addD, if_pos hz]
 have hq := neD_str kn "go" st
 generalize (placeV ns (h + 9)).take 2 = pp at pc op
 have fin : ∀ (pt : D) (c8 : Option D), Org pt → sSet 2 (dBin addD (dVar 2) (dTup (dCons (dTup (dCons (dSl cutT (dCall Fz_law_place (dCons (dVar 0) (dCons (dBin addD (dVar 4) (dC (.int 9))) dNil))) dNoPart (dPart (dC (.int 2)))) (dCons (dVar 5) (dCons (dVar 6) (dCons (dVar 7) dNil))))) dNil))) [some (.scr (ns.map .int)), some (.int at_), some (.tup ds), some (.int j), some (.int h), some (.str w), some (.str kn), some pt, c8] st = .nx [some (.scr (ns.map .int)), some (.int at_), some (.tup (ds ++ [.tup [pl pp, .str w, .str kn, pt]])), some (.int j), some (.int h), some (.str w), some (.str kn), some pt, c8] st ∧ Org (.tup [pl pp, .str w, .str kn, pt]):=by
  intro pt c8 hpt
  refine ⟨?_, .tup _ (by show 4 ≤ 9; decide) fun d hd => ?_⟩
  ·simp [addD_int, pe, pc, q1, q4, ea]
  ·simp only [List.mem_cons, List.not_mem_nil, or_false] at hd
   rcases hd with rfl | rfl | rfl | rfl
   ·exact op
   ·exact .str w aw
   ·exact .str kn ak
   ·exact hpt
 have a1 : sSet 4 (dBin addD (dBin addD (dVar 1) (dC (.int 1))) (dBin mul2D (dC (.int 20)) (dVar 3))) [some (.scr (ns.map .int)), some (.int at_), some (.tup ds), some (.int j), c4, c5, c6, c7, c8] st = .nx [some (.scr (ns.map .int)), some (.int at_), some (.tup ds), some (.int j), some (.int h), c5, c6, c7, c8] st:=by
  simp [m1, addD_int, hh]
 have a2 : sSet 5 (dBin ixD (dF (dLst (dCons (dC (.str "up")) (dCons (dC (.str "in")) (dCons (dC (.str "on")) (dCons (dC (.str "go")) dNil)))))) (dCall Fz_law_drawn (dCons (dVar 0) (dCons (dVar 4) (dCons (dC (.int 4)) dNil))))) [some (.scr (ns.map .int)), some (.int at_), some (.tup ds), some (.int j), some (.int h), c5, c6, c7, c8] st = .nx [some (.scr (ns.map .int)), some (.int at_), some (.tup ds), some (.int j), some (.int h), some (.str w), c6, c7, c8] st := by
  simp [q4, d1, x1']
 have a3 : sSet 6 (dBin ixD (dF (dLst (dRow [(.str "open"), (.str "open"), (.str "open"), (.str "replace"), (.str "go")] dNil))) (dCall Fz_law_drawn (dCons (dVar 0) (dCons (dBin addD (dVar 4) (dC (.int 1))) (dCons (dC (.int 5)) dNil))))) [some (.scr (ns.map .int)), some (.int at_), some (.tup ds), some (.int j), some (.int h), some (.str w), c6, c7, c8] st = .nx [some (.scr (ns.map .int)), some (.int at_), some (.tup ds), some (.int j), some (.int h), some (.str w), some (.str kn), c7, c8] st := by
  simp [q5, addD_int, d2, x2']
 have a4 : sSet 7 (dBin subD (dCall Fz_law_drawn (dCons (dVar 0) (dCons (dBin addD (dVar 4) (dC (.int 2))) (dCons (dC (.int 5)) dNil)))) (dC (.int 2))) [some (.scr (ns.map .int)), some (.int at_), some (.tup ds), some (.int j), some (.int h), some (.str w), some (.str kn), c7, c8] st = .nx [some (.scr (ns.map .int)), some (.int at_), some (.tup ds), some (.int j), some (.int h), some (.str w), some (.str kn), some (.int (drawnV ns (h + 2) 5 - 2)), c8] st:=by
  simp [addD_int, subD_int, d3]
 by_cases hg : kn = "go"
 ·rw [decide_eq_true hg] at hq
  obtain ⟨t1, t2⟩:=fin (.int (drawnV ns (h + 2) 5 - 2)) c8 (.int _ (by omega))
  refine ⟨_, some (.int h), some (.str w), some (.str kn), some (.int (drawnV ns (h + 2) 5 - 2)), c8, ?_, t2⟩
  unfold Bz_law_links_1
  rw [seq_nx a1, seq_nx a2, seq_nx a3, seq_nx a4, seq_nx (ρ':=[some (.scr (ns.map .int)), some (.int at_), some (.tup ds), some (.int j), some (.int h), some (.str w), some (.str kn), some (.int (drawnV ns (h + 2) 5 - 2)), c8]) (st':=st) (by refine sif_no ?_; simp [hq])]
  exact t1
 ·rw [decide_eq_false hg] at hq
  have r1:=drawn_lo ns (h + 3) 4 (by decide)
  have r2:=drawn_hi ns (h + 3) 4 (by decide)
  have g1 : rngOk (drawnV ns (h + 3) 4) = true:=rngOk_of (by omega) (by omega)
  have d4:=drawn_eq ns hl (h + 3) 4 (by decide) st
  have hch : ∀ i : Nat, ∃ d ∈ stsL, ixD (.lst stsL) (.int (drawnV ns (h + 4 + (i : Int)) 6)) st = .ok d st:=fun i => ix_any (xs:=stsL) (drawn_lo ns (h + 4 + (i : Int)) 6 (by decide)) (drawn_hi ns (h + 4 + (i : Int)) 6 (by decide)) st
  have hfn : ∃ f : Nat → D, ∀ i, f i ∈ stsL ∧ ixD (.lst stsL) (.int (drawnV ns (h + 4 + (i : Int)) 6)) st = .ok (f i) st:=⟨fun i => Classical.choose (hch i), fun i => Classical.choose_spec (hch i)⟩
  obtain ⟨f, hf⟩:=hfn
  have e2 : compD (fun _ => True) (tgName 0) dTrue Ez_law_links_1 ((List.range (drawnV ns (h + 3) 4).toNat).map (fun (i : Nat) => D.int (0 + i))) [none, some (.lst stsL), some (.scr (ns.map .int)), some (.int h)] st [] = .ok ((List.range (drawnV ns (h + 3) 4).toNat).map f) st:=by
   rw [compD_mm (fun (i : Nat) => D.int (0 + i)) f (fun ρ => ∃ a, ρ = [a, some (.lst stsL), some (.scr (ns.map .int)), some (.int h)]) trivial _ _ _ ⟨_, rfl⟩ (by simp only [List.length_nil, List.length_range, Nat.zero_add]; exact small_ge (by omega))]
   ·rfl
   ·rintro i _ ρ ⟨a, rfl⟩
    refine ⟨_, rfl, ⟨_, rfl⟩, ?_⟩
    have e3:=drawn_eq ns hl (h + 4 + (i : Int)) 6 (by decide) st
    have e4:=(hf i).2
    unfold Ez_law_links_1
    simp [addD_int, e3, e4]
  have ho : Org (.tup ((List.range (drawnV ns (h + 3) 4).toNat).map f)):=by
   refine .tup _ (by simp; omega) fun d hd => ?_
   obtain ⟨i, _, rfl⟩:=List.mem_map.mp hd
   obtain ⟨x, hx, ax⟩:=str_of (xs:=stsL) (by decide +kernel) (hf i).1
   rw [hx]
   exact .str x ax
  generalize (List.range (drawnV ns (h + 3) 4).toNat).map f = fs at *
  obtain ⟨t1, t2⟩:=fin (.tup fs) (some (.lst stsL)) ho
  refine ⟨_, some (.int h), some (.str w), some (.str kn), some (.tup fs), some (.lst stsL), ?_, t2⟩
  have a5 : sSet 8 (dF (dLst (dRow [(.str "a"), (.str "b"), (.str "c"), (.str ".."), (.str ".."), (.str ".")] dNil))) [some (.scr (ns.map .int)), some (.int at_), some (.tup ds), some (.int j), some (.int h), some (.str w), some (.str kn), some (.int (drawnV ns (h + 2) 5 - 2)), c8] st = .nx [some (.scr (ns.map .int)), some (.int at_), some (.tup ds), some (.int j), some (.int h), some (.str w), some (.str kn), some (.int (drawnV ns (h + 2) 5 - 2)), some (.lst stsL)] st := by
   simp [q6]
   rfl
  have a6 : sSet 7 (dCall tupleD (dCons (dF (dComp [8, 0, 4] 1 (dRng1 (dCons (dCall Fz_law_drawn (dCons (dVar 0) (dCons (dBin addD (dVar 4) (dC (.int 3))) (dCons (dC (.int 4)) dNil)))) dNil)) (tgName 0) dTrue Ez_law_links_1)) dNil)) [some (.scr (ns.map .int)), some (.int at_), some (.tup ds), some (.int j), some (.int h), some (.str w), some (.str kn), some (.int (drawnV ns (h + 2) 5 - 2)), some (.lst stsL)] st = .nx [some (.scr (ns.map .int)), some (.int at_), some (.tup ds), some (.int j), some (.int h), some (.str w), some (.str kn), some (.tup fs), some (.lst stsL)] st:=by
   simp only [Int.zero_add] at e2
   simp [addD_int, d4, g1, capEv, e2, tuple_lst, dRng1]
  unfold Bz_law_links_1
  rw [seq_nx a1, seq_nx a2, seq_nx a3, seq_nx a4, seq_nx (ρ':=[some (.scr (ns.map .int)), some (.int at_), some (.tup ds), some (.int j), some (.int h), some (.str w), some (.str kn), some (.tup fs), some (.lst stsL)]) (st':=st) (by rw [sif_t (st':=st) (by simp [hq]), seq_nx a5]; exact a6)]
  exact t1
theorem org_links (ns : List Int) (hl : ns.length ≤ 63) (at_ : Int) (st : Sto) : ∃ ds, Fz_law_links [.scr (ns.map .int), .int at_] st = .ok (.tup ds) st ∧ Org (.tup ds):=by
 have d1:=drawn_eq ns hl at_ 9 (by decide) st
 have r1:=drawn_lo ns at_ 9 (by decide)
 have r2:=drawn_hi ns at_ 9 (by decide)
 have g1 : rngOk (drawnV ns at_ 9) = true:=rngOk_of (by omega) (by omega)
 obtain ⟨ρ1, st1, f1, ⟨rfl, ds, c3, c4, c5, c6, c7, c8, rfl, hn, hok⟩⟩:=loop_rng (chk:=fun _ => True) (t:=tgName 3) (g:=Bz_law_links_1) (f:=fun (i : Nat) => D.int (0 + i))
  (fun j ρ st' => st' = st ∧ ∃ ds c3 c4 c5 c6 c7 c8, ρ = [some (.scr (ns.map .int)), some (.int at_), some (.tup ds), c3, c4, c5, c6, c7, c8] ∧ ds.length = j ∧ ∀ l ∈ ds, Org l) (fun _ _ _ _ => trivial) (drawnV ns at_ 9).toNat
  (by
   rintro j hj ρ st' ⟨rfl, ds, c3, c4, c5, c6, c7, c8, rfl, hn, hok⟩
   obtain ⟨l, d4, d5, d6, d7, d8, e, ol⟩:=link_turn ns hl at_ j (by omega) ds (by omega) c4 c5 c6 c7 c8 st'
   refine ⟨[some (.scr (ns.map .int)), some (.int at_), some (.tup ds), some (.int j), c4, c5, c6, c7, c8], _, st', ?_, e, rfl, _, _, _, _, _, _, _, rfl, by simp [hn], fun x hx => ?_⟩
   ·rw [Int.zero_add]
    rfl
   ·rcases List.mem_append.mp hx with h | h
    ·exact hok x h
    ·rw [List.mem_singleton.mp h]; exact ol) [some (.scr (ns.map .int)), some (.int at_), some (.tup []), none, none, none, none, none, none] st ⟨rfl, [], none, none, none, none, none, none, rfl, rfl, fun x hx => by cases hx⟩
 refine ⟨ds, ?_, .tup ds (by omega) hok⟩
 simp only [Int.zero_add] at f1
 unfold Fz_law_links gz_law_links
 simp [d1, g1, dRng1, f1]
theorem org_guards (ns : List Int) (hl : ns.length ≤ 63) (at_ : Int) (st : Sto) : ∃ ds, Fz_law_guards [.scr (ns.map .int), .int at_] st = .ok (.tup ds) st ∧ Org (.tup ds):=by
 refine ⟨_, guards_eq ns hl at_ st, .tup _ ?_ fun d hd => ?_⟩
 ·have h2:=drawn_hi ns at_ 6 (by decide)
  simp [guardsV]
  omega
 ·obtain ⟨g, hg, rfl⟩:=List.mem_map.mp hd
  obtain ⟨k, _, rfl⟩:=List.mem_map.mp hg
  refine .tup _ (by show 3 ≤ 9; decide) fun x hx => ?_
  simp only [List.mem_cons, List.not_mem_nil, or_false] at hx
  rcases hx with rfl | rfl | rfl
  ·exact org_place2 ns _
  ·exact org_place2 ns _
  ·unfold guardV
   dsimp only
   by_cases hz : drawnV ns (at_ + 1 + 20 * (k : Int) + 2) 3 = 0
   ·rw [if_pos hz]
    exact org_place ns _
   ·rw [if_neg hz]
    refine .str _ ?_
    have h0:=drawn_lo ns (at_ + 1 + 20 * (k : Int) + 1) 4 (by decide)
    have h1:=drawn_hi ns (at_ + 1 + 20 * (k : Int) + 1) 4 (by decide)
    generalize drawnV ns (at_ + 1 + 20 * (k : Int) + 1) 4 = i at *
    have : i = 0 ∨ i = 1 ∨ i = 2 ∨ i = 3:=by omega
    rcases this with rfl | rfl | rfl | rfl <;> exact asc_of (by decide +kernel)
theorem cutL_len {α : Type} (xs : List α) (lo hi : Option Int) : (cutL xs lo hi).length ≤ xs.length:=by
 unfold cutL
 rw [List.length_take, List.length_drop]
 omega
theorem cutL_mem {α : Type} {xs : List α} {lo hi : Option Int} {x : α} (h : x ∈ cutL xs lo hi) : x ∈ xs:=List.mem_of_mem_drop (List.mem_of_mem_take h)
noncomputable def oddL : List D := [.int (-1), .int 0, .int 10, .bl true, .non, .str "", .str "a", .str "abcde", .str "A", .str "let", .str "stop", .str "..", .str ".", .str "open", .str "go", .tup [], .lst [], .tup [.str "a"], .tup [.str "a", .str "B"]]
theorem odd_all : ∀ d ∈ oddL, Ok d:=by
 have hs : ∀ {x : Str}, ascB x = true → Ok (.str x):=fun h => .str _ (asc_of h)
 intro d hd
 simp only [oddL, List.mem_cons, List.not_mem_nil, or_false] at hd
 rcases hd with rfl | rfl | rfl | rfl | rfl | rfl | rfl | rfl | rfl | rfl | rfl | rfl | rfl | rfl | rfl | rfl | rfl | rfl | rfl
 ·exact .int _
 ·exact .int _
 ·exact .int _
 ·exact .bl _
 ·exact .non
 ·exact hs (by decide +kernel)
 ·exact hs (by decide +kernel)
 ·exact hs (by decide +kernel)
 ·exact hs (by decide +kernel)
 ·exact hs (by decide +kernel)
 ·exact hs (by decide +kernel)
 ·exact hs (by decide +kernel)
 ·exact hs (by decide +kernel)
 ·exact hs (by decide +kernel)
 ·exact hs (by decide +kernel)
 ·exact .tup _ (by simp) (by simp)
 ·exact .lst _ (by simp) (by simp)
 ·refine .tup _ (by simp) fun d hd => ?_
  rw [List.mem_singleton.mp hd]
  exact hs (by decide +kernel)
 ·refine .tup _ (by simp) fun d hd => ?_
  simp only [List.mem_cons, List.not_mem_nil, or_false] at hd
  rcases hd with rfl | rfl <;> exact hs (by decide +kernel)
theorem odd_ok (n : Int) (st : Sto) : ∃ d, Fz_law_odd [.int n] st = .ok d st ∧ Ok d:=by
 have hm:=mod_int n 19 st (by decide)
 have h0 : 0 ≤ n % 19:=Int.emod_nonneg _ (by decide)
 have h1 : n % 19 < 19:=Int.emod_lt_of_pos _ (by decide)
 obtain ⟨d, hd, hx⟩:=ix_any (xs:=oddL) h0 h1 st
 refine ⟨d, ?_, odd_all d hd⟩
 have q0 : (0 : Nat) ≤ small:=by decide
 have q1 : (1 : Nat) ≤ small:=by decide
 have q2 : (2 : Nat) ≤ small:=by decide
 have q18 : (18 : Nat) ≤ small:=by decide
 have q19 : (19 : Nat) ≤ small:=by decide
 have hx' : ixD (.lst [.int (-1), .int 0, .int 10, .bl true, .non, .str "", .str "a", .str "abcde", .str "A", .str "let", .str "stop", .str "..", .str ".", .str "open", .str "go", .tup [], .lst [], .tup [.str "a"], .tup [.str "a", .str "B"]]) (.int (n % 19)) st = .ok d st := hx
 unfold Fz_law_odd gz_law_odd
 simp [dRow, hm, q0, q1, q2, q18, q19, catL, ownL, hx']
theorem ok_part {ds : List D} (hl : ds.length ≤ 9) (hd : ∀ d ∈ ds, Ok d) (lo hi : Option Int) : Ok (.tup (cutL ds lo hi)):=.tup _ (by have:=cutL_len ds lo hi; omega) fun d h => hd d (cutL_mem h)
theorem ok_put {ds : List D} (hl : ds.length ≤ 9) (hd : ∀ d ∈ ds, Ok d) (lo hi : Option Int) {p : D} (hp : Ok p) : Ok (.tup (cutL ds none lo ++ [p] ++ cutL ds hi none)):=by
 refine .tup _ ?_ fun d h => ?_
 ·have h1:=cutL_len ds none lo
  have h2:=cutL_len ds hi none
  simp only [List.length_append, List.length_cons, List.length_nil]
  omega
 ·rcases List.mem_append.mp h with h | h
  ·rcases List.mem_append.mp h with h | h
   ·exact hd d (cutL_mem h)
   ·rw [List.mem_singleton.mp h]; exact hp
  ·exact hd d (cutL_mem h)
theorem addT {xs ys : List D} (h : xs.length + ys.length ≤ 100) (st : Sto) : addD (.tup xs) (.tup ys) st = .ok (.tup (xs ++ ys)) st:=by
 simp only [addD, if_pos (small_ge (n:=xs.length + ys.length) (by omega))]
theorem put_eq {ds : List D} (hl : ds.length ≤ 9) (lo hi : Option Int) (p : D) (st : Sto) : addD (.tup (cutL ds none lo)) (.tup [p]) st = .ok (.tup (cutL ds none lo ++ [p])) st ∧ addD (.tup (cutL ds none lo ++ [p])) (.tup (cutL ds hi none)) st = .ok (.tup (cutL ds none lo ++ [p] ++ cutL ds hi none)) st:=by
 have h1:=cutL_len ds none lo
 have h2:=cutL_len ds hi none
 exact ⟨addT (by simp; omega) st, addT (by simp; omega) st⟩
theorem rep_ok {ds : List D} (hl : ds.length ≤ 9) (hd : ∀ d ∈ ds, Ok d) : Ok (.tup (repL ds 3)):=by
 refine .tup _ ?_ fun d h => ?_
 ·simp [repL]
  omega
 ·have : d ∈ ds:=by
   simpa [repL] using h
  exact hd d this
theorem mul3 {ds : List D} (hl : ds.length ≤ 9) (st : Sto) : mul2D (.tup ds) (.int 3) st = .ok (.tup (repL ds 3)) st:=by
 show (if -1000 ≤ (3 : Int) ∧ (3 : Int) ≤ 1000 ∧ ds.length ≤ 10 then Out.ok (D.tup (repL ds (3 : Int).toNat)) st else .bad) = _
 rw [if_pos (by omega)]
 rfl
theorem pick6 (a b c d e f : D) {n : Int} (st : Sto) (ha : Ok a) (hb : Ok b) (hc : Ok c) (hd : Ok d) (he : Ok e) (hf : Ok f) : ∃ r, ixD (.lst [a, b, c, d, e, f]) (.int (n % 6)) st = .ok r st ∧ Ok r:=by
 obtain ⟨r, hr, hx⟩:=ix_any (xs:=[a, b, c, d, e, f]) (i:=n % 6) (Int.emod_nonneg _ (by decide)) (Int.emod_lt_of_pos _ (by decide)) st
 refine ⟨r, hx, ?_⟩
 simp only [List.mem_cons, List.not_mem_nil, or_false] at hr
 rcases hr with rfl | rfl | rfl | rfl | rfl | rfl <;> assumption
theorem dec_asc : ((List.range 201).all fun k => ascB (toString ((k : Int) - 100) : String)) = true:=by decide +kernel
theorem spoilt_ok : ∀ (f : Nat) (d : D) (n deep : Int) (st : Sto), deep < f → 0 < f → Org d → ∃ d', Fz_law_spoilt f [d, .int n, .int deep] st = .ok d' st ∧ Ok d'
 | 0, _, _, _, _, _, h, _ => absurd h (by decide)
 | k + 1, d, n, deep, st, hf, _, ho => by
  have f7:=fdiv_int n 7 st (by decide) (by decide)
  have f14:=fdiv_int n 14 st (by decide) (by decide)
  have f91:=fdiv_int n 91 st (by decide) (by decide)
  have m7:=mod_int n 7 st (by decide)
  have m2:=mod_int (n / 7) 2 st (by decide)
  have m6:=mod_int (n / 14) 6 st (by decide)
  have q1 : (1 : Nat) ≤ small:=by decide
  have q6 : (6 : Nat) ≤ small:=by decide
  have g1 : gtD (.int deep) (.int 0) st = .ok (.bl (decide (0 < deep))) st:=rfl
  have g2 : gtD (.int (n % 7)) (.int 0) st = .ok (.bl (decide (0 < n % 7))) st:=rfl
  have e0:=eqD_int (n / 7 % 2) 0 st
  obtain ⟨o, ho1, ho2⟩:=odd_ok (n / 7) st
  show ∃ d', runF 5 3 (gz_law_spoilt (Fz_law_spoilt k)) [d, .int n, .int deep] st = .ok d' st ∧ Ok d'
  have ok:=ho.ok
  cases ho with
  | int i hi =>
   by_cases c : n / 7 % 2 = 0
   ·rw [decide_eq_true c] at e0
    have hs : strID [.int i] st = .ok (.str (toString i)) st:=by
     show (if i.natAbs ≤ 1000 then Out.ok (D.str (toString i)) st else .bad) = _
     rw [if_pos (by omega)]
    have ha : Asc (toString i):=by
     have:=List.all_eq_true.mp dec_asc (i + 100).toNat (List.mem_range.mpr (by omega))
     rw [show (((i + 100).toNat : Int) - 100) = i by omega] at this
     exact asc_of this
    have e1:=eqD_int i 1 st
    generalize Str.ofString (toString i) = z at hs ha
    obtain ⟨r, hr, hk⟩:=pick6 (n:=n / 14) (.str z) (.int (0 - i)) (.int (i + 1)) (.bl (decide (i = 1))) (.int (i - 10)) (.int (i + 10)) st (.str _ ha) (.int _) (.int _) (.bl _) (.int _) (.int _)
    refine ⟨r, ?_, hk⟩
    unfold gz_law_spoilt
    by_cases c2 : 0 < deep
    ·rw [decide_eq_true c2] at g1
     simp only [Int.zero_sub] at hr
     simp [g1, tyName, subTy, f7, m2, e0, hs, e1, addD_int, subD_int, q6, f14, m6, hr]
    ·rw [decide_eq_false c2] at g1
     simp only [Int.zero_sub] at hr
     simp [g1, tyName, subTy, f7, m2, e0, hs, e1, addD_int, subD_int, q6, f14, m6, hr]
   ·rw [decide_eq_false c] at e0
    refine ⟨o, ?_, ho2⟩
    unfold gz_law_spoilt
    by_cases c2 : 0 < deep
    ·rw [decide_eq_true c2] at g1
     simp [g1, tyName, subTy, f7, m2, e0, ho1]
    ·rw [decide_eq_false c2] at g1
     simp [g1, tyName, subTy, f7, m2, e0, ho1]
  | str x hx =>
   refine ⟨o, ?_, ho2⟩
   unfold gz_law_spoilt
   by_cases c2 : 0 < deep
   ·rw [decide_eq_true c2] at g1
    simp [g1, tyName, subTy, f7, ho1]
   ·rw [decide_eq_false c2] at g1
    simp [g1, tyName, subTy, f7, ho1]
  | tup ds hl hd =>
   have hdk : ∀ d ∈ ds, Ok d:=fun d h => (hd d h).ok
   have e3:=len_tup ds st
   have g3 : gtD (.int ds.length) (.int 0) st = .ok (.bl (decide ((0 : Int) < ds.length))) st:=rfl
   by_cases cl : (0 : Int) < ds.length
   ·rw [decide_eq_true cl] at g3
    by_cases c2 : 0 < deep ∧ 0 < n % 7
    ·rw [decide_eq_true c2.1] at g1
     rw [decide_eq_true c2.2] at g2
     have ml:=mod_int (n / 7) ds.length st cl
     obtain ⟨p, hp, hix⟩:=ix_any (xs:=ds) (i:=n / 7 % ds.length) (Int.emod_nonneg _ (by omega)) (Int.emod_lt_of_pos _ cl) st
     have hix' : ixD (.tup ds) (.int (n / 7 % ds.length)) st = .ok p st:=hix
     obtain ⟨r, hr, hrk⟩:=spoilt_ok k p (n / 91) (deep - 1) st (by omega) (by omega) (hd p hp)
     obtain ⟨w1, w2⟩:=put_eq hl (some (n / 7 % ds.length)) (some (n / 7 % ds.length + 1)) r st
     refine ⟨_, ?_, ok_put hl hdk (some (n / 7 % ds.length)) (some (n / 7 % ds.length + 1)) hrk⟩
     unfold gz_law_spoilt
     have c0 : ∀ lo hi, cutT (.tup ds) lo hi st = .ok (.tup (cutL ds lo hi)) st:=fun _ _ => rfl
     simp only [List.append_assoc] at w1 w2
     simp [g1, g2, g3, tyName, subTy, e3, m7, f7, ml, hix', f91, subD_int, hr, addD_int, c0, q1, w1, w2]
    ·have fin : ∃ d', (sSeq (sIf (dAnd (dB (dInst "tuple" (dVar 0))) (dAnd (dB (dBin gtD (dCall lenD (dCons (dVar 0) dNil)) (dC (.int 0)))) (dB (dBin eqD (dBin modD (dBin fdivD (dVar 1) (dC (.int 7))) (dC (.int 2))) (dC (.int 0)))))) (sRet (dBin ixD (dF (dLst (dCons (dF (dCall listF (dCons (dVar 0) dNil))) (dCons (dSl cutT (dVar 0) dNoPart (dPart (dNeg (dC (.int 1))))) (dCons (dBin addD (dVar 0) (dSl cutT (dVar 0) (dPart (dNeg (dC (.int 1)))) dNoPart)) (dCons (dSl cutT (dVar 0) (dPart (dC (.int 1))) dNoPart) (dCons (dRevT (dVar 0) (dNeg (dC (.int 1)))) (dCons (dBin mul2D (dVar 0) (dC (.int 3))) dNil)))))))) (dBin modD (dBin fdivD (dVar 1) (dC (.int 14))) (dC (.int 6))))) sNext) (sSeq (sIf (dAnd (dB (dInst "int" (dVar 0))) (dB (dBin eqD (dBin modD (dBin fdivD (dVar 1) (dC (.int 7))) (dC (.int 2))) (dC (.int 0))))) (sRet (dBin ixD (dF (dLst (dCons (dCall strID (dCons (dVar 0) dNil)) (dCons (dBin subD (dC (.int 0)) (dVar 0)) (dCons (dBin addD (dVar 0) (dC (.int 1))) (dCons (dBin eqD (dVar 0) (dC (.int 1))) (dCons (dBin subD (dVar 0) (dC (.int 10))) (dCons (dBin addD (dVar 0) (dC (.int 10))) dNil)))))))) (dBin modD (dBin fdivD (dVar 1) (dC (.int 14))) (dC (.int 6))))) sNext) (sRet (dCall Fz_law_odd (dCons (dBin fdivD (dVar 1) (dC (.int 7))) dNil))))) [some (.tup ds), some (.int n), some (.int deep), none, none] st = .rt d' st ∧ Ok d' := by
      by_cases c : n / 7 % 2 = 0
      ·rw [decide_eq_true c] at e0
       have hw : addD (.tup ds) (.tup (cutL ds (some (-1)) none)) st = .ok (.tup (ds ++ cutL ds (some (-1)) none)) st:=addT (by have:=cutL_len ds (some (-1)) none; omega) st
       have ok2 : Ok (.tup (ds ++ cutL ds (some (-1)) none)):=.tup _ (by have:=cutL_len ds (some (-1)) none; simp; omega) fun d h => by
        rcases List.mem_append.mp h with h | h
        ·exact hdk d h
        ·exact hdk d (cutL_mem h)
       obtain ⟨r, hr, hk⟩:=pick6 (n:=n / 14) (.lst ds) (.tup (cutL ds none (some (-1)))) (.tup (ds ++ cutL ds (some (-1)) none)) (.tup (cutL ds (some 1) none)) (.tup ds.reverse) (.tup (repL ds 3)) st (.lst ds (by omega) hdk) (ok_part hl hdk _ _) ok2 (ok_part hl hdk _ _) (.tup _ (by simp; omega) fun d h => hdk d (List.mem_reverse.mp h)) (rep_ok hl hdk)
       refine ⟨r, ?_, hk⟩
       have c0 : ∀ lo hi, cutT (.tup ds) lo hi st = .ok (.tup (cutL ds lo hi)) st:=fun _ _ => rfl
       have c1 : listF [.tup ds] st = .ok ds st:=rfl
       have c3 : revTD (.tup ds) (.int (-1)) st = .ok (.tup ds.reverse) st:=rfl
       have c4:=mul3 hl st
       simp [tyName, subTy, e3, g3, f7, m2, e0, c0, c1, c3, c4, hw, dRevT, q6, f14, m6, hr]
      ·rw [decide_eq_false c] at e0
       refine ⟨o, ?_, ho2⟩
       simp [tyName, subTy, e3, g3, f7, m2, e0, ho1]
     obtain ⟨r, h1, h2⟩:=fin
     refine ⟨r, run_rt rfl ?_, h2⟩
     unfold gz_law_spoilt
     refine (seq_nx (sif_no ?_)).trans h1
     show _ = Out.ok false st
     by_cases c3 : 0 < deep
     ·rw [decide_eq_true c3] at g1
      rw [decide_eq_false (fun h => c2 ⟨c3, h⟩)] at g2
      simp [g1, g2, g3, tyName, subTy, e3, m7]
     ·rw [decide_eq_false c3] at g1
      simp [g1]
   ·rw [decide_eq_false cl] at g3
    refine ⟨o, ?_, ho2⟩
    unfold gz_law_spoilt
    by_cases c2 : 0 < deep
    ·rw [decide_eq_true c2] at g1
     simp [g1, g3, e3, tyName, subTy, f7, ho1]
    ·rw [decide_eq_false c2] at g1
     simp [g1, g3, e3, tyName, subTy, f7, ho1]
inductive Sh : Nat → D → Prop
 | int (n : Nat) (i : Int) : Sh n (.int i)
 | str (n : Nat) (x : Str) : Asc x → Sh n (.str x)
 | tup (n : Nat) (ds : List D) : ds.length ≤ 4 → (∀ d ∈ ds, Sh n d) → Sh (n + 1) (.tup ds)
theorem Sh.ok {n : Nat} {d : D} (h : Sh n d) : Ok d:=by
 induction h with
 | int n i => exact .int i
 | str n x hx => exact .str x hx
 | tup n ds hl _ ih => exact .tup ds (by omega) ih
noncomputable def bnd : Nat → Nat
 | 0 => 5
 | n + 1 => 4 + 4 * bnd n
theorem bnd_ge (n : Nat) : 5 ≤ bnd n:=by
 induction n with
 | zero => exact Nat.le_refl _
 | succ n ih => unfold bnd; omega
theorem each_turn (slf : FD) (ds : List D) (hl : ds.length ≤ 4) (hd : ∀ d ∈ ds, Ok d) (j : Nat) (hj : j < ds.length) (acc es : List D) (hac : acc.length ≤ 500) (hes : es.length ≤ 500) (he : ∀ e ∈ es, Ok e) (st : Sto) (hs : slf [ds[j]] st = .ok (.lst es) st) :
  ∃ fs, Bz_law_each_1 slf [some (.tup ds), some (.lst acc), some (.int j)] st = .nx [some (.tup ds), some (.lst (acc ++ fs)), some (.int j)] st ∧ fs.length = es.length ∧ ∀ e ∈ fs, Ok e:=by
 have hix : ixD (.tup ds) (.int j) st = .ok ds[j] st:=by
  have e : L2.atI ds (j : Int) = some ds[j]:=by
   unfold L2.atI L2.ixN
   rw [if_pos (by omega), if_pos (by omega)]
   simp only [Option.bind_some]
   exact List.getElem?_eq_getElem (by omega)
  simp only [ixD, itemsOf, seqL, e]
 have hit : itemsOf st (.lst es) = some es:=rfl
 have e1 : compD (fun st => itemsOf st (.lst es) = some es) (tgName 0) dTrue Ez_law_each_1 es [none, some (.tup ds), some (.int j)] st [] = .ok (es.map fun p => D.tup (cutL ds none (some (j : Int)) ++ [p] ++ cutL ds (some ((j : Int) + 1)) none)) st:=by
  have e:=compD_mm (chk:=fun st => itemsOf st (.lst es) = some es) (t:=tgName 0) (fe:=Ez_law_each_1) (st:=st) (fun d : D => d) (fun p => D.tup (cutL ds none (some (j : Int)) ++ [p] ++ cutL ds (some ((j : Int) + 1)) none)) (fun ρ => ∃ a, ρ = [a, some (.tup ds), some (.int j)]) rfl es [none, some (.tup ds), some (.int j)] [] ⟨_, rfl⟩ (by simp only [List.length_nil, Nat.zero_add]; exact Nat.le_trans hes (by decide)) (fun d hd' ρ ⟨a, hρ⟩ => by
   subst hρ
   refine ⟨_, rfl, ⟨_, rfl⟩, ?_⟩
   obtain ⟨w1, w2⟩:=put_eq (ds:=ds) (by omega) (some (j : Int)) (some ((j : Int) + 1)) d st
   have c0 : ∀ lo hi, cutT (.tup ds) lo hi st = .ok (.tup (cutL ds lo hi)) st:=fun _ _ => rfl
   have q1 : (1 : Nat) ≤ small:=by decide
   show Ez_law_each_1 [some d, some (.tup ds), some (.int j)] st = _
   unfold Ez_law_each_1
   simp only [List.append_assoc] at w1 w2
   simp [c0, addD_int, q1, w1, w2])
  rw [List.map_id'] at e
  exact e
 refine ⟨es.map fun p => D.tup (cutL ds none (some (j : Int)) ++ [p] ++ cutL ds (some ((j : Int) + 1)) none), ?_, List.length_map .., fun x hx => ?_⟩
 rotate_left
 ·obtain ⟨p, hp, rfl⟩:=List.mem_map.mp hx
  exact ok_put (by omega) hd _ _ (he p hp)
 ·have hfl : (es.map fun p => D.tup (cutL ds none (some (j : Int)) ++ [p] ++ cutL ds (some ((j : Int) + 1)) none)).length ≤ 500:=by rw [List.length_map]; exact hes
  generalize (es.map fun p => D.tup (cutL ds none (some (j : Int)) ++ [p] ++ cutL ds (some ((j : Int) + 1)) none)) = fs at *
  have q : acc.length + fs.length ≤ small:=Nat.le_trans (show acc.length + fs.length ≤ 1000 by omega) (by decide)
  unfold Bz_law_each_1
  simp [hix, hs, hit, capEv, e1, catL, ownL, q]
theorem each_leaf (slf : FD) (d : D) (st : Sto) (h : (∃ i, d = .int i) ∨ ∃ x, d = .str x) : ∃ es, runF 3 1 (gz_law_each slf) [d] st = .ok (.lst es) st ∧ es.length ≤ 5 ∧ ∀ e ∈ es, Ok e:=by
 have q5 : (5 : Nat) ≤ small:=by decide
 have hs : ∀ {x : Str}, ascB x = true → Ok (.str x):=fun h => .str _ (asc_of h)
 rcases h with ⟨i, rfl⟩ | ⟨x, rfl⟩
 ·refine ⟨[.non, .bl true, .int (i - 1), .int (i + 1), .int 1000], ?_, by simp, fun e he => ?_⟩
  ·unfold gz_law_each
   simp [tyName, subTy, subD_int, addD_int, q5]
  ·simp only [List.mem_cons, List.not_mem_nil, or_false] at he
   rcases he with rfl | rfl | rfl | rfl | rfl
   ·exact .non
   ·exact .bl _
   ·exact .int _
   ·exact .int _
   ·exact .int _
 ·refine ⟨[.non, .str "", .str "A", .str "abcde", .str "..."], ?_, by simp, fun e he => ?_⟩
  ·unfold gz_law_each
   simp [tyName, subTy, dRow, q5]
  ·simp only [List.mem_cons, List.not_mem_nil, or_false] at he
   rcases he with rfl | rfl | rfl | rfl | rfl
   ·exact .non
   ·exact hs (by decide +kernel)
   ·exact hs (by decide +kernel)
   ·exact hs (by decide +kernel)
   ·exact hs (by decide +kernel)
theorem each_ok (st : Sto) : ∀ (n : Nat) (d : D), n ≤ 3 → Sh n d → ∃ es, Fz_law_each (n + 1) [d] st = .ok (.lst es) st ∧ es.length ≤ bnd n ∧ ∀ e ∈ es, Ok e:=by
 intro n
 induction n with
 | zero =>
  intro d _ h
  show ∃ es, runF 3 1 (gz_law_each (Fz_law_each 0)) [d] st = .ok (.lst es) st ∧ es.length ≤ bnd 0 ∧ ∀ e ∈ es, Ok e
  obtain ⟨es, h1, h2, h3⟩:=each_leaf (Fz_law_each 0) d st (by
   cases h with
   | int _ i => exact .inl ⟨_, rfl⟩
   | str _ x hx => exact .inr ⟨_, rfl⟩)
  exact ⟨es, h1, Nat.le_trans h2 (bnd_ge 0), h3⟩
 | succ n ih =>
  intro d hn h
  show ∃ es, runF 3 1 (gz_law_each (Fz_law_each (n + 1))) [d] st = .ok (.lst es) st ∧ es.length ≤ bnd (n + 1) ∧ ∀ e ∈ es, Ok e
  cases h with
  | int _ i =>
   obtain ⟨es, h1, h2, h3⟩:=each_leaf (Fz_law_each (n + 1)) (.int i) st (.inl ⟨_, rfl⟩)
   exact ⟨es, h1, Nat.le_trans h2 (bnd_ge _), h3⟩
  | str _ x hx =>
   obtain ⟨es, h1, h2, h3⟩:=each_leaf (Fz_law_each (n + 1)) (.str x) st (.inr ⟨_, rfl⟩)
   exact ⟨es, h1, Nat.le_trans h2 (bnd_ge _), h3⟩
  | tup _ ds hl hd =>
   have hdk : ∀ d ∈ ds, Ok d:=fun d h => (hd d h).ok
   have hb : bnd n ≤ 100:=by
    have : n = 0 ∨ n = 1 ∨ n = 2:=by omega
    rcases this with rfl | rfl | rfl <;> decide
   have e3:=len_tup ds st
   have g1 : rngOk (ds.length : Int) = true:=rngOk_of (by omega) (by omega)
   have cl:=cutL_len ds (some (-1)) none
   have hw : addD (.tup ds) (.tup (cutL ds (some (-1)) none)) st = .ok (.tup (ds ++ cutL ds (some (-1)) none)) st:=addT (by omega) st
   have ok2 : Ok (.tup (ds ++ cutL ds (some (-1)) none)):=.tup _ (by simp; omega) fun d h => by
    rcases List.mem_append.mp h with h | h
    ·exact hdk d h
    ·exact hdk d (cutL_mem h)
   have ok3 : Ok (.tup (cutL ds (some 1) none)):=ok_part (by omega) hdk _ _
   obtain ⟨ρ1, st1, f1, ⟨rfl, acc, c2, rfl, hn2, hok⟩⟩:=loop_rng (chk:=fun _ => True) (t:=tgName 2) (g:=Bz_law_each_1 (Fz_law_each (n + 1))) (f:=fun (i : Nat) => D.int (0 + i))
    (fun j ρ st' => st' = st ∧ ∃ acc c2, ρ = [some (.tup ds), some (.lst acc), c2] ∧ acc.length ≤ 4 + j * bnd n ∧ ∀ e ∈ acc, Ok e) (fun _ _ _ _ => trivial) ds.length
    (by
     rintro j hj ρ st' ⟨rfl, acc, c2, rfl, hn2, hok⟩
     obtain ⟨es, k1, k2, k3⟩:=ih ds[j] (by omega) (hd _ (List.getElem_mem hj))
     have hjb : j * bnd n ≤ 4 * 100:=Nat.mul_le_mul (by omega) hb
     obtain ⟨fs, t1, t2, t3⟩:=each_turn (Fz_law_each (n + 1)) ds hl hdk j hj acc es (by omega) (by omega) k3 st' k1
     refine ⟨[some (.tup ds), some (.lst acc), some (.int j)], _, st', ?_, t1, rfl, _, _, rfl, ?_, fun x hx => ?_⟩
     ·rw [Int.zero_add]
      rfl
     ·rw [List.length_append, t2, Nat.succ_mul]
      omega
     ·rcases List.mem_append.mp hx with h | h
      ·exact hok x h
      ·exact t3 x h) [some (.tup ds), some (.lst [.non, .lst ds, .tup (ds ++ cutL ds (some (-1)) none), .tup (cutL ds (some 1) none)]), none] st ⟨rfl, _, _, rfl, by simp, fun e he => by
       simp only [List.mem_cons, List.not_mem_nil, or_false] at he
       rcases he with rfl | rfl | rfl | rfl
       ·exact .non
       ·exact .lst ds (by omega) hdk
       ·exact ok2
       ·exact ok3⟩
   refine ⟨acc, ?_, ?_, hok⟩
   ·simp only [Int.zero_add] at f1
    have c0 : ∀ lo hi, cutT (.tup ds) lo hi st1 = .ok (.tup (cutL ds lo hi)) st1:=fun _ _ => rfl
    have c1 : listF [.tup ds] st1 = .ok ds st1:=rfl
    have q4 : (4 : Nat) ≤ small:=by decide
    unfold gz_law_each
    simp [tyName, subTy, c0, c1, hw, q4, e3, g1, dRng1, f1]
   ·have : ds.length * bnd n ≤ 4 * bnd n:=Nat.mul_le_mul hl (Nat.le_refl _)
    show acc.length ≤ 4 + 4 * bnd n
    omega
theorem one_turn {way : Nat} (hw : way ≤ 2) {d : D} (h : Ok d) (c0 c2 c3 c4 c6 : Option D) (st : Sto) : Bzlaw_1 [c0, some (.int way), c2, c3, c4, some d, c6, none, none] st = .nx [c0, some (.int way), c2, c3, c4, some d, some (.bl (areV way d)), none, none] st:=by
 have hway : way = 0 ∨ way = 1 ∨ way = 2:=by omega
 have e0:=place_D h st
 have e1:=guards_D h st
 have e2:=links_D h st
 have la:=lare_D h hw st
 have g : ∀ a : Int, gtD (.int a) (.int 0) st = .ok (.bl (decide (0 < a))) st:=fun _ => rfl
 have nb : ∀ b : Bool, neD (.bl b) (.bl b) st = .ok (.bl false) st:=fun b => by rw [neD_bl]; simp
 rcases hway with rfl | rfl | rfl
 ·have la' : Fz_law_are [.int 0, d] st = .ok (.bl (pD d)) st:=la
  show Bzlaw_1 [c0, some (.int 0), c2, c3, c4, some d, c6, none, none] st = .nx [c0, some (.int 0), c2, c3, c4, some d, some (.bl (pD d)), none, none] st
  unfold Bzlaw_1
  simp [e0, g, tyName, subTy, la', nb]
 ·have la' : Fz_law_are [.int 1, d] st = .ok (.bl (gsP d)) st:=la
  show Bzlaw_1 [c0, some (.int 1), c2, c3, c4, some d, c6, none, none] st = .nx [c0, some (.int 1), c2, c3, c4, some d, some (.bl (gsP d)), none, none] st
  unfold Bzlaw_1
  simp [e0, e1, g, eqD_int, tyName, subTy, la', nb]
 ·have la' : Fz_law_are [.int 2, d] st = .ok (.bl (lsP d)) st:=la
  show Bzlaw_1 [c0, some (.int 2), c2, c3, c4, some d, c6, none, none] st = .nx [c0, some (.int 2), c2, c3, c4, some d, some (.bl (lsP d)), none, none] st
  unfold Bzlaw_1
  simp [e0, e2, g, eqD_int, tyName, subTy, la', nb]
theorem ones_loop {way : Nat} (hw : way ≤ 2) {chk : Sto → Prop} {st : Sto} (hc : chk st) (c0 c2 c3 c4 : Option D) : ∀ (ds : List D) (c5 c6 : Option D), (∀ d ∈ ds, Ok d) → ∃ c5' c6', loopD chk (tgName 5) Bzlaw_1 ds [c0, some (.int way), c2, c3, c4, c5, c6, none, none] st = .nx [c0, some (.int way), c2, c3, c4, c5', c6', none, none] st
 | [], c5, c6, _ => ⟨c5, c6, loop_nil hc⟩
 | d :: ds, c5, c6, h => by
  obtain ⟨c5', c6', e⟩:=ones_loop hw hc c0 c2 c3 c4 ds (some d) (some (.bl (areV way d))) fun x hx => h x (List.mem_cons_of_mem _ hx)
  refine ⟨c5', c6', ?_⟩
  rw [loop_nx hc (ρ1:=[c0, some (.int way), c2, c3, c4, some d, c6, none, none]) rfl (one_turn hw (h d (List.mem_cons_self ..)) c0 c2 c3 c4 c6 st)]
  exact e
theorem way_turn (ns : List Int) (hl : ns.length ≤ 63) (way : Nat) (hw : way ≤ 2) (c2 c3 c4 c5 c6 : Option D) (st : Sto) : ∃ d2 d3 d4 d5 d6, Bzlaw_2 [some (.scr (ns.map .int)), some (.int way), c2, c3, c4, c5, c6, none, none] st = .nx [some (.scr (ns.map .int)), some (.int way), d2, d3, d4, d5, d6, none, none] st:=by
 have p0:=place_eq ns hl 0 st
 have g : ∀ a : Int, gtD (.int a) (.int 0) st = .ok (.bl (decide (0 < a))) st:=fun _ => rfl
 have hthing : ∃ ds, Org (.tup ds) ∧ ∀ k : DS, sSeq Pzlaw_p2 (sSeq Pzlaw_p3 k) [some (.scr (ns.map .int)), some (.int way), c2, c3, c4, c5, c6, none, none] st = k [some (.scr (ns.map .int)), some (.int way), some (.tup ds), c3, c4, c5, c6, none, none] st:=by
  have hway : way = 0 ∨ way = 1 ∨ way = 2:=by omega
  have a1 : Pzlaw_p2 [some (.scr (ns.map .int)), some (.int way), c2, c3, c4, c5, c6, none, none] st = .nx [some (.scr (ns.map .int)), some (.int way), some (pl (placeV ns 0)), c3, c4, c5, c6, none, none] st:=by
   unfold Pzlaw_p2
   simp [p0]
  rcases hway with rfl | rfl | rfl
  ·refine ⟨_, org_place ns 0, fun k => ?_⟩
   rw [seq_nx a1, seq_nx (by unfold Pzlaw_p3; exact sif_no (st':=st) (by simp [g]))]
   rfl
  ·obtain ⟨ds, e, o⟩:=org_guards ns hl 10 st
   refine ⟨ds, o, fun k => ?_⟩
   rw [seq_nx a1, seq_nx (ρ':=[some (.scr (ns.map .int)), some (.int (1 : Nat)), some (.tup ds), c3, c4, c5, c6, none, none]) (st':=st) (by unfold Pzlaw_p3; simp [g, eqD_int, e])]
  ·obtain ⟨ds, e, o⟩:=org_links ns hl 150 st
   refine ⟨ds, o, fun k => ?_⟩
   rw [seq_nx a1, seq_nx (ρ':=[some (.scr (ns.map .int)), some (.int (2 : Nat)), some (.tup ds), c3, c4, c5, c6, none, none]) (st':=st) (by unfold Pzlaw_p3; simp [g, eqD_int, e])]
 obtain ⟨ds, ho, hk⟩:=hthing
 have hlen : ds.length ≤ 9:=by cases ho; assumption
 have hdk : ∀ d ∈ ds, Ok d:=by cases ho with | tup _ _ hd => exact fun d h => (hd d h).ok
 have dr1:=drawn_eq ns hl (400 + (way : Int)) 10000000 (by decide) st
 have dr2:=drawn_eq ns hl (410 + (way : Int)) 4 (by decide) st
 have hi2:=drawn_hi ns (410 + (way : Int)) 4 (by decide)
 obtain ⟨sp, e1, o1⟩:=spoilt_ok 4 (.tup ds) (drawnV ns (400 + (way : Int)) 10000000) (drawnV ns (410 + (way : Int)) 4) st (by omega) (by decide) ho
 have pw : powD (.int 10) (.int 7) st = .ok (.int 10000000) st:=rfl
 have a4 : Pzlaw_p4 [some (.scr (ns.map .int)), some (.int way), some (.tup ds), c3, c4, c5, c6, none, none] st = .nx [some (.scr (ns.map .int)), some (.int way), some (.tup ds), some sp, c4, c5, c6, none, none] st:=by
  unfold Pzlaw_p4
  simp [addD_int, pw, dr1, dr2, e1]
 have dr3:=drawn_eq ns hl 420 4 (by decide) st
 obtain ⟨fr, hfr, hx⟩:=ix_any (xs:=[.int 9, .int 10, .int (-9), .int (-10)]) (i:=drawnV ns 420 4) (drawn_lo ns 420 4 (by decide)) (drawn_hi ns 420 4 (by decide)) st
 have q0 : (0 : Nat) ≤ small:=by decide
 have q1 : (1 : Nat) ≤ small:=by decide
 have q4 : (4 : Nat) ≤ small:=by decide
 have q9 : (9 : Nat) ≤ small:=by decide
 have a5 : Pzlaw_p5 [some (.scr (ns.map .int)), some (.int way), some (.tup ds), some sp, c4, c5, c6, none, none] st = .nx [some (.scr (ns.map .int)), some (.int way), some (.tup ds), some sp, some fr, c5, c6, none, none] st:=by
  unfold Pzlaw_p5
  simp [q4, dr3, hx]
 have hfk : Ok fr:=by
  simp only [List.mem_cons, List.not_mem_nil, or_false] at hfr
  rcases hfr with rfl | rfl | rfl | rfl <;> exact .int _
 have hs : ∀ {x : Str}, ascB x = true → Ok (.str x):=fun h => .str _ (asc_of h)
 obtain ⟨n, hn⟩ : ∃ xs : List D, xs = [.tup ds, sp, .tup (repL ds 3), .lst ds, .tup (cutL ds none (some 1)), .tup [], .non, .str "let", .tup [.tup [.tup [], .str "a", .str "go", fr]]] := ⟨_, rfl⟩
 have hall : ∀ d ∈ n, Ok d:=by
  subst hn
  intro d hd
  simp only [List.mem_cons, List.not_mem_nil, or_false] at hd
  rcases hd with rfl | rfl | rfl | rfl | rfl | rfl | rfl | rfl | rfl
  ·exact ho.ok
  ·exact o1
  ·exact rep_ok hlen hdk
  ·exact .lst ds (by omega) hdk
  ·exact ok_part hlen hdk _ _
  ·exact .tup _ (by simp) (by simp)
  ·exact .non
  ·exact hs (by decide +kernel)
  ·refine .tup _ (by simp) fun x hx => ?_
   rw [List.mem_singleton.mp hx]
   refine .tup _ (by simp) fun y hy => ?_
   simp only [List.mem_cons, List.not_mem_nil, or_false] at hy
   rcases hy with rfl | rfl | rfl | rfl
   ·exact .tup _ (by simp) (by simp)
   ·exact hs (by decide +kernel)
   ·exact hs (by decide +kernel)
   ·exact hfk
 have hit : itemsOf st (.tup n) = some n:=rfl
 obtain ⟨c5', c6', e6⟩:=ones_loop hw (chk:=fun st => itemsOf st (.tup n) = some n) hit (some (.scr (ns.map .int))) (some (.tup ds)) (some sp) (some fr) n c5 c6 hall
 refine ⟨some (.tup ds), some sp, some fr, c5', c6', ?_⟩
 unfold Bzlaw_2
 rw [hk, seq_nx a4, seq_nx a5]
 have m3:=mul3 hlen st
 have c0 : cutT (.tup ds) none (some 1) st = .ok (.tup (cutL ds none (some 1))) st:=rfl
 have c1 : listF [.tup ds] st = .ok ds st:=rfl
 have hn' : dSeq (dTup (dCons (dVar 2) (dCons (dVar 3) (dCons (dBin mul2D (dVar 2) (dC (.int 3))) (dCons (dF (dCall listF (dCons (dVar 2) dNil))) (dCons (dSl cutT (dVar 2) dNoPart (dPart (dC (.int 1)))) (dCons (dTup dNil) (dCons (dC .non) (dCons (dC (.str "let")) (dCons (dTup (dCons (dTup (dCons (dTup dNil) (dCons (dC (.str "a")) (dCons (dC (.str "go")) (dCons (dVar 4) dNil))))) dNil)) dNil)))))))))) [some (.scr (ns.map .int)), some (.int way), some (.tup ds), some sp, some fr, c5, c6, none, none] st = .ok (n, fun st => itemsOf st (.tup n) = some n) st := by
  have t : (dTup (dCons (dVar 2) (dCons (dVar 3) (dCons (dBin mul2D (dVar 2) (dC (.int 3))) (dCons (dF (dCall listF (dCons (dVar 2) dNil))) (dCons (dSl cutT (dVar 2) dNoPart (dPart (dC (.int 1)))) (dCons (dTup dNil) (dCons (dC .non) (dCons (dC (.str "let")) (dCons (dTup (dCons (dTup (dCons (dTup dNil) (dCons (dC (.str "a")) (dCons (dC (.str "go")) (dCons (dVar 4) dNil))))) dNil)) dNil)))))))))) [some (.scr (ns.map .int)), some (.int way), some (.tup ds), some sp, some fr, c5, c6, none, none] st = .ok (.tup n) st := by
   subst hn
   simp [q0, q1, q4, q9, m3, c0, c1]
  rw [z_seq, t]
  rfl
 unfold Pzlaw_p6
 rw [z_sFor, hn']
 exact e6
theorem base_turn {way : Nat} (hw : way ≤ 2) {b : D} (hb : Sh 3 b) (c0 c2 c3 c4 c5 c6 c7 : Option D) (st : Sto) : Bzlaw_3 [c0, some (.int way), c2, c3, c4, c5, c6, c7, some b] st = .nx [c0, some (.int way), c2, c3, c4, c5, c6, c7, some b] st:=by
 obtain ⟨es, e1, e2, e3⟩:=each_ok st 3 b (by decide) hb
 have hbn : bnd 3 = 404:=rfl
 rw [hbn] at e2
 have q1 : (1 : Nat) ≤ small:=by decide
 have q : [b].length + es.length ≤ small:=Nat.le_trans (show [b].length + es.length ≤ 1000 by simp; omega) (by decide)
 have cat : catL (.lst [b]) (.lst es) st = .ok ([b] ++ es) st:=by
  show (if [b].length + es.length ≤ small then Out.ok ([b] ++ es) st else .bad) = _
  rw [if_pos q]
 have hit : itemsOf st (.lst ([b] ++ es)) = some ([b] ++ es):=rfl
 have hall : ∀ d ∈ [b] ++ es, Ok d:=fun d hd => by
  rcases List.mem_append.mp hd with h | h
  ·rw [List.mem_singleton.mp h]; exact hb.ok
  ·exact e3 d h
 have c : compD (fun st => itemsOf st (.lst ([b] ++ es)) = some ([b] ++ es)) (tgName 0) Czlaw_1 Ezlaw_1 ([b] ++ es) [none, some (.int way)] st [] = .ok [] st:=by
  have e:=compD_fm (chk:=fun st => itemsOf st (.lst ([b] ++ es)) = some ([b] ++ es)) (t:=tgName 0) (cond:=Czlaw_1) (fe:=Ezlaw_1) (st:=st) (fun d : D => d) (fun _ => false) (fun d => d) (fun ρ => ∃ a, ρ = [a, some (.int way)]) rfl ([b] ++ es) [none, some (.int way)] [] ⟨_, rfl⟩ (by simp only [List.length_nil, Nat.zero_add, List.length_append]; exact q) (fun d hd ρ ⟨a, hρ⟩ => by
   subst hρ
   refine ⟨_, rfl, ⟨_, rfl⟩, ?_, fun _ => rfl⟩
   have t1:=told_D (hall d hd) hw st
   have t2:=lare_D (hall d hd) hw st
   have nb : neD (.bl (areV way d)) (.bl (areV way d)) st = .ok (.bl false) st:=by rw [neD_bl]; simp
   show Czlaw_1 [some d, some (.int way)] st = _
   unfold Czlaw_1
   simp [t1, t2, nb])
  rw [List.map_id'] at e
  rw [e]
  simp
 have nn : neD (.lst []) (.lst []) st = .ok (.bl false) st:=rfl
 generalize [b] ++ es = xs at *
 unfold Bzlaw_3
 refine sif_no ?_
 simp [q1, e1, cat, hit, capEv, c, nn]
noncomputable def bs0 : D := .tup [.str "ab", .str "c"]
noncomputable def bs1 : D := .tup [.tup [.tup [.str "a"], .tup [.str "b"], .str "stop"], .tup [.tup [], .tup [.str "a"], .tup [.str "c"]]]
noncomputable def bs2 : D := .tup [.tup [.tup [.str "a"], .str "go", .str "open", .tup [.str "b", .str "..", .str "."]], .tup [.tup [.str "a"], .str "in", .str "go", .int (-3)]]
noncomputable def shB : Nat → D → Bool
 | _, .int _ => true
 | _, .str x => ascB x
 | n + 1, .tup ds => decide (ds.length ≤ 4) && ds.all (shB n)
 | _, _ => false
theorem sh_of : ∀ (n : Nat) (d : D), shB n d = true → Sh n d
 | n, .int i, _ => .int n i
 | n, .str x, h => .str n x (asc_of (by cases n <;> exact h))
 | n + 1, .tup ds, h => by
  unfold shB at h
  rw [Bool.and_eq_true] at h
  exact .tup n ds (of_decide_eq_true h.1) fun d hd => sh_of n d (List.all_eq_true.mp h.2 d hd)
 | 0, .tup _, h => by cases h
 | 0, .non, h => by cases h
 | _ + 1, .non, h => by cases h
 | 0, .bl _, h => by cases h
 | _ + 1, .bl _, h => by cases h
 | 0, .lst _, h => by cases h
 | _ + 1, .lst _, h => by cases h
 | 0, .scr _, h => by cases h
 | _ + 1, .scr _, h => by cases h
 | 0, .res _, h => by cases h
 | _ + 1, .res _, h => by cases h
 | 0, .exv _, h => by cases h
 | _ + 1, .exv _, h => by cases h
theorem law_true (ns : List Int) (hl : ns.length ≤ 63) : ∃ st, Fzlaw [.scr (ns.map .int)] [] = .ok (.bl true) st:=by
 obtain ⟨ρ1, st1, f1, ⟨rfl, c1, c2, c3, c4, c5, c6, rfl⟩⟩:=loop_rng (chk:=fun _ => True) (t:=tgName 1) (g:=Bzlaw_2) (f:=fun (i : Nat) => D.int (0 + i))
  (fun j ρ st' => st' = [] ∧ ∃ c1 c2 c3 c4 c5 c6, ρ = [some (.scr (ns.map .int)), c1, c2, c3, c4, c5, c6, none, none]) (fun _ _ _ _ => trivial) 3
  (by
   rintro j hj ρ st' ⟨rfl, c1, c2, c3, c4, c5, c6, rfl⟩
   obtain ⟨d2, d3, d4, d5, d6, e⟩:=way_turn ns hl j (by omega) c2 c3 c4 c5 c6 []
   refine ⟨[some (.scr (ns.map .int)), some (.int j), c2, c3, c4, c5, c6, none, none], _, [], ?_, e, rfl, _, _, _, _, _, _, rfl⟩
   rw [Int.zero_add]
   rfl) [some (.scr (ns.map .int)), none, none, none, none, none, none, none, none] [] ⟨rfl, _, _, _, _, _, _, rfl⟩
 have g1 : rngOk 3 = true:=rngOk_of (by omega) (by omega)
 simp only [Int.zero_add] at f1
 have a1 : Pzlaw_p1 [some (.scr (ns.map .int)), none, none, none, none, none, none, none, none] [] = .nx [some (.scr (ns.map .int)), c1, c2, c3, c4, c5, c6, none, none] []:=by
  unfold Pzlaw_p1
  simp [dRng1, g1]
  exact f1
 have q0 : (0 : Nat) ≤ small:=by decide
 have q1 : (1 : Nat) ≤ small:=by decide
 have q2 : (2 : Nat) ≤ small:=by decide
 have q3 : (3 : Nat) ≤ small:=by decide
 have q4 : (4 : Nat) ≤ small:=by decide
 have q2' : 2 < small:=by decide
 have a7 : Pzlaw_p7 [some (.scr (ns.map .int)), c1, c2, c3, c4, c5, c6, none, none] [] = .nx [some (.scr (ns.map .int)), c1, c2, c3, c4, c5, c6, some (.res 0), none] [.lst [bs0, bs1]]:=by
  unfold Pzlaw_p7
  simp [q0, q1, q2, q3, bs0, bs1, dVals]
 have a8 : Pzlaw_p8 [some (.scr (ns.map .int)), c1, c2, c3, c4, c5, c6, some (.res 0), none] [.lst [bs0, bs1]] = .nx [some (.scr (ns.map .int)), c1, c2, c3, c4, c5, c6, some (.res 0), none] [.lst [bs0, bs1, bs2]]:=by
  unfold Pzlaw_p8
  simp [q0, q1, q2, q3, q4, q2', dAppend, bs2]
 obtain ⟨st, hst⟩ : ∃ st : Sto, st = [.lst [bs0, bs1, bs2]]:=⟨_, rfl⟩
 have sq : seqL st (.res 0) = some [bs0, bs1, bs2]:=by subst hst; rfl
 have s0 : Sh 3 bs0:=sh_of 3 _ (by decide +kernel)
 have s1 : Sh 3 bs1:=sh_of 3 _ (by decide +kernel)
 have s2 : Sh 3 bs2:=sh_of 3 _ (by decide +kernel)
 have a9 : ∃ d1 d8, Pzlaw_p9 [some (.scr (ns.map .int)), c1, c2, c3, c4, c5, c6, some (.res 0), none] st = .nx [some (.scr (ns.map .int)), d1, c2, c3, c4, c5, c6, some (.res 0), d8] st:=by
  refine ⟨some (.int (2 : Nat)), some bs2, ?_⟩
  unfold Pzlaw_p9
  rw [z_sFor]
  simp only [dEnum, z_var, List.getElem?_cons_succ, List.getElem?_cons_zero, z_bind_ok, sq, z_to_ok]
  show loopD (fun st => seqL st (.res 0) = some [bs0, bs1, bs2]) (tgTup [1, 8]) Bzlaw_3 [.tup [.int (0 : Nat), bs0], .tup [.int (1 : Nat), bs1], .tup [.int (2 : Nat), bs2]] _ st = _
  rw [loop_nx sq (ρ1:=[some (.scr (ns.map .int)), some (.int (0 : Nat)), c2, c3, c4, c5, c6, some (.res 0), some bs0]) rfl (base_turn (way:=0) (by decide) s0 _ _ _ _ _ _ _ st), loop_nx sq (ρ1:=[some (.scr (ns.map .int)), some (.int (1 : Nat)), c2, c3, c4, c5, c6, some (.res 0), some bs1]) rfl (base_turn (way:=1) (by decide) s1 _ _ _ _ _ _ _ st), loop_nx sq (ρ1:=[some (.scr (ns.map .int)), some (.int (2 : Nat)), c2, c3, c4, c5, c6, some (.res 0), some bs2]) rfl (base_turn (way:=2) (by decide) s2 _ _ _ _ _ _ _ st)]
  exact loop_nil sq
 obtain ⟨d1, d8, a9⟩:=a9
 refine ⟨st, run_rt rfl ?_⟩
 unfold gzlaw
 refine (seq_nx a1).trans ((seq_nx a7).trans ((seq_nx a8).trans ?_))
 rw [← hst]
 exact (seq_nx a9).trans rfl
end K01
end
section
set_option maxHeartbeats 2000000
namespace K01
open PySem L2 DL
theorem all_mk {l : PySem.W.OpenLaw} {w : World} {K : PySem.W.Frag} {h : Heap} {mg : Str → Option Value} {fa f0 f1 f2 f3 f4 f5 f6 f7 f8 f9 f10 f11 f12 f13 f14 f15 f16 f17 f18 f19 f20 f21 f22 f23 f24 f25  : Addr} (X : K.In h) (G : h.Ns mainGlobals mg) (hfa : mg "law" = some (.ref fa))
  {od0 an0 : Option Addr} {sl0 : Array (Option Value)} {oc0 kV0 dc0 pm0 cd0 ct0 : Value}
  {od1 an1 : Option Addr} {sl1 : Array (Option Value)} {oc1 kV1 dc1 pm1 cd1 ct1 : Value}
  {od2 an2 : Option Addr} {sl2 : Array (Option Value)} {oc2 kV2 dc2 pm2 cd2 ct2 : Value}
  {od3 an3 : Option Addr} {sl3 : Array (Option Value)} {oc3 kV3 dc3 pm3 cd3 ct3 : Value}
  {od4 an4 : Option Addr} {sl4 : Array (Option Value)} {oc4 kV4 dc4 pm4 cd4 ct4 : Value}
  {od5 an5 : Option Addr} {sl5 : Array (Option Value)} {oc5 kV5 dc5 pm5 cd5 ct5 : Value}
  {od6 an6 : Option Addr} {sl6 : Array (Option Value)} {oc6 kV6 dc6 pm6 cd6 ct6 : Value}
  {od7 an7 : Option Addr} {sl7 : Array (Option Value)} {oc7 kV7 dc7 pm7 cd7 ct7 : Value}
  {od8 an8 : Option Addr} {sl8 : Array (Option Value)} {oc8 kV8 dc8 pm8 cd8 ct8 : Value}
  {od9 an9 : Option Addr} {sl9 : Array (Option Value)} {oc9 kV9 dc9 pm9 cd9 ct9 : Value}
  {od10 an10 : Option Addr} {sl10 : Array (Option Value)} {oc10 kV10 dc10 pm10 cd10 ct10 : Value}
  {od11 an11 : Option Addr} {sl11 : Array (Option Value)} {oc11 kV11 dc11 pm11 cd11 ct11 : Value}
  {od12 an12 : Option Addr} {sl12 : Array (Option Value)} {oc12 kV12 dc12 pm12 cd12 ct12 : Value}
  {od13 an13 : Option Addr} {sl13 : Array (Option Value)} {oc13 kV13 dc13 pm13 cd13 ct13 : Value}
  {od14 an14 : Option Addr} {sl14 : Array (Option Value)} {oc14 kV14 dc14 pm14 cd14 ct14 : Value}
  {od15 an15 : Option Addr} {sl15 : Array (Option Value)} {oc15 kV15 dc15 pm15 cd15 ct15 : Value}
  {od16 an16 : Option Addr} {sl16 : Array (Option Value)} {oc16 kV16 dc16 pm16 cd16 ct16 : Value}
  {od17 an17 : Option Addr} {sl17 : Array (Option Value)} {oc17 kV17 dc17 pm17 cd17 ct17 : Value}
  {od18 an18 : Option Addr} {sl18 : Array (Option Value)} {oc18 kV18 dc18 pm18 cd18 ct18 : Value}
  {od19 an19 : Option Addr} {sl19 : Array (Option Value)} {oc19 kV19 dc19 pm19 cd19 ct19 : Value}
  {od20 an20 : Option Addr} {sl20 : Array (Option Value)} {oc20 kV20 dc20 pm20 cd20 ct20 : Value}
  {od21 an21 : Option Addr} {sl21 : Array (Option Value)} {oc21 kV21 dc21 pm21 cd21 ct21 : Value}
  {od22 an22 : Option Addr} {sl22 : Array (Option Value)} {oc22 kV22 dc22 pm22 cd22 ct22 : Value}
  {od23 an23 : Option Addr} {sl23 : Array (Option Value)} {oc23 kV23 dc23 pm23 cd23 ct23 : Value}
  {od24 an24 : Option Addr} {sl24 : Array (Option Value)} {oc24 kV24 dc24 pm24 cd24 ct24 : Value}
  {od25 an25 : Option Addr} {sl25 : Array (Option Value)} {oc25 kV25 dc25 pm25 cd25 ct25 : Value}
  (a0 : PySem.W.nsIn K mainGlobals "_law_cell" = some (some (.ref f0))) (l0 : K.lookup f0 = some ⟨oc0, od0, .func (PySem.W.fnOf "_law_cell" "_law_cell" (defArgs sz_law_cell) (defBody sz_law_cell) (defScope sz_law_cell) .none kV0 dc0 pm0 an0 cd0 ct0), sl0⟩) (c0 : PySem.W.codeIn K cd0 "_law_cell" = true) (k0 : PySem.W.keepIn K (.ref f0) = true)
  (a1 : PySem.W.nsIn K mainGlobals "_law_drawn" = some (some (.ref f1))) (l1 : K.lookup f1 = some ⟨oc1, od1, .func (PySem.W.fnOf "_law_drawn" "_law_drawn" (defArgs sz_law_drawn) (defBody sz_law_drawn) (defScope sz_law_drawn) .none kV1 dc1 pm1 an1 cd1 ct1), sl1⟩) (c1 : PySem.W.codeIn K cd1 "_law_drawn" = true) (k1 : PySem.W.keepIn K (.ref f1) = true)
  (a2 : PySem.W.nsIn K mainGlobals "_law_place" = some (some (.ref f2))) (l2 : K.lookup f2 = some ⟨oc2, od2, .func (PySem.W.fnOf "_law_place" "_law_place" (defArgs sz_law_place) (defBody sz_law_place) (defScope sz_law_place) .none kV2 dc2 pm2 an2 cd2 ct2), sl2⟩) (c2 : PySem.W.codeIn K cd2 "_law_place" = true) (k2 : PySem.W.keepIn K (.ref f2) = true)
  (a3 : PySem.W.nsIn K mainGlobals "_law_guards" = some (some (.ref f3))) (l3 : K.lookup f3 = some ⟨oc3, od3, .func (PySem.W.fnOf "_law_guards" "_law_guards" (defArgs sz_law_guards) (defBody sz_law_guards) (defScope sz_law_guards) .none kV3 dc3 pm3 an3 cd3 ct3), sl3⟩) (c3 : PySem.W.codeIn K cd3 "_law_guards" = true) (k3 : PySem.W.keepIn K (.ref f3) = true)
  (a4 : PySem.W.nsIn K mainGlobals "_law_links" = some (some (.ref f4))) (l4 : K.lookup f4 = some ⟨oc4, od4, .func (PySem.W.fnOf "_law_links" "_law_links" (defArgs sz_law_links) (defBody sz_law_links) (defScope sz_law_links) .none kV4 dc4 pm4 an4 cd4 ct4), sl4⟩) (c4 : PySem.W.codeIn K cd4 "_law_links" = true) (k4 : PySem.W.keepIn K (.ref f4) = true)
  (a5 : PySem.W.nsIn K mainGlobals "_law_odd" = some (some (.ref f5))) (l5 : K.lookup f5 = some ⟨oc5, od5, .func (PySem.W.fnOf "_law_odd" "_law_odd" (defArgs sz_law_odd) (defBody sz_law_odd) (defScope sz_law_odd) .none kV5 dc5 pm5 an5 cd5 ct5), sl5⟩) (c5 : PySem.W.codeIn K cd5 "_law_odd" = true) (k5 : PySem.W.keepIn K (.ref f5) = true)
  (a6 : PySem.W.nsIn K mainGlobals "_law_spoilt" = some (some (.ref f6))) (l6 : K.lookup f6 = some ⟨oc6, od6, .func (PySem.W.fnOf "_law_spoilt" "_law_spoilt" (defArgs sz_law_spoilt) (defBody sz_law_spoilt) (defScope sz_law_spoilt) .none kV6 dc6 pm6 an6 cd6 ct6), sl6⟩) (c6 : PySem.W.codeIn K cd6 "_law_spoilt" = true) (k6 : PySem.W.keepIn K (.ref f6) = true)
  (a7 : PySem.W.nsIn K mainGlobals "is_too_long" = some (some (.ref f7))) (l7 : K.lookup f7 = some ⟨oc7, od7, .func (PySem.W.fnOf "is_too_long" "is_too_long" (defArgs szis_too_long) (defBody szis_too_long) (defScope szis_too_long) .none kV7 dc7 pm7 an7 cd7 ct7), sl7⟩) (c7 : PySem.W.codeIn K cd7 "is_too_long" = true) (k7 : PySem.W.keepIn K (.ref f7) = true)
  (a8 : PySem.W.nsIn K mainGlobals "is_letter" = some (some (.ref f8))) (l8 : K.lookup f8 = some ⟨oc8, od8, .func (PySem.W.fnOf "is_letter" "is_letter" (defArgs szis_letter) (defBody szis_letter) (defScope szis_letter) .none kV8 dc8 pm8 an8 cd8 ct8), sl8⟩) (c8 : PySem.W.codeIn K cd8 "is_letter" = true) (k8 : PySem.W.keepIn K (.ref f8) = true)
  (a9 : PySem.W.nsIn K mainGlobals "is_word" = some (some (.ref f9))) (l9 : K.lookup f9 = some ⟨oc9, od9, .func (PySem.W.fnOf "is_word" "is_word" (defArgs szis_word) (defBody szis_word) (defScope szis_word) .none kV9 dc9 pm9 an9 cd9 ct9), sl9⟩) (c9 : PySem.W.codeIn K cd9 "is_word" = true) (k9 : PySem.W.keepIn K (.ref f9) = true)
  (a10 : PySem.W.nsIn K mainGlobals "is_place" = some (some (.ref f10))) (l10 : K.lookup f10 = some ⟨oc10, od10, .func (PySem.W.fnOf "is_place" "is_place" (defArgs szis_place) (defBody szis_place) (defScope szis_place) .none kV10 dc10 pm10 an10 cd10 ct10), sl10⟩) (c10 : PySem.W.codeIn K cd10 "is_place" = true) (k10 : PySem.W.keepIn K (.ref f10) = true)
  (a11 : PySem.W.nsIn K mainGlobals "is_guard" = some (some (.ref f11))) (l11 : K.lookup f11 = some ⟨oc11, od11, .func (PySem.W.fnOf "is_guard" "is_guard" (defArgs szis_guard) (defBody szis_guard) (defScope szis_guard) .none kV11 dc11 pm11 an11 cd11 ct11), sl11⟩) (c11 : PySem.W.codeIn K cd11 "is_guard" = true) (k11 : PySem.W.keepIn K (.ref f11) = true)
  (a12 : PySem.W.nsIn K mainGlobals "are_guards" = some (some (.ref f12))) (l12 : K.lookup f12 = some ⟨oc12, od12, .func (PySem.W.fnOf "are_guards" "are_guards" (defArgs szare_guards) (defBody szare_guards) (defScope szare_guards) .none kV12 dc12 pm12 an12 cd12 ct12), sl12⟩) (c12 : PySem.W.codeIn K cd12 "are_guards" = true) (k12 : PySem.W.keepIn K (.ref f12) = true)
  (a13 : PySem.W.nsIn K mainGlobals "is_way" = some (some (.ref f13))) (l13 : K.lookup f13 = some ⟨oc13, od13, .func (PySem.W.fnOf "is_way" "is_way" (defArgs szis_way) (defBody szis_way) (defScope szis_way) .none kV13 dc13 pm13 an13 cd13 ct13), sl13⟩) (c13 : PySem.W.codeIn K cd13 "is_way" = true) (k13 : PySem.W.keepIn K (.ref f13) = true)
  (a14 : PySem.W.nsIn K mainGlobals "is_step" = some (some (.ref f14))) (l14 : K.lookup f14 = some ⟨oc14, od14, .func (PySem.W.fnOf "is_step" "is_step" (defArgs szis_step) (defBody szis_step) (defScope szis_step) .none kV14 dc14 pm14 an14 cd14 ct14), sl14⟩) (c14 : PySem.W.codeIn K cd14 "is_step" = true) (k14 : PySem.W.keepIn K (.ref f14) = true)
  (a15 : PySem.W.nsIn K mainGlobals "are_steps" = some (some (.ref f15))) (l15 : K.lookup f15 = some ⟨oc15, od15, .func (PySem.W.fnOf "are_steps" "are_steps" (defArgs szare_steps) (defBody szare_steps) (defScope szare_steps) .none kV15 dc15 pm15 an15 cd15 ct15), sl15⟩) (c15 : PySem.W.codeIn K cd15 "are_steps" = true) (k15 : PySem.W.keepIn K (.ref f15) = true)
  (a16 : PySem.W.nsIn K mainGlobals "is_link" = some (some (.ref f16))) (l16 : K.lookup f16 = some ⟨oc16, od16, .func (PySem.W.fnOf "is_link" "is_link" (defArgs szis_link) (defBody szis_link) (defScope szis_link) .none kV16 dc16 pm16 an16 cd16 ct16), sl16⟩) (c16 : PySem.W.codeIn K cd16 "is_link" = true) (k16 : PySem.W.keepIn K (.ref f16) = true)
  (a17 : PySem.W.nsIn K mainGlobals "are_links" = some (some (.ref f17))) (l17 : K.lookup f17 = some ⟨oc17, od17, .func (PySem.W.fnOf "are_links" "are_links" (defArgs szare_links) (defBody szare_links) (defScope szare_links) .none kV17 dc17 pm17 an17 cd17 ct17), sl17⟩) (c17 : PySem.W.codeIn K cd17 "are_links" = true) (k17 : PySem.W.keepIn K (.ref f17) = true)
  (a18 : PySem.W.nsIn K mainGlobals "_law_is_word" = some (some (.ref f18))) (l18 : K.lookup f18 = some ⟨oc18, od18, .func (PySem.W.fnOf "_law_is_word" "_law_is_word" (defArgs sz_law_is_word) (defBody sz_law_is_word) (defScope sz_law_is_word) .none kV18 dc18 pm18 an18 cd18 ct18), sl18⟩) (c18 : PySem.W.codeIn K cd18 "_law_is_word" = true) (k18 : PySem.W.keepIn K (.ref f18) = true)
  (a19 : PySem.W.nsIn K mainGlobals "_law_is_place" = some (some (.ref f19))) (l19 : K.lookup f19 = some ⟨oc19, od19, .func (PySem.W.fnOf "_law_is_place" "_law_is_place" (defArgs sz_law_is_place) (defBody sz_law_is_place) (defScope sz_law_is_place) .none kV19 dc19 pm19 an19 cd19 ct19), sl19⟩) (c19 : PySem.W.codeIn K cd19 "_law_is_place" = true) (k19 : PySem.W.keepIn K (.ref f19) = true)
  (a20 : PySem.W.nsIn K mainGlobals "_law_is_guard" = some (some (.ref f20))) (l20 : K.lookup f20 = some ⟨oc20, od20, .func (PySem.W.fnOf "_law_is_guard" "_law_is_guard" (defArgs sz_law_is_guard) (defBody sz_law_is_guard) (defScope sz_law_is_guard) .none kV20 dc20 pm20 an20 cd20 ct20), sl20⟩) (c20 : PySem.W.codeIn K cd20 "_law_is_guard" = true) (k20 : PySem.W.keepIn K (.ref f20) = true)
  (a21 : PySem.W.nsIn K mainGlobals "_law_is_link" = some (some (.ref f21))) (l21 : K.lookup f21 = some ⟨oc21, od21, .func (PySem.W.fnOf "_law_is_link" "_law_is_link" (defArgs sz_law_is_link) (defBody sz_law_is_link) (defScope sz_law_is_link) .none kV21 dc21 pm21 an21 cd21 ct21), sl21⟩) (c21 : PySem.W.codeIn K cd21 "_law_is_link" = true) (k21 : PySem.W.keepIn K (.ref f21) = true)
  (a22 : PySem.W.nsIn K mainGlobals "_law_are" = some (some (.ref f22))) (l22 : K.lookup f22 = some ⟨oc22, od22, .func (PySem.W.fnOf "_law_are" "_law_are" (defArgs sz_law_are) (defBody sz_law_are) (defScope sz_law_are) .none kV22 dc22 pm22 an22 cd22 ct22), sl22⟩) (c22 : PySem.W.codeIn K cd22 "_law_are" = true) (k22 : PySem.W.keepIn K (.ref f22) = true)
  (a23 : PySem.W.nsIn K mainGlobals "_law_each" = some (some (.ref f23))) (l23 : K.lookup f23 = some ⟨oc23, od23, .func (PySem.W.fnOf "_law_each" "_law_each" (defArgs sz_law_each) (defBody sz_law_each) (defScope sz_law_each) .none kV23 dc23 pm23 an23 cd23 ct23), sl23⟩) (c23 : PySem.W.codeIn K cd23 "_law_each" = true) (k23 : PySem.W.keepIn K (.ref f23) = true)
  (a24 : PySem.W.nsIn K mainGlobals "_law_told" = some (some (.ref f24))) (l24 : K.lookup f24 = some ⟨oc24, od24, .func (PySem.W.fnOf "_law_told" "_law_told" (defArgs sz_law_told) (defBody sz_law_told) (defScope sz_law_told) .none kV24 dc24 pm24 an24 cd24 ct24), sl24⟩) (c24 : PySem.W.codeIn K cd24 "_law_told" = true) (k24 : PySem.W.keepIn K (.ref f24) = true)
  (a25 : PySem.W.nsIn K mainGlobals "law" = some (some (.ref f25))) (l25 : K.lookup f25 = some ⟨oc25, od25, .func (PySem.W.fnOf "law" "law" (defArgs szlaw) (defBody szlaw) (defScope szlaw) .none kV25 dc25 pm25 an25 cd25 ct25), sl25⟩) (c25 : PySem.W.codeIn K cd25 "law" = true) (k25 : PySem.W.keepIn K (.ref f25) = true)
  (z_all : PySem.W.nsIn K mainGlobals "all" = some none)    (z_bool : PySem.W.nsIn K mainGlobals "bool" = some none)    (z_enumerate : PySem.W.nsIn K mainGlobals "enumerate" = some none)    (z_int : PySem.W.nsIn K mainGlobals "int" = some none)    (z_isinstance : PySem.W.nsIn K mainGlobals "isinstance" = some none)    (z_len : PySem.W.nsIn K mainGlobals "len" = some none)    (z_list : PySem.W.nsIn K mainGlobals "list" = some none)    (z_range : PySem.W.nsIn K mainGlobals "range" = some none)    (z_str : PySem.W.nsIn K mainGlobals "str" = some none)    (z_tuple : PySem.W.nsIn K mainGlobals "tuple" = some none)    {T_GUARD_WORDS : Addr} {d_GUARD_WORDS : Option Addr} {n_GUARD_WORDS : Nat} {s_GUARD_WORDS : Array (Option Value)} {w0_GUARD_WORDS w1_GUARD_WORDS w2_GUARD_WORDS : Tok} (v_GUARD_WORDS : PySem.W.nsIn K mainGlobals "GUARD_WORDS" = some (some (.ref T_GUARD_WORDS))) (u_GUARD_WORDS : K.lookup T_GUARD_WORDS = some ⟨.type "tuple", d_GUARD_WORDS, .seq #[.str "let" w0_GUARD_WORDS, .str "stop" w1_GUARD_WORDS, .str "ask" w2_GUARD_WORDS] n_GUARD_WORDS, s_GUARD_WORDS⟩)    {T_STEPS_THAT_STAY_OR_RISE : Addr} {d_STEPS_THAT_STAY_OR_RISE : Option Addr} {n_STEPS_THAT_STAY_OR_RISE : Nat} {s_STEPS_THAT_STAY_OR_RISE : Array (Option Value)} {w0_STEPS_THAT_STAY_OR_RISE w1_STEPS_THAT_STAY_OR_RISE : Tok} (v_STEPS_THAT_STAY_OR_RISE : PySem.W.nsIn K mainGlobals "STEPS_THAT_STAY_OR_RISE" = some (some (.ref T_STEPS_THAT_STAY_OR_RISE))) (u_STEPS_THAT_STAY_OR_RISE : K.lookup T_STEPS_THAT_STAY_OR_RISE = some ⟨.type "tuple", d_STEPS_THAT_STAY_OR_RISE, .seq #[.str "." w0_STEPS_THAT_STAY_OR_RISE, .str ".." w1_STEPS_THAT_STAY_OR_RISE] n_STEPS_THAT_STAY_OR_RISE, s_STEPS_THAT_STAY_OR_RISE⟩)    {T_STEP_KINDS : Addr} {d_STEP_KINDS : Option Addr} {n_STEP_KINDS : Nat} {s_STEP_KINDS : Array (Option Value)} {w0_STEP_KINDS w1_STEP_KINDS : Tok} (v_STEP_KINDS : PySem.W.nsIn K mainGlobals "STEP_KINDS" = some (some (.ref T_STEP_KINDS))) (u_STEP_KINDS : K.lookup T_STEP_KINDS = some ⟨.type "tuple", d_STEP_KINDS, .seq #[.str "open" w0_STEP_KINDS, .str "replace" w1_STEP_KINDS] n_STEP_KINDS, s_STEP_KINDS⟩)    {t_FURTHEST : Tok} (v_FURTHEST : PySem.W.nsIn K mainGlobals "FURTHEST" = some (some (.int 9 t_FURTHEST)))    {t_MOST_GUARDS : Tok} (v_MOST_GUARDS : PySem.W.nsIn K mainGlobals "MOST_GUARDS" = some (some (.int 8 t_MOST_GUARDS)))    {t_MOST_LETTERS : Tok} (v_MOST_LETTERS : PySem.W.nsIn K mainGlobals "MOST_LETTERS" = some (some (.int 4 t_MOST_LETTERS)))    {t_MOST_LINKS : Tok} (v_MOST_LINKS : PySem.W.nsIn K mainGlobals "MOST_LINKS" = some (some (.int 12 t_MOST_LINKS)))    {t_MOST_STEPS : Tok} (v_MOST_STEPS : PySem.W.nsIn K mainGlobals "MOST_STEPS" = some (some (.int 4 t_MOST_STEPS)))    {t_MOST_WORDS : Tok} (v_MOST_WORDS : PySem.W.nsIn K mainGlobals "MOST_WORDS" = some (some (.int 6 t_MOST_WORDS))) :
  ∃ fd : FuncData, (∀ (s : Shared) (v : Value), BindsTo s fd ⟨[v], []⟩ [("_law_script", v)]) ∧ ∀ base : Heap, K.In base → base.Ns mainGlobals mg → FnOk l.prog w K mg base CX0 8 fa fd ["_law_script"] (spD K Fzlaw) := by
 have e:=hfa.symm.trans (PySem.W.mg_of X G a25)
 cases e
 have b_all:=PySem.W.mg_none_of X G z_all
 have b_bool:=PySem.W.mg_none_of X G z_bool
 have b_enumerate:=PySem.W.mg_none_of X G z_enumerate
 have b_int:=PySem.W.mg_none_of X G z_int
 have b_isinstance:=PySem.W.mg_none_of X G z_isinstance
 have b_len:=PySem.W.mg_none_of X G z_len
 have b_list:=PySem.W.mg_none_of X G z_list
 have b_range:=PySem.W.mg_none_of X G z_range
 have b_str:=PySem.W.mg_none_of X G z_str
 have b_tuple:=PySem.W.mg_none_of X G z_tuple
 have c_FURTHEST:=PySem.W.mg_of X G v_FURTHEST
 have tm_GUARD_WORDS:=PySem.W.mg_of X G v_GUARD_WORDS
 have tg_GUARD_WORDS : TupG K T_GUARD_WORDS ["let", "stop", "ask"] := ⟨⟨_, _, _, u_GUARD_WORDS, rfl, rfl, by show 3 ≤ sizeLine; decide, .cons _ _ (.cons _ _ (.cons _ _ (.nil)))⟩⟩
 have c_MOST_GUARDS:=PySem.W.mg_of X G v_MOST_GUARDS
 have c_MOST_LETTERS:=PySem.W.mg_of X G v_MOST_LETTERS
 have c_MOST_LINKS:=PySem.W.mg_of X G v_MOST_LINKS
 have c_MOST_STEPS:=PySem.W.mg_of X G v_MOST_STEPS
 have c_MOST_WORDS:=PySem.W.mg_of X G v_MOST_WORDS
 have tm_STEPS_THAT_STAY_OR_RISE:=PySem.W.mg_of X G v_STEPS_THAT_STAY_OR_RISE
 have tg_STEPS_THAT_STAY_OR_RISE : TupG K T_STEPS_THAT_STAY_OR_RISE [".", ".."] := ⟨⟨_, _, _, u_STEPS_THAT_STAY_OR_RISE, rfl, rfl, by show 2 ≤ sizeLine; decide, .cons _ _ (.cons _ _ (.nil))⟩⟩
 have tm_STEP_KINDS:=PySem.W.mg_of X G v_STEP_KINDS
 have tg_STEP_KINDS : TupG K T_STEP_KINDS ["open", "replace"] := ⟨⟨_, _, _, u_STEP_KINDS, rfl, rfl, by show 2 ≤ sizeLine; decide, .cons _ _ (.cons _ _ (.nil))⟩⟩
 have F0:=fun_mk (st:=sz_law_cell) l0 c0 k0
 have b0 := F0.binds (ps := ["_law_script", "_law_k"]) fun _ _ _ _ _ _ => by refine us2 ?_; intros; rfl
 have m0:=PySem.W.mg_of X G a0
 have F1:=fun_mk (st:=sz_law_drawn) l1 c1 k1
 have b1 := F1.binds (ps := ["_law_script", "_law_k", "_law_many"]) fun _ _ _ _ _ _ => by refine us3 ?_; intros; rfl
 have m1:=PySem.W.mg_of X G a1
 have F2:=fun_mk (st:=sz_law_place) l2 c2 k2
 have b2 := F2.binds (ps := ["_law_script", "_law_at"]) fun _ _ _ _ _ _ => by refine us2 ?_; intros; rfl
 have m2:=PySem.W.mg_of X G a2
 have F3:=fun_mk (st:=sz_law_guards) l3 c3 k3
 have b3 := F3.binds (ps := ["_law_script", "_law_at"]) fun _ _ _ _ _ _ => by refine us2 ?_; intros; rfl
 have m3:=PySem.W.mg_of X G a3
 have F4:=fun_mk (st:=sz_law_links) l4 c4 k4
 have b4 := F4.binds (ps := ["_law_script", "_law_at"]) fun _ _ _ _ _ _ => by refine us2 ?_; intros; rfl
 have m4:=PySem.W.mg_of X G a4
 have F5:=fun_mk (st:=sz_law_odd) l5 c5 k5
 have b5 := F5.binds (ps := ["_law_number"]) fun _ _ _ _ _ _ => by refine us1 ?_; intros; rfl
 have m5:=PySem.W.mg_of X G a5
 have F6:=fun_mk (st:=sz_law_spoilt) l6 c6 k6
 have b6 := F6.binds (ps := ["_law_thing", "_law_number", "_law_deep"]) fun _ _ _ _ _ _ => by refine us3 ?_; intros; rfl
 have m6:=PySem.W.mg_of X G a6
 have F7:=fun_mk (st:=szis_too_long) l7 c7 k7
 have b7 := F7.binds (ps := ["words"]) fun _ _ _ _ _ _ => by refine us1 ?_; intros; rfl
 have m7:=PySem.W.mg_of X G a7
 have F8:=fun_mk (st:=szis_letter) l8 c8 k8
 have b8 := F8.binds (ps := ["sign"]) fun _ _ _ _ _ _ => by refine us1 ?_; intros; rfl
 have m8:=PySem.W.mg_of X G a8
 have F9:=fun_mk (st:=szis_word) l9 c9 k9
 have b9 := F9.binds (ps := ["thing"]) fun _ _ _ _ _ _ => by refine us1 ?_; intros; rfl
 have m9:=PySem.W.mg_of X G a9
 have F10:=fun_mk (st:=szis_place) l10 c10 k10
 have b10 := F10.binds (ps := ["thing"]) fun _ _ _ _ _ _ => by refine us1 ?_; intros; rfl
 have m10:=PySem.W.mg_of X G a10
 have F11:=fun_mk (st:=szis_guard) l11 c11 k11
 have b11 := F11.binds (ps := ["thing"]) fun _ _ _ _ _ _ => by refine us1 ?_; intros; rfl
 have m11:=PySem.W.mg_of X G a11
 have F12:=fun_mk (st:=szare_guards) l12 c12 k12
 have b12 := F12.binds (ps := ["thing"]) fun _ _ _ _ _ _ => by refine us1 ?_; intros; rfl
 have m12:=PySem.W.mg_of X G a12
 have F13:=fun_mk (st:=szis_way) l13 c13 k13
 have b13 := F13.binds (ps := ["thing"]) fun _ _ _ _ _ _ => by refine us1 ?_; intros; rfl
 have m13:=PySem.W.mg_of X G a13
 have F14:=fun_mk (st:=szis_step) l14 c14 k14
 have b14 := F14.binds (ps := ["thing"]) fun _ _ _ _ _ _ => by refine us1 ?_; intros; rfl
 have m14:=PySem.W.mg_of X G a14
 have F15:=fun_mk (st:=szare_steps) l15 c15 k15
 have b15 := F15.binds (ps := ["thing"]) fun _ _ _ _ _ _ => by refine us1 ?_; intros; rfl
 have m15:=PySem.W.mg_of X G a15
 have F16:=fun_mk (st:=szis_link) l16 c16 k16
 have b16 := F16.binds (ps := ["thing"]) fun _ _ _ _ _ _ => by refine us1 ?_; intros; rfl
 have m16:=PySem.W.mg_of X G a16
 have F17:=fun_mk (st:=szare_links) l17 c17 k17
 have b17 := F17.binds (ps := ["thing"]) fun _ _ _ _ _ _ => by refine us1 ?_; intros; rfl
 have m17:=PySem.W.mg_of X G a17
 have F18:=fun_mk (st:=sz_law_is_word) l18 c18 k18
 have b18 := F18.binds (ps := ["_law_thing"]) fun _ _ _ _ _ _ => by refine us1 ?_; intros; rfl
 have m18:=PySem.W.mg_of X G a18
 have F19:=fun_mk (st:=sz_law_is_place) l19 c19 k19
 have b19 := F19.binds (ps := ["_law_thing"]) fun _ _ _ _ _ _ => by refine us1 ?_; intros; rfl
 have m19:=PySem.W.mg_of X G a19
 have F20:=fun_mk (st:=sz_law_is_guard) l20 c20 k20
 have b20 := F20.binds (ps := ["_law_thing"]) fun _ _ _ _ _ _ => by refine us1 ?_; intros; rfl
 have m20:=PySem.W.mg_of X G a20
 have F21:=fun_mk (st:=sz_law_is_link) l21 c21 k21
 have b21 := F21.binds (ps := ["_law_thing"]) fun _ _ _ _ _ _ => by refine us1 ?_; intros; rfl
 have m21:=PySem.W.mg_of X G a21
 have F22:=fun_mk (st:=sz_law_are) l22 c22 k22
 have b22 := F22.binds (ps := ["_law_way", "_law_thing"]) fun _ _ _ _ _ _ => by refine us2 ?_; intros; rfl
 have m22:=PySem.W.mg_of X G a22
 have F23:=fun_mk (st:=sz_law_each) l23 c23 k23
 have b23 := F23.binds (ps := ["_law_thing"]) fun _ _ _ _ _ _ => by refine us1 ?_; intros; rfl
 have m23:=PySem.W.mg_of X G a23
 have F24:=fun_mk (st:=sz_law_told) l24 c24 k24
 have b24 := F24.binds (ps := ["_law_way", "_law_thing"]) fun _ _ _ _ _ _ => by refine us2 ?_; intros; rfl
 have m24:=PySem.W.mg_of X G a24
 have F25:=fun_mk (st:=szlaw) l25 c25 k25
 have b25 := F25.binds (ps := ["_law_script"]) fun _ _ _ _ _ _ => by refine us1 ?_; intros; rfl
 have m25:=PySem.W.mg_of X G a25
 refine ⟨PySem.W.fnOf "law" "law" (defArgs szlaw) (defBody szlaw) (defScope szlaw) .none kV25 dc25 pm25 an25 cd25 ct25, fun s v => .of_eq rfl, fun base _ _ => ?_⟩
 have h0 : FnAt l.prog w K mg base "_law_cell" 1 Fz_law_cell := okz_law_cell F0 m0 b0 b_len
 have h1 : FnAt l.prog w K mg base "_law_drawn" 2 Fz_law_drawn := okz_law_drawn F1 m1 b1    h0
 have h2 : FnAt l.prog w K mg base "_law_place" 3 Fz_law_place := okz_law_place F2 m2 b2 b_range b_tuple   h1
 have h3 : FnAt l.prog w K mg base "_law_guards" 4 Fz_law_guards := okz_law_guards F3 m3 b3 b_range   h1 h2
 have h4 : FnAt l.prog w K mg base "_law_links" 4 Fz_law_links := okz_law_links F4 m4 b4 b_range b_tuple   h1 h2
 have h5 : FnAt l.prog w K mg base "_law_odd" 1 Fz_law_odd := okz_law_odd F5 m5 b5
 have h6 : FnAt l.prog w K mg base "_law_spoilt" 6 (Fz_law_spoilt 4) := okz_law_spoilt F6 m6 b6 b_int b_isinstance b_len b_list b_str b_tuple   h5 4
 have h7 : FnAt l.prog w K mg base "is_too_long" 1 Fzis_too_long := okzis_too_long F7 m7 b7 b_len c_MOST_WORDS
 have h8 : FnAt l.prog w K mg base "is_letter" 1 Fzis_letter := okzis_letter F8 m8 b8
 have h9 : FnAt l.prog w K mg base "is_word" 2 Fzis_word := okzis_word F9 m9 b9 b_all b_isinstance b_len b_str c_MOST_LETTERS  h8
 have h10 : FnAt l.prog w K mg base "is_place" 3 Fzis_place := okzis_place F10 m10 b10 b_all b_isinstance b_tuple   h7 h9
 have h11 : FnAt l.prog w K mg base "is_guard" 4 Fzis_guard := okzis_guard F11 m11 b11 b_isinstance b_len b_tuple tm_GUARD_WORDS tg_GUARD_WORDS  h10
 have h12 : FnAt l.prog w K mg base "are_guards" 5 Fzare_guards := okzare_guards F12 m12 b12 b_all b_isinstance b_len b_tuple c_MOST_GUARDS  h11
 have h13 : FnAt l.prog w K mg base "is_way" 1 Fzis_way := okzis_way F13 m13 b13 b_bool b_int b_isinstance c_FURTHEST
 have h14 : FnAt l.prog w K mg base "is_step" 3 Fzis_step := okzis_step F14 m14 b14  tm_STEPS_THAT_STAY_OR_RISE tg_STEPS_THAT_STAY_OR_RISE  h9
 have h15 : FnAt l.prog w K mg base "are_steps" 4 Fzare_steps := okzare_steps F15 m15 b15 b_all b_isinstance b_len b_tuple c_MOST_STEPS  h14
 have h16 : FnAt l.prog w K mg base "is_link" 5 Fzis_link := okzis_link F16 m16 b16 b_isinstance b_len b_tuple tm_STEP_KINDS tg_STEP_KINDS  h15 h10 h13 h9
 have h17 : FnAt l.prog w K mg base "are_links" 6 Fzare_links := okzare_links F17 m17 b17 b_all b_isinstance b_len b_tuple c_MOST_LINKS  h16
 have h18 : FnAt l.prog w K mg base "_law_is_word" 1 Fz_law_is_word := okz_law_is_word F18 m18 b18 b_isinstance b_len b_str
 have h19 : FnAt l.prog w K mg base "_law_is_place" 2 Fz_law_is_place := okz_law_is_place F19 m19 b19 b_isinstance b_len b_tuple   h18
 have h20 : FnAt l.prog w K mg base "_law_is_guard" 3 Fz_law_is_guard := okz_law_is_guard F20 m20 b20 b_isinstance b_len b_tuple   h19
 have h21 : FnAt l.prog w K mg base "_law_is_link" 3 Fz_law_is_link := okz_law_is_link F21 m21 b21 b_bool b_int b_isinstance b_len b_tuple   h19 h18
 have h22 : FnAt l.prog w K mg base "_law_are" 4 Fz_law_are := okz_law_are F22 m22 b22 b_isinstance b_len b_tuple   h20 h21 h19
 have h23 : FnAt l.prog w K mg base "_law_each" 5 (Fz_law_each 4) := okz_law_each F23 m23 b23 b_int b_isinstance b_len b_list b_range b_tuple    4
 have h24 : FnAt l.prog w K mg base "_law_told" 7 Fz_law_told := okz_law_told F24 m24 b24    h12 h17 h10
 exact (okzlaw F25 b_bool b_enumerate b_isinstance b_list b_range   h22 h1 h23 h3 h4 h2 h6 h24 h12 h17 h10)
theorem walk {l : PySem.W.OpenLaw} {q : Program} {loose : List Str} {XP : (Str → Option Value) → Heap → Prop} {YP : World → Heap → Prop} {d : DefRec} {K : Params → PySem.W.Frag} (hn : l.most = some 63) (hdf : d.params.defaults = [])
  (hY : ∀ (w : World) (h : Heap), YP w h → (K w.params).In h)
  (F : ∀ (w : World) (mg : Str → Option Value) (fa : Addr) (h : Heap), (K w.params).In h → h.Ns mainGlobals mg → mg d.name = some (.ref fa) →
   ∃ fd : FuncData, (∀ (s : Shared) (u : Value), BindsTo s fd ⟨[u], []⟩ [("_law_script", u)]) ∧ ∀ base : Heap, (K w.params).In base → base.Ns mainGlobals mg → FnOk l.prog w (K w.params) mg base CX0 8 fa fd ["_law_script"] (spD (K w.params) Fzlaw)) :
  PySem.W.WalkO q loose XP YP l.row.toRowW d [] (fun f vs => PySem.call f vs) :=
 L2.walk_of (n := 63) (k := 8) (x := "_law_script") (CX := fun _ => CX0) (sp := fun w => spD (K w.params) Fzlaw) hn (by decide) hdf ⟨rfl, by decide, by decide⟩ hY F (fun _ H a ns hl ho hS => DL.law_sp law_true H a ns hl ho hS) fun _ _ _ _ _ z => z
end K01
noncomputable def PySem.W.Fast.tw6148498323302512570 : Nat:=0
noncomputable def PySem.W.Fast.tw15621415185263527259 : Nat:=0
noncomputable def PySem.W.Fast.tw12887044766017154078 : Nat:=0
noncomputable def PySem.W.Fast.tw7011592973651803492 : Nat:=0
noncomputable def PySem.W.Fast.tw10598544319562925351 : Nat:=0
noncomputable def PySem.W.Fast.tw8297923619242306668 : Nat:=0
noncomputable def PySem.W.Fast.tw861502493610598483 : Nat:=0
noncomputable def PySem.W.Fast.tw1383625962624193546 : Nat:=0
noncomputable def PySem.W.Fast.tw87601786513091389 : Nat:=0
noncomputable def PySem.W.Fast.tw16506471722634982818 : Nat:=0
noncomputable def PySem.W.Fast.tw17710873009340938204 : Nat:=0
noncomputable def PySem.W.Fast.tw3998647374267775353 : Nat:=0
noncomputable def PySem.W.Fast.tw7774113678449685934 : Nat:=0
noncomputable def PySem.W.Fast.tw10058038804481632426 : Nat:=0
noncomputable def PySem.W.Fast.tw6621635546502472408 : Nat:=0
noncomputable def PySem.W.Fast.tw8997383693586321770 : Nat:=0
open PySem PySem.W PyProof.Rows
set_option maxHeartbeats 0
open_top hd for PySem.Challenge.rw_cardplaces_k01_known
theorem PySem.Challenge.cw_cardplaces_k01_known_holds : PySem.Challenge.rw_cardplaces_k01_known.Holds := by
 refine hd ?_
 k_fill
 refine K01.walk (l:=PySem.Challenge.rw_cardplaces_k01_known) rfl rfl (fun w h Y => PySem.W.kIn_of Y) ?F
 case F =>
  intro w mg fa h KX G hmg
  refine' K01.all_mk KX G hmg ?a0 ?l0 ?c0 ?k0 ?a1 ?l1 ?c1 ?k1 ?a2 ?l2 ?c2 ?k2 ?a3 ?l3 ?c3 ?k3 ?a4 ?l4 ?c4 ?k4 ?a5 ?l5 ?c5 ?k5 ?a6 ?l6 ?c6 ?k6 ?a7 ?l7 ?c7 ?k7 ?a8 ?l8 ?c8 ?k8 ?a9 ?l9 ?c9 ?k9 ?a10 ?l10 ?c10 ?k10 ?a11 ?l11 ?c11 ?k11 ?a12 ?l12 ?c12 ?k12 ?a13 ?l13 ?c13 ?k13 ?a14 ?l14 ?c14 ?k14 ?a15 ?l15 ?c15 ?k15 ?a16 ?l16 ?c16 ?k16 ?a17 ?l17 ?c17 ?k17 ?a18 ?l18 ?c18 ?k18 ?a19 ?l19 ?c19 ?k19 ?a20 ?l20 ?c20 ?k20 ?a21 ?l21 ?c21 ?k21 ?a22 ?l22 ?c22 ?k22 ?a23 ?l23 ?c23 ?k23 ?a24 ?l24 ?c24 ?k24 ?a25 ?l25 ?c25 ?k25 ?z_all ?z_bool ?z_enumerate ?z_int ?z_isinstance ?z_len ?z_list ?z_range ?z_str ?z_tuple ?v_GUARD_WORDS ?u_GUARD_WORDS ?v_STEPS_THAT_STAY_OR_RISE ?u_STEPS_THAT_STAY_OR_RISE ?v_STEP_KINDS ?u_STEP_KINDS ?v_FURTHEST ?v_MOST_GUARDS ?v_MOST_LETTERS ?v_MOST_LINKS ?v_MOST_STEPS ?v_MOST_WORDS
  (case a0 => k_is)
  (case l0 => k_is)
  (case c0 => k_is)
  (case k0 => k_is)
  (case a1 => k_is)
  (case l1 => k_is)
  (case c1 => k_is)
  (case k1 => k_is)
  (case a2 => k_is)
  (case l2 => k_is)
  (case c2 => k_is)
  (case k2 => k_is)
  (case a3 => k_is)
  (case l3 => k_is)
  (case c3 => k_is)
  (case k3 => k_is)
  (case a4 => k_is)
  (case l4 => k_is)
  (case c4 => k_is)
  (case k4 => k_is)
  (case a5 => k_is)
  (case l5 => k_is)
  (case c5 => k_is)
  (case k5 => k_is)
  (case a6 => k_is)
  (case l6 => k_is)
  (case c6 => k_is)
  (case k6 => k_is)
  (case a7 => k_is)
  (case l7 => k_is)
  (case c7 => k_is)
  (case k7 => k_is)
  (case a8 => k_is)
  (case l8 => k_is)
  (case c8 => k_is)
  (case k8 => k_is)
  (case a9 => k_is)
  (case l9 => k_is)
  (case c9 => k_is)
  (case k9 => k_is)
  (case a10 => k_is)
  (case l10 => k_is)
  (case c10 => k_is)
  (case k10 => k_is)
  (case a11 => k_is)
  (case l11 => k_is)
  (case c11 => k_is)
  (case k11 => k_is)
  (case a12 => k_is)
  (case l12 => k_is)
  (case c12 => k_is)
  (case k12 => k_is)
  (case a13 => k_is)
  (case l13 => k_is)
  (case c13 => k_is)
  (case k13 => k_is)
  (case a14 => k_is)
  (case l14 => k_is)
  (case c14 => k_is)
  (case k14 => k_is)
  (case a15 => k_is)
  (case l15 => k_is)
  (case c15 => k_is)
  (case k15 => k_is)
  (case a16 => k_is)
  (case l16 => k_is)
  (case c16 => k_is)
  (case k16 => k_is)
  (case a17 => k_is)
  (case l17 => k_is)
  (case c17 => k_is)
  (case k17 => k_is)
  (case a18 => k_is)
  (case l18 => k_is)
  (case c18 => k_is)
  (case k18 => k_is)
  (case a19 => k_is)
  (case l19 => k_is)
  (case c19 => k_is)
  (case k19 => k_is)
  (case a20 => k_is)
  (case l20 => k_is)
  (case c20 => k_is)
  (case k20 => k_is)
  (case a21 => k_is)
  (case l21 => k_is)
  (case c21 => k_is)
  (case k21 => k_is)
  (case a22 => k_is)
  (case l22 => k_is)
  (case c22 => k_is)
  (case k22 => k_is)
  (case a23 => k_is)
  (case l23 => k_is)
  (case c23 => k_is)
  (case k23 => k_is)
  (case a24 => k_is)
  (case l24 => k_is)
  (case c24 => k_is)
  (case k24 => k_is)
  (case a25 => k_is)
  (case l25 => k_is)
  (case c25 => k_is)
  (case k25 => k_is)
  (case z_all => k_is)
  (case z_bool => k_is)
  (case z_enumerate => k_is)
  (case z_int => k_is)
  (case z_isinstance => k_is)
  (case z_len => k_is)
  (case z_list => k_is)
  (case z_range => k_is)
  (case z_str => k_is)
  (case z_tuple => k_is)
  (case v_GUARD_WORDS => k_is)
  (case u_GUARD_WORDS => k_is)
  (case v_STEPS_THAT_STAY_OR_RISE => k_is)
  (case u_STEPS_THAT_STAY_OR_RISE => k_is)
  (case v_STEP_KINDS => k_is)
  (case u_STEP_KINDS => k_is)
  (case v_FURTHEST => k_is)
  (case v_MOST_GUARDS => k_is)
  (case v_MOST_LETTERS => k_is)
  (case v_MOST_LINKS => k_is)
  (case v_MOST_STEPS => k_is)
  (case v_MOST_WORDS => k_is)
end
