import PyProof.Rows.All
import Wide.All
import OpenK.AllK
import Wide.FinOn
import Lean
import PyProof.EqAt
import PyProof.EqKinds
import PyProof.TupleCall
import PyProof.NeKinds
import PyProof.CompFree
import PyProof.CompUse
import PyProof.ZipIter
import PyProof.StrWalks
import PyProof.ListRange
import PyProof.ListMulRoad
import KE.KMinBuiltin
import PyProof.Rows.CallKw2
import KE.KSortTup
import PyProof.StrCalls2
import PyProof.StrLawsChain
import PyProof.StrLawsTight
import PyProof.Rows.StrItems
import KE.KxAffix
import KE.KRevSl
import PyProof.Rows.SetFrom
import PyProof.FactsAll.set_1
import PyProof.FactsAll.set_2
import PyProof.CollectWalk
import PyProof.AttrMissHeap
import KE.KDictOf
import PyProof.Rows.TupMore
import KE.KRevIter
import PyProof.Cells
import PyProof.StrBlock
import PyProof.PureStr
import PyProof.CallStr
import PyProof.AutoIntOps
import PySem.Challenge.RW_cardplaces_k52_ways
set_option Elab.async false
set_option linter.all false
set_option maxRecDepth 100000
namespace L2
open PySem PySem.Spec PyProof.Rows
noncomputable abbrev Key:=Sum Int Str
noncomputable def Q2:Key→Value→Bool
 | .inl k,v=>Value.isInt k v
 | .inr x,v=>Value.isStrOf x v
noncomputable def Zj9 (w:World):Key→Int
 | .inl k=>hashInt k
 | .inr x=>hashStr w x
theorem Wi:∀ {k:Key} {v:Value},Q2 k v=true→(∃ i t,k=Sum.inl i∧v=Value.int i t)∨(∃ x t,k=Sum.inr x∧v=Value.str x t)
 | .inl i,v,h=>by
  obtain ⟨t,e⟩:=Value.isInt_shape (k:=i) (v:=v) h
  exact .inl ⟨i,t,rfl,e⟩
 | .inr x,v,h=>by
  obtain ⟨t,e⟩:=Value.isStrOf_shape (x:=x) (v:=v) h
  exact .inr ⟨x,t,rfl,e⟩
theorem Zmw (i:Int) (t:Tok):Q2 (.inl i) (.int i t)=true:=by simp [Q2,Value.isInt]
theorem Znk (x:Str) (t:Tok):Q2 (.inr x) (.str x t)=true:=by simp [Q2,Value.isStrOf]
theorem Zng (a b:Int):decide ((Sum.inl a:Key)=Sum.inl b)=(a == b):=by
 by_cases e:a=b
 ·subst e; simp
 ·have h:¬ (Sum.inl a:Key)=Sum.inl b:=fun q=>e (Sum.inl.inj q)
  rw [decide_eq_false h]
  exact (beq_eq_false_iff_ne.mpr e).symm
theorem Zjp (a b:Str):decide ((Sum.inr a:Key)=Sum.inr b)=decide (a=b):=by
 by_cases e:a=b
 ·subst e; simp
 ·have h:¬ (Sum.inr a:Key)=Sum.inr b:=fun q=>e (Sum.inr.inj q)
  rw [decide_eq_false h,decide_eq_false e]
theorem Zib (a:Int) (b:Str):decide ((Sum.inl a:Key)=Sum.inr b)=false:=decide_eq_false (fun q=>nomatch q)
theorem Zh1 (a:Str) (b:Int):decide ((Sum.inr a:Key)=Sum.inl b)=false:=decide_eq_false (fun q=>nomatch q)
noncomputable def Yr (prog:Program) (w:World):PySem.KeyKind prog w Key where
 is:=Q2
 hash:=Zj9 w
 inj:=fun v a b ha hb=>by
  rcases Wi ha with ⟨i,t,rfl,rfl⟩ | ⟨x,t,rfl,rfl⟩
  ·rcases Wi hb with ⟨j,u,rfl,e⟩ | ⟨y,u,rfl,e⟩
   ·injection e with e1 _; rw [e1]
   ·exact nomatch e
  ·rcases Wi hb with ⟨j,u,rfl,e⟩ | ⟨y,u,rfl,e⟩
   ·exact nomatch e
   ·injection e with e1 _; rw [e1]
 byValue:=fun k v h=>by
  rcases Wi h with ⟨i,t,rfl,rfl⟩ | ⟨x,t,rfl,rfl⟩ <;> rfl
 pyHash:=fun hv h=>by
  rcases Wi hv with ⟨i,t,rfl,rfl⟩ | ⟨x,t,rfl,rfl⟩
  ·exact wpAny_pyHash_int h
  ·exact wpAny_pyHash_str h
 eqBool:=fun hu hv h=>by
  rcases Wi hu with ⟨i,t,rfl,rfl⟩ | ⟨x,t,rfl,rfl⟩
  ·rcases Wi hv with ⟨j,u,rfl,rfl⟩ | ⟨y,u,rfl,rfl⟩
   ·rw [Zng] at h; exact wpAny_eqBool_int h
   ·rw [Zib] at h; exact SeqAt.EqAt.int_str i t y u _ _ _ _ h
  ·rcases Wi hv with ⟨j,u,rfl,rfl⟩ | ⟨y,u,rfl,rfl⟩
   ·rw [Zh1] at h; exact SeqAt.EqAt.str_int x t j u _ _ _ _ h
   ·rw [Zjp] at h; exact wpAny_eqBool_str h
 «strs»:=fun k x t v h=>by
  rcases Wi h with ⟨i,u,rfl,e⟩ | ⟨y,u,rfl,e⟩
  ·exact nomatch e
  ·injection e with e1 _
   subst e1
   cases v <;> rfl
theorem Zm4 (prog:Program) (w:World) (i:Int) (t:Tok):(Yr prog w).is (.inl i) (.int i t)=true:=Zmw i t
theorem ZkJ (prog:Program) (w:World) (x:Str) (t:Tok):(Yr prog w).is (.inr x) (.str x t)=true:=Znk x t
end L2
namespace L2
open PySem PySem.Spec PyProof.Rows
inductive V where
 | non | bl (b:Bool) | int (i:Int) | str (x:Str) | byt (b:Array UInt8) | flt (b:UInt64) | ref (a:Addr) | ty (n:String)
 deriving DecidableEq
noncomputable def RelV:V→Value→Prop
 | .non,u=>u=Value.none
 | .bl b,u=>u=Value.bool b
 | .int i,u => ∃ t,u=Value.int i t
 | .str x,u => ∃ t,u=Value.str x t
 | .byt b,u => ∃ t,u=Value.bytes b t
 | .flt b,u => ∃ t,u=Value.float b t
 | .ref a,u=>u=Value.ref a
 | .ty n,u=>u=Value.type n
noncomputable abbrev Vals:List V→List Value→Prop:=Paired RelV
theorem Vals.length {xs:List V} {us:List Value} (r:Vals xs us):xs.length=us.length:=Paired.length r
theorem Vals.get:∀ {xs:List V} {us:List Value} {i:Nat} {x:V},Vals xs us→xs[i]?=some x→∃ u,us[i]?=some u∧RelV x u
 | _,_,_,_,.nil,e=>by simp at e
 | _,_,0,_,.cons r _,e=>by simp at e; subst e; exact ⟨_,rfl,r⟩
 | _,_,i+1,x,.cons _ t,e=>by
  obtain ⟨u,h1,h2⟩:=Vals.get (i:=i) (x:=x) t (by simpa using e)
  exact ⟨u,by simpa using h1,h2⟩
theorem Vals.append:∀ {xs ys:List V} {us ws:List Value},Vals xs us→Vals ys ws→Vals (xs++ys) (us++ws)
 | _,_,_,_,.nil,s=>s
 | _,_,_,_,.cons r t,s => .cons r (Vals.append t s)
theorem Vals.take:∀ {xs:List V} {us:List Value} (n:Nat),Vals xs us→Vals (xs.take n) (us.take n)
 | _,_,0,_ => .nil
 | _,_,_+1,.nil => .nil
 | _,_,n+1,.cons r t => .cons r (Vals.take n t)
theorem Vals.drop:∀ {xs:List V} {us:List Value} (n:Nat),Vals xs us→Vals (xs.drop n) (us.drop n)
 | _,_,0,r=>r
 | _,_,_+1,.nil => .nil
 | _,_,n+1,.cons _ t=>Vals.drop n t
noncomputable def RelO:Option V→Option Value→Prop
 | some v,some u=>RelV v u
 | none,none=>True
 | _,_=>False
noncomputable def KV {κ:Type}:List (κ×V)→List (κ×Value)→Prop:=Paired fun (p:κ×V) (q:κ×Value)=>p.1=q.1∧RelV p.2 q.2
noncomputable def kV:Key→V
 | .inl i => .int i
 | .inr x => .str x
inductive HO where
 /-- a list -/
 | lst (xs:List V)
 /-- a tuple (never changes) -/
 | tup (xs:List V)
 /-- a dict whose keys are ints and texts; one whose keys are tuples of ints and texts (the empty one is both) -/
 | dK (kvs:List (Key×V)) | dT (kvs:List (List Key×V))
 /-- a set of ints: its members, its size -/
 | set (S:Int→Bool) (n:Nat)
 /-- an instance of the class at C, its dict at dx, its attributes -/
 | ins (C dx:Addr) (fs:List (Str×V))
 /-- the dict of the instance at x -/
 | own (x:Addr)
 /-- the dict of an exception -/
 | xd (fs:List (Str×V))
 /-- a bound method, f of x -/
 | met (f x:Addr)
 /-- a range object lo, lo + 1, .. below hi -/
 | rng (lo hi:Int)
 /-- a thing that is known to the object (the script; a dict while a loop walks it): read, never written while it is so -/
 | frz (o:Obj) (u:HO)
 /-- a code object's table -/
 | tbl (ps:Array Value)
 /-- any other thing, by what is true of its one object (a def of one's own: SetO a S n:=HO.ext fun h => ..) -/
 | ext (φ:Heap→Prop)
noncomputable abbrev Hp:=Addr→Option HO
noncomputable def upd (H:Hp) (a:Addr) (o:HO):Hp:=fun b=>if b=a then some o else H b
theorem YR {H:Hp} {a:Addr} {o:HO}:upd H a o a=some o:=by unfold upd; rw [if_pos rfl]
theorem Zt {H:Hp} {a b:Addr} {o:HO} (h:b≠a):upd H a o b=H b:=by unfold upd; rw [if_neg h]
theorem ne_of {H:Hp} {a b:Addr} {o u:HO} (h:H a=some o) (h':H b=some u) (d:o≠u):a≠b:=by
 intro e; subst e; rw [h] at h'; exact d (Option.some.inj h')
theorem Yt {H:Hp} {a b:Addr} {o:HO} (h:H a=some o) (h':H b=none):a≠b:=by
 intro e; subst e; rw [h] at h'; cases h'
section
variable (P:Program) (w:World)
noncomputable def ObjOk (H:Hp) (h:Heap) (a:Addr):HO→Prop
 | .lst xs => xs.length ≤ sizeLine ∧ ∃ (its : List Value) (n : Nat), Vals xs its ∧ h.get? a = some { cls := .type "list", data := .seq its.toArray n }
 | .tup xs=>xs.length≤sizeLine∧∃ its:List Value,Vals xs its∧IsTup h a its.toArray∧∀ o,h.get? a=some o→o.dict=none
 | .dK kvs=>kvs.length≤sizeLine∧(a == sysModules)=false∧∃ vs,KV kvs vs∧h.DictOf (Yr P w) a vs
 | .dT kvs=>kvs.length≤sizeLine∧(a == sysModules)=false∧∃ xs:List (List Key×Addr×Value),
   Paired (fun (p:List Key×V) (q:List Key×Addr×Value)=>p.1=q.1∧H q.2.1=some (.tup (p.1.map kV))∧RelV p.2 q.2.2) kvs xs ∧
   ∃ o es ep,h.get? a=some o∧o.ExactDict∧o.data = .dict es ep∧es.toList=xs.map (entryOfKey (tupleKind (Yr P w)))∧(xs.map (·.1)).Nodup
 | .set S n=>h.SetOf (intKind P w) a S n
 | .ins C dx fs=>H dx=some (.own a)∧fs.length≤1000∧dx≠a∧h.get? a=some (PySem.W.instObj C dx) ∧
   ∃ mA,h.Ns1 dx mA∧(∀ f,RelO (fs.lookup f) (mA f))∧PySem.Within mA (fs.map (·.1))
 | .own _ => ∃ o,h.get? a=some o
 | .xd fs => ∃ mA,h.Ns1 a mA∧∀ f,RelO (fs.lookup f) (mA f)
 | .rng lo hi => ∃ t u v, h.get? a = some { cls := .type "range", data := .fields #[.int lo t, .int hi u, .int 1 v] }
 | .frz o u=>h.get? a=some o∧ObjOk H h a u
 | .tbl ps=>h.get? a=some { cls:=.none,data:=.fields ps }
 | .met f x=>h.get? a=some (PySem.W.methodObj (.ref f) (.ref x))
 | .ext φ=>φ h∧(∃ o,h.get? a=some o)∧∀ h1 h2:Heap,φ h1→(∀ o,h1.get? a=some o→h2.get? a=some o)→φ h2
noncomputable def HOk (H:Hp) (h:Heap):Prop:=∀ a o,H a=some o→ObjOk P w H h a o
end
section
variable {P:Program} {w:World} {H H':Hp} {h h':Heap} {a:Addr} {o:HO}
theorem ObjOk.lt (x:ObjOk P w H h a o):a<h.objs.size:=by
 cases o with
 | lst xs=>obtain ⟨_,_,_,_,e⟩:=x; exact Heap.lt_size e
 | tup xs=>obtain ⟨_,_,_,p,_⟩:=x; exact p.lt
 | dK kvs=>obtain ⟨_,_,_,_,o,_,_,e,_⟩:=x; exact Heap.lt_size e
 | dT kvs=>obtain ⟨_,_,_,_,o,_,_,e,_⟩:=x; exact Heap.lt_size e
 | set S n=>obtain ⟨o,_,_,_,e,_⟩:=x; exact Heap.lt_size e
 | ins C dx fs=>obtain ⟨_,_,_,e,_⟩:=x; exact Heap.lt_size e
 | own y=>obtain ⟨_,e⟩:=x; exact Heap.lt_size e
 | xd fs=>obtain ⟨_,⟨_,_,_,e,_⟩,_⟩:=x; exact Heap.lt_size e
 | rng lo hi=>obtain ⟨_,_,_,e⟩:=x; exact Heap.lt_size e
 | frz ob u=>obtain ⟨e,_⟩:=x; exact Heap.lt_size e
 | tbl ps=>exact Heap.lt_size (show h.get? a=some _ from x)
 | met f y=>exact Heap.lt_size (show h.get? a=some _ from x)
 | ext φ=>obtain ⟨_,⟨_,e⟩,_⟩:=x; exact Heap.lt_size e
theorem Paired.mapP {α β:Type} {F G:α→β→Prop}:∀ {l₁:List α} {l₂:List β},Paired F l₁ l₂→(∀ a b,F a b→G a b)→Paired G l₁ l₂
 | _,_,.nil,_ => .nil
 | _,_,.cons r t,f => .cons (f _ _ r) (Paired.mapP t f)
theorem ObjOk.stay (x:ObjOk P w H h a o) (k:∀ b u,(b=a∨H b=some (.own a))→h.get? b=some u→h'.get? b=some u)
  (ho:∀ b,H b=some (.own a)→H' b=some (.own a)) (ht:∀ b xs,H b=some (.tup xs)→H' b=some (.tup xs)):ObjOk P w H' h' a o:=by
 induction o with
 | lst xs=>obtain ⟨z,its,n,r,e⟩:=x; exact ⟨z,its,n,r,k _ _ (.inl rfl) e⟩
 | tup xs=>obtain ⟨z,its,r,⟨ob,e,c⟩,dn⟩:=x; exact ⟨z,its,r,⟨ob,k _ _ (.inl rfl) e,c⟩,fun o2 e2=>by rw [k _ _ (.inl rfl) e] at e2; cases e2; exact dn _ e⟩
 | dK kvs=>obtain ⟨z,y,vs,r,ob,es,ep,e,c⟩:=x; exact ⟨z,y,vs,r,ob,es,ep,k _ _ (.inl rfl) e,c⟩
 | dT kvs =>
  obtain ⟨z,y,xs,r,ob,es,ep,e,c⟩:=x
  exact ⟨z,y,xs,Paired.mapP r fun p q z=>⟨z.1,ht _ _ z.2.1,z.2.2⟩,ob,es,ep,k _ _ (.inl rfl) e,c⟩
 | set S n=>obtain ⟨ob,es,ep,t,e,c⟩:=x; exact ⟨ob,es,ep,t,k _ _ (.inl rfl) e,c⟩
 | ins C dx fs =>
  obtain ⟨d,z,ne,e,mA,⟨od,es,ep,e2,c⟩,r⟩:=x
  exact ⟨ho _ d,z,ne,k _ _ (.inl rfl) e,mA,⟨od,es,ep,k _ _ (.inr d) e2,c⟩,r⟩
 | own y=>obtain ⟨ob,e⟩:=x; exact ⟨ob,k _ _ (.inl rfl) e⟩
 | xd fs=>obtain ⟨mA,⟨od,es,ep,e,c⟩,r⟩:=x; exact ⟨mA,⟨od,es,ep,k _ _ (.inl rfl) e,c⟩,r⟩
 | rng lo hi=>obtain ⟨t,u,v,e⟩:=x; exact ⟨t,u,v,k _ _ (.inl rfl) e⟩
 | frz ob u ih=>obtain ⟨e,q⟩:=x; exact ⟨k _ _ (.inl rfl) e,ih q⟩
 | tbl ps =>
  have e:h.get? a=some { cls:=.none,data:=.fields ps }:=x
  show h'.get? a=some { cls:=.none,data:=.fields ps }
  exact k a _ (.inl rfl) e
 | met f y =>
  have e:h.get? a=some (PySem.W.methodObj (.ref f) (.ref y)):=x
  show h'.get? a=some (PySem.W.methodObj (.ref f) (.ref y))
  exact k a _ (.inl rfl) e
 | ext φ=>obtain ⟨p,⟨o,e⟩,st⟩:=x; exact ⟨st _ _ p fun o q=>k _ _ (.inl rfl) q,⟨o,k _ _ (.inl rfl) e⟩,st⟩
theorem HOk.lt (x:HOk P w H h) (e:H a=some o):a<h.objs.size:=(x a o e).lt
theorem HOk.fresh (x:HOk P w H h) (e:h.objs.size≤a):H a=none:=by
 cases q:H a with
 | none=>rfl
 | some u=>exact absurd (Nat.lt_of_lt_of_le (x.lt q) e) (Nat.lt_irrefl _)
theorem HOk.kept (x:HOk P w H h) (k:∀ b u,h.get? b=some u→h'.get? b=some u):HOk P w H h':=fun a o e =>
 (x a o e).stay (fun b u _ q=>k b u q) (fun _ q=>q) fun _ _ q=>q
theorem HOk.laid (x:HOk P w H h) (k:∀ b u,h.get? b=some u→h'.get? b=some u) (hp:h.objs.size≤a) (new:ObjOk P w (upd H a o) h' a o):HOk P w (upd H a o) h':=fun b u e=>by
 have hn:=x.fresh hp
 by_cases hb:b=a
 ·subst hb; rw [YR] at e; cases e; exact new
 ·rw [Zt hb] at e
  exact (x b u e).stay (fun c v _ q=>k c v q) (fun c q=>by rw [Zt (Yt q hn)]; exact q) fun c xs q=>by rw [Zt (Yt q hn)]; exact q
end
noncomputable def Rd (H:Hp) (a:Addr) (u:HO):Prop:=H a=some u∨∃ o,H a=some (.frz o u)
theorem Rd.of {H:Hp} {a:Addr} {u:HO} (h:H a=some u):Rd H a u:=.inl h
theorem Rd.ok {P:Program} {w:World} {H:Hp} {h:Heap} {a:Addr} {u:HO} (r:Rd H a u) (x:HOk P w H h):ObjOk P w H h a u:=by
 rcases r with r | ⟨o,r⟩
 ·exact x a u r
 ·obtain ⟨_,q⟩:=x a _ r
  exact q
noncomputable def Mut:Option HO→Prop
 | some (.lst _)=>True
 | some (.dK _)=>True
 | some (.dT _)=>True
 | some (.set _ _)=>True
 | some (.ins _ _ _)=>True
 | some (.ext _)=>True
 | _=>False
section
variable {P:Program} {w:World} {H:Hp} {h h':Heap} {x e:Addr} {o':HO}
theorem HOk.write (ok:HOk P w H h) (mu:Mut (H x)) (he:e=x∨H e=some (.own x)) (k:∀ b u,b≠e→h.get? b=some u→h'.get? b=some u) (heo:∃ u,h'.get? e=some u)
  (new:ObjOk P w (upd H x o') h' x o'):HOk P w (upd H x o') h':=fun b u q=>by
 have nown:∀ c y,H c=some (.own y)→c≠x:=fun c y r z=>by subst z; rw [r] at mu; exact mu
 have ntup:∀ c xs,H c=some (.tup xs)→c≠x:=fun c xs r z=>by subst z; rw [r] at mu; exact mu
 by_cases hb:b=x
 ·subst hb; rw [YR] at q; cases q; exact new
 ·rw [Zt hb] at q
  by_cases hbe:b=e
  ·have q':H b=some (.own x):=by
    rcases he with z | z
    ·exact absurd (hbe.trans z) hb
    ·rw [hbe]; exact z
   rw [q] at q'; cases q'
   obtain ⟨v,hv⟩:=heo
   exact ⟨v,by rw [hbe]; exact hv⟩
  ·refine (ok b u q).stay (fun c v hc r=>k c v ?_ r) (fun c r=>by rw [Zt (nown c b r)]; exact r) fun c xs r=>by rw [Zt (ntup c xs r)]; exact r
   rcases hc with rfl | hc
   ·exact hbe
   ·rintro rfl
    rcases he with z | z
    ·exact nown c b hc z
    ·rw [hc] at z; cases z; exact hb rfl
end
structure Un (fs ex:List Addr) (H H':Hp) (h h':Heap):Prop where
 keep:∀ b o,h.get? b=some o→H b=none→b ∉ fs→b ∉ ex→h'.get? b=some o
 slot:∀ b o,h.get? b=some o→H b=none→b∈fs→b ∉ ex→∃ sl,h'.get? b=some { o with slots:=sl }
 free:∀ b o,h.get? b=some o→H b=none→b ∉ ex→H' b=none
 there:∀ b o,h.get? b=some o→b ∉ ex→∃ o',h'.get? b=some o'
 tups:∀ b xs,H b=some (.tup xs)→H' b=some (.tup xs)
 frzs:∀ b o u,H b=some (.frz o u)→H' b=some (.frz o u)
 tbls:∀ b ps,H b=some (.tbl ps)→∃ more,H' b=some (.tbl (ps++more))
section
variable {fs fs' ex ex':List Addr} {H H1 H2:Hp} {h h1 h2 h':Heap} {a x e:Addr} {o:HO}
theorem Un.any (u:Un fs ex H H1 h h1) {b:Addr} {ob:Obj} (q:h.get? b=some ob) (n:H b=none) (hx:b ∉ ex):∃ sl,h1.get? b=some { ob with slots:=sl }:=by
 by_cases hb:b∈fs
 ·exact u.slot b ob q n hb hx
 ·exact ⟨ob.slots,u.keep b ob q n hb hx⟩
theorem Un.kept (k:∀ b u,h.get? b=some u→h'.get? b=some u):Un fs ex H H h h' :=
 ⟨fun b ob q _ _ _=>k b ob q,fun b ob q _ _ _=>⟨ob.slots,k b ob q⟩,fun _ _ _ n _=>n,fun b ob q _=>⟨ob,k b ob q⟩,fun _ _ q=>q,fun _ _ _ q=>q,fun _ ps q=>⟨#[],by rw [q]; simp⟩⟩
theorem Un.refl:Un fs ex H H h h:=Un.kept fun _ _ q=>q
theorem Un.laid (k:∀ b u,h.get? b=some u→h'.get? b=some u) (hp:h.objs.size≤a) (hn:H a=none):Un fs ex H (upd H a o) h h' where
 keep:=fun b u q _ _ _=>k b u q
 slot:=fun b u q _ _ _=>⟨u.slots,k b u q⟩
 free:=fun b u q n _=>by rw [Zt (Nat.ne_of_lt (Nat.lt_of_lt_of_le (Heap.lt_size q) hp))]; exact n
 there:=fun b u q _=>⟨u,k b u q⟩
 tups:=fun b xs q=>by rw [Zt (Yt q hn)]; exact q
 frzs:=fun b u xs q=>by rw [Zt (Yt q hn)]; exact q
 tbls:=fun b ps q=>⟨#[],by rw [Zt (Yt q hn),q]; simp⟩
theorem Un.write (mu:Mut (H x)) (he:e=x∨H e=some (.own x)) (k:∀ b u,b≠e→h.get? b=some u→h'.get? b=some u) (heo:∃ u,h'.get? e=some u):Un fs ex H (upd H x o) h h':=by
 have hx:∀ b,H b=none→b≠x:=fun b n z=>by subst z; rw [n] at mu; exact mu
 have hb:∀ b,H b=none→b≠e:=fun b n z=>by
  subst z
  rcases he with r | r
  ·exact hx b n r
  ·rw [n] at r; cases r
 have hm:∀ b u,H b=some u→¬ Mut (some u)→b≠x:=fun b u q nm z=>by subst z; rw [q] at mu; exact nm mu
 refine ⟨fun b u q n _ _=>k b u (hb b n) q,fun b u q n _ _=>⟨u.slots,k b u (hb b n) q⟩,fun b u q n _=>by rw [Zt (hx b n)]; exact n,fun b u q _ => ?_,
  fun b xs q=>by rw [Zt (hm b _ q fun z=>z)]; exact q,fun b u xs q=>by rw [Zt (hm b _ q fun z=>z)]; exact q,fun b ps q=>⟨#[],by rw [Zt (hm b _ q fun z=>z),q]; simp⟩⟩
 by_cases hbe:b=e
 ·subst hbe; exact heo
 ·exact ⟨u,k b u hbe q⟩
end
noncomputable def trk (h:Heap) (H:Hp):List Addr:=(List.range h.objs.size).filter fun a=>(H a).isSome
noncomputable def Wo (h:Heap) (H:Hp):Heap:=PySem.W.hideAll h (trk h H)
theorem Zmd (h:Heap) (H:Hp):(Wo h H).objs.size=h.objs.size:=PySem.W.hideAll_size _ _
theorem Zmk {h:Heap} {H:Hp} {b:Addr} {o:Obj} (e:h.get? b=some o) (n:H b=none):(Wo h H).get? b=some o :=
 PySem.W.hideAll_get _ e fun hm=>by
  have q:(H b).isSome=true:=(List.mem_filter.mp hm).2
  rw [n] at q; simp at q
theorem ZkT {h:Heap} {H:Hp} {b:Addr} {o:Obj} (e:(Wo h H).get? b=some o):h.get? b=some o∧H b=none:=by
 have e':h.get? b=some o:=PySem.W.of_hideAll (trk h H) e
 refine ⟨e',?_⟩
 cases q:H b with
 | none=>rfl
 | some x =>
  have hm:b∈trk h H:=List.mem_filter.mpr ⟨List.mem_range.mpr (Heap.lt_size e'),by simp [q]⟩
  have z:(Wo h H).get? b=none:=PySem.W.hideAll_none (trk h H) hm
  rw [z] at e; cases e
noncomputable def Zg8 (g h:Heap) (L:Addr):List (Addr×Obj):=(List.range h.objs.size).filterMap fun a=>if a=L∨(g.get? a).isSome=true then none else (h.get? a).map fun o=>(a,o)
noncomputable def rest (g h:Heap) (L d:Addr):List (Addr×Obj):=(Zg8 g h L).filter fun p=>decide (p.1≠d)
end L2
namespace L2
open PySem PySem.Spec PyProof.Rows
structure Mod (K:PySem.W.Frag) (mg:Str→Option Value) (base:Heap):Prop where
 kin:K.In base
 glob:base.Ns mainGlobals mg
 blt : ∃ mb, base.Ns builtinsNs mb ∧ ∀ x : Str, x ≠ "__name__" → mb x = bootBuiltins x
 nolimit:base.NoLimit
structure Cx where
 prog:Program
 w:World
 K:PySem.W.Frag
 mg:Str→Option Value
 base:Heap
 A:Around
 N:List Str
 s₀:Shared
 H₀:Hp
 env:Env
 outer:List Env
 stack:List Env
 ex:List Addr
 fn:Str→Bool
 calm:Bool
 pn:List (Addr×Obj)
 xe:Value→Shared→Prop
noncomputable def frs (l:List Env):List Addr:=l.filterMap (·.frame)
noncomputable abbrev Cx.fs (X:Cx):List Addr:=frs X.outer
noncomputable def Vis (sc:Scope) (x:Str):Prop:=sc.names.lookup x=some .local∨sc.names.lookup x=some .cell∨sc.names.lookup x=some .free
noncomputable def Loc (sc:Scope) (x:Str):Prop:=sc.names.lookup x=some .local∨sc.names.lookup x=some .cell
noncomputable def Look (env:Env) (h:Heap) (m:Str→Option Value) (x:Str) (u:Value):Prop :=
 (env.kindOf x=some .local∧m x=some u)∨((env.kindOf x=some .cell∨env.kindOf x=some .free)∧∃ c,env.cells.lookup x=some c∧h.IsCell c (some u))
structure Cx.Ok (X:Cx):Prop where
 mod:Mod X.K X.mg X.base
 kind:X.env.scope.kind = .function
 glob:X.env.globals=mainGlobals
 blt:X.env.builtins=builtinsNs
 above:X.s₀.heap.objs.size≤X.env.locals
 inj:∀ x y c,X.env.cells.lookup x=some c→X.env.cells.lookup y=some c→x=y
 has:∀ x,(X.env.kindOf x=some .cell∨X.env.kindOf x=some .free)→∃ c,X.env.cells.lookup x=some c
 cab:∀ x c,X.fn x=true→X.env.cells.lookup x=some c→X.s₀.heap.objs.size≤c
 hd:X.calm=true→X.A.handled=none
 frames:X.A.frames=some X.stack
 stk:X.stack=X.outer∨(X.stack=X.env :: X.outer∧X.env.frame=some X.env.locals)
 exf:∀ b∈X.ex,b≠X.env.locals∧∀ x c,X.env.cells.lookup x=some c→c≠b
 bs:∀ b o,X.base.get? b=some o→X.s₀.heap.get? b=some o∧X.H₀ b=none
 bsz:X.base.objs.size≤X.s₀.heap.objs.size
 noex:∀ b o,X.base.get? b=some o→b ∉ X.ex
 exfs:∀ b∈X.ex,b ∉ X.fs
 funs:X.s₀.heap.FunFrames X.base X.outer
 frf:∀ b∈X.fs,X.H₀ b=none
structure Inv (X:Cx) (pins:List (Addr×Obj)) (σ:List (Option V)) (H:Hp) (s:Shared):Prop where
 ok:X.Ok
 os:s.os=X.s₀.os
 bare:AllBare s.gens
 base:Un X.fs X.ex X.H₀ H X.s₀.heap s.heap
 loc:∃ m,s.heap.Ns X.env.locals m∧∀ (i:Nat) (x:Str) (v:V),X.N[i]?=some x→σ[i]?=some (some v)→Vis X.env.scope x→∃ u,RelV v u∧Look X.env s.heap m x u
 cell:∀ x c,X.env.cells.lookup x=some c→∃ v,s.heap.IsCell c v
 free:H X.env.locals=none
 freeC:∀ x c,X.env.cells.lookup x=some c→H c=none
 pin:∀ p∈X.pn++pins,s.heap.get? p.1=some p.2∧H p.1=none∧p.1≠X.env.locals∧p.1 ∉ X.fs∧∀ v,p.2.data≠.cell v
 hok:HOk X.prog X.w H s.heap
 len:σ.length=X.N.length
section
variable {X:Cx} {pins:List (Addr×Obj)} {σ:List (Option V)} {H H':Hp} {s:Shared} {h':Heap}
theorem Cx.Ok.nofr (ok:X.Ok) {b:Addr} {o:Obj} (e:X.base.get? b=some o):b ∉ X.fs:=fun hb=>by
 have:=(ok.funs.mem hb).1
 rw [e] at this; cases this
theorem Inv.bs (I:Inv X pins σ H s):∀ b o,X.base.get? b=some o→s.heap.get? b=some o∧H b=none:=fun b o e =>
 ⟨I.base.keep b o (I.ok.bs b o e).1 (I.ok.bs b o e).2 (I.ok.nofr e) (I.ok.noex b o e),I.base.free b o (I.ok.bs b o e).1 (I.ok.bs b o e).2 (I.ok.noex b o e)⟩
theorem Inv.bk (I:Inv X pins σ H s):∀ b o,X.base.get? b=some o→s.heap.get? b=some o:=fun b o e=>(I.bs b o e).1
theorem Inv.mod (I:Inv X pins σ H s):Mod X.K X.mg X.base:=I.ok.mod
theorem Inv.kIn (I:Inv X pins σ H s):X.K.In s.heap:=I.ok.mod.kin.keeps I.bk
theorem Inv.lt (I:Inv X pins σ H s):X.env.locals<s.heap.objs.size:=let ⟨_,hn,_⟩:=I.loc; hn.lt
theorem Inv.sz (I:Inv X pins σ H s):X.s₀.heap.objs.size≤s.heap.objs.size:=Nat.le_trans I.ok.above (Nat.le_of_lt I.lt)
theorem Inv.nofs (I:Inv X pins σ H s) {a:Addr} (h:s.heap.objs.size≤a):a ∉ X.fs:=fun hb=>by
 obtain ⟨_,o,ho,_⟩:=I.ok.funs.mem hb
 exact absurd (Nat.lt_of_lt_of_le (Heap.lt_size ho) (Nat.le_trans I.sz h)) (Nat.lt_irrefl _)
theorem Inv.cne (I:Inv X pins σ H s):∀ x c,X.env.cells.lookup x=some c→c≠X.env.locals:=fun x c e z=>by
 obtain ⟨v,o,ho,hd⟩:=I.cell x c e
 obtain ⟨m,⟨o',es,ep,ho',hd',_⟩,_⟩:=I.loc
 rw [z,ho'] at ho; cases ho; rw [hd'] at hd; cases hd
theorem Inv.funs (I:Inv X pins σ H s):s.heap.FunFrames X.base X.outer:=by
 have all:∀ (l:List Env),(∀ b∈frs l,b∈X.fs)→X.s₀.heap.FunFrames X.base l→s.heap.FunFrames X.base l:=by
  intro l
  induction l with
  | nil=>intro _ _; trivial
  | cons env r ih =>
   intro hs hl
   obtain ⟨hk,⟨L,o,hf,hn,ho,hd⟩,hr⟩:=hl
   have hL:L∈X.fs:=hs L (by unfold frs; rw [List.filterMap_cons,hf]; exact List.mem_cons_self)
   obtain ⟨sl,e⟩:=I.base.slot L o ho (I.ok.frf L hL) hL fun z=>I.ok.exfs L z hL
   exact ⟨hk,⟨L,_,hf,hn,e,hd⟩,ih (fun b hb=>hs b (by unfold frs; rw [List.filterMap_cons,hf]; exact List.mem_cons_of_mem _ hb)) hr⟩
 exact all X.outer (fun _ hb=>hb) I.ok.funs
theorem Inv.stack (I:Inv X pins σ H s):s.heap.FunFrames X.base X.stack:=by
 rcases I.ok.stk with e | ⟨e,hf⟩
 ·rw [e]; exact I.funs
 ·rw [e]
  obtain ⟨m,hn,_⟩:=I.loc
  refine .cons (by rw [I.ok.kind]; decide) hf hn ?_ I.funs
  exact Heap.get?_none_of_le (Nat.le_trans I.ok.bsz I.ok.above)
theorem Inv.stkSub (I:Inv X pins σ H s):∀ b∈frs X.stack,b∈X.env.locals :: X.fs:=fun b hb=>by
 rcases I.ok.stk with e | ⟨e,hf⟩
 ·rw [e] at hb; exact List.mem_cons_of_mem _ hb
 ·rw [e] at hb
  unfold frs at hb
  rw [List.filterMap_cons,hf] at hb
  exact hb
theorem Inv.stkFree (I:Inv X pins σ H s):∀ b∈frs X.stack,H b=none:=fun b hb=>by
 rcases List.mem_cons.mp (I.stkSub b hb) with e | hb
 ·rw [e]; exact I.free
 ·obtain ⟨_,o,ho,_⟩:=I.ok.funs.mem hb
  exact I.base.free b o ho (I.ok.frf b hb) fun z=>I.ok.exfs b z hb
theorem Inv.step {g':Array GenState} {t':Nat} {d':Drawn} {ch:List Addr} (I:Inv X pins σ H s)
  (hch:∀ b∈ch,(b∈X.ex∨X.s₀.heap.objs.size≤b)∧b≠X.env.locals∧(∀ x c,X.env.cells.lookup x=some c→c≠b)∧∀ p∈X.pn++pins,p.1≠b)
  (keep:∀ b o,b≠X.env.locals→b ∉ X.fs→b ∉ ch→s.heap.get? b=some o→H b=none→h'.get? b=some o)
  (slot:∀ b o,b≠X.env.locals→b∈X.fs→b ∉ ch→s.heap.get? b=some o→H b=none→∃ sl,h'.get? b=some { o with slots:=sl }) (free:∀ b o,b ∉ ch→s.heap.get? b=some o→H b=none→H' b=none)
  (there:∀ b o,b ∉ ch→s.heap.get? b=some o→∃ o',h'.get? b=some o')
  (tups:∀ b xs,H b=some (.tup xs)→H' b=some (.tup xs)) (frzs:∀ b o u,H b=some (.frz o u)→H' b=some (.frz o u)) (tbls:∀ b ps,H b=some (.tbl ps)→∃ more,H' b=some (.tbl (ps++more)))
  (ns:∀ m,s.heap.Ns X.env.locals m→h'.Ns X.env.locals m) (hok:HOk X.prog X.w H' h') (hg:AllBare g') :
  Inv X pins σ H' { s with heap:=h',gens:=g',drawn:=d',toks:=t' }:=by
 have neL:∀ b o,X.s₀.heap.get? b=some o→b≠X.env.locals:=fun b o e=>Nat.ne_of_lt (Nat.lt_of_lt_of_le (Heap.lt_size e) I.ok.above)
 have neC:∀ b o,X.s₀.heap.get? b=some o→b ∉ X.ex→b ∉ ch:=fun b o e hx hb=>by
  rcases (hch b hb).1 with z | z
  ·exact hx z
  ·exact absurd (Nat.lt_of_lt_of_le (Heap.lt_size e) z) (Nat.lt_irrefl _)
 have cellK:∀ x c,X.env.cells.lookup x=some c→∀ v,s.heap.IsCell c v→h'.IsCell c v:=fun x c e v ⟨o,ho,hd⟩=>by
  have nch:c ∉ ch:=fun z=>(hch c z).2.2.1 x c e rfl
  by_cases hc:c∈X.fs
  ·obtain ⟨sl,q⟩:=slot c o (I.cne x c e) hc nch ho (I.freeC x c e)
   exact ⟨_,q,hd⟩
  ·exact ⟨o,keep c o (I.cne x c e) hc nch ho (I.freeC x c e),hd⟩
 refine ⟨I.ok,I.os,hg,⟨fun b o e n hb hx => ?_,fun b o e n hb hx => ?_,fun b o e n hx => ?_,fun b o e hx => ?_,fun b xs e=>tups b xs (I.base.tups b xs e),fun b o xs e=>frzs b o xs (I.base.frzs b o xs e),fun b ps e => ?_⟩,?_,fun x c e => ?_,?_,fun x c e => ?_,fun p hp => ?_,hok,I.len⟩
 ·exact keep b o (neL b o e) hb (neC b o e hx) (I.base.keep b o e n hb hx) (I.base.free b o e n hx)
 ·obtain ⟨sl,e1⟩:=I.base.slot b o e n hb hx
  obtain ⟨sl',e2⟩:=slot b _ (neL b o e) hb (neC b o e hx) e1 (I.base.free b o e n hx)
  exact ⟨sl',e2⟩
 ·obtain ⟨o',e1⟩:=I.base.there b o e hx
  exact free b o' (neC b o e hx) e1 (I.base.free b o e n hx)
 ·obtain ⟨o',e1⟩:=I.base.there b o e hx
  exact there b o' (neC b o e hx) e1
 ·obtain ⟨m1,e1⟩:=I.base.tbls b ps e
  obtain ⟨m2,e2⟩:=tbls b _ e1
  exact ⟨m1++m2,by rw [e2,Array.append_assoc]⟩
 ·obtain ⟨m,hn,hl⟩:=I.loc
  refine ⟨m,ns m hn,fun i x v e1 e2 e3 => ?_⟩
  obtain ⟨u,r,l⟩:=hl i x v e1 e2 e3
  refine ⟨u,r,?_⟩
  rcases l with l | ⟨k,c,e,z⟩
  ·exact .inl l
  ·exact .inr ⟨k,c,e,cellK x c e _ z⟩
 ·obtain ⟨v,z⟩:=I.cell x c e
  exact ⟨v,cellK x c e v z⟩
 ·obtain ⟨m,⟨o,_,_,ho,_⟩,_⟩:=I.loc
  exact free _ o (fun z=>(hch _ z).2.1 rfl) ho I.free
 ·obtain ⟨v,o,ho,hd⟩:=I.cell x c e
  exact free c o (fun z=>(hch c z).2.2.1 x c e rfl) ho (I.freeC x c e)
 ·obtain ⟨e,n,ne,nf,d⟩:=I.pin p hp
  have nch:p.1 ∉ ch:=fun z=>(hch p.1 z).2.2.2 p hp rfl
  exact ⟨keep p.1 p.2 ne nf nch e n,free p.1 p.2 nch e n,ne,nf,d⟩
theorem Inv.un {t':Nat} (I:Inv X pins σ H s) (u:Un X.fs [] H H' s.heap h') (hok:HOk X.prog X.w H' h'):Inv X pins σ H' { s with heap:=h',toks:=t' }:=by
 obtain ⟨m,⟨o,es,ep,ho,r⟩,_⟩:=id I.loc
 obtain ⟨sl,hL⟩:=u.any ho I.free (by simp)
 exact I.step (g':=s.gens) (d':=s.drawn) (ch:=[]) (fun _ z=>nomatch z) (fun b o _ hb _ e n=>u.keep b o e n hb (by simp)) (fun b o _ hb _ e n=>u.slot b o e n hb (by simp)) (fun b o _ e n=>u.free b o e n (by simp)) (fun b o _ e=>u.there b o e (by simp)) u.tups u.frzs u.tbls (fun m' hm=>by
  obtain ⟨o',es',ep',ho',r'⟩:=hm
  rw [ho] at ho'; cases ho'
  exact ⟨_,es',ep',hL,r'⟩) hok I.bare
theorem Inv.call {g':Array GenState} {t':Nat} {d':Drawn} {ch:List Addr} (I:Inv X pins σ H s) (u:Un (frs X.stack) ch H H' s.heap h') (hok:HOk X.prog X.w H' h') (hg:AllBare g')
  (hch:∀ b∈ch,(b∈X.ex∨X.s₀.heap.objs.size≤b)∧b≠X.env.locals∧(∀ x c,X.env.cells.lookup x=some c→c≠b)∧∀ p∈X.pn++pins,p.1≠b) :
  Inv X pins σ H' { s with heap:=h',gens:=g',drawn:=d',toks:=t' }:=by
 obtain ⟨m,⟨o,es,ep,ho,r⟩,_⟩:=id I.loc
 obtain ⟨sl,hL⟩:=u.any ho I.free fun z=>(hch _ z).2.1 rfl
 exact I.step (ch:=ch) hch (fun b o hL hb hc e n=>u.keep b o e n (fun z=>(List.mem_cons.mp (I.stkSub b z)).elim hL hb) hc) (fun b o _ _ hc e n=>u.any e n hc) (fun b o hc e n=>u.free b o e n hc) (fun b o hc e=>u.there b o e hc) u.tups u.frzs u.tbls (fun m' hm=>by
  obtain ⟨o',es',ep',ho',r'⟩:=hm
  rw [ho] at ho'; cases ho'
  exact ⟨_,es',ep',hL,r'⟩) hok hg
theorem Inv.turned {t':Nat} {it:Addr} (I:Inv X pins σ H s) (k:∀ b o,b≠it→s.heap.get? b=some o→h'.get? b=some o) (hn:H it=none) (hL:it≠X.env.locals)
  (h1:it∈X.ex∨X.s₀.heap.objs.size≤it) (h2:∀ x c,X.env.cells.lookup x=some c→c≠it) (h3:∀ p∈X.pn++pins,p.1≠it):Inv X pins σ H { s with heap:=h',toks:=t' }:=by
 have nit:∀ b u,H b=some u→b≠it:=fun b u e z=>by rw [z,hn] at e; cases e
 refine I.step (g':=s.gens) (d':=s.drawn) (ch:=[it]) (fun b hb => ?_) (fun b o _ _ hc e _=>k b o (fun z=>hc (by simp [z])) e) (fun b o _ _ hc e _=>⟨o.slots,k b o (fun z=>hc (by simp [z])) e⟩) (fun _ _ _ _ n=>n)
  (fun b o hc e=>⟨o,k b o (fun z=>hc (by simp [z])) e⟩) (fun _ _ e=>e) (fun _ _ _ e=>e) (fun b ps e=>⟨#[],by rw [e]; simp⟩) (fun m hm => ?_) (fun b u e => ?_) I.bare
 ·have e:b=it:=by simpa using hb
  subst e
  exact ⟨h1,hL,h2,h3⟩
 ·obtain ⟨o,es,ep,ho,r⟩:=hm
  exact ⟨o,es,ep,k _ o (Ne.symm hL) ho,r⟩
 ·refine (I.hok b u e).stay (fun c v hc q=>k c v ?_ q) (fun _ q=>q) fun _ _ q=>q
  rcases hc with z | z
  ·rw [z]; exact nit b u e
  ·exact nit c _ z
theorem Inv.tok (I:Inv X pins σ H s) (t:Nat):Inv X pins σ H { s with toks:=t }:=I.un (h':=s.heap) (t':=t) Un.refl I.hok
theorem Inv.kept {t':Nat} (I:Inv X pins σ H s) (k:∀ b u,s.heap.get? b=some u→h'.get? b=some u):Inv X pins σ H { s with heap:=h',toks:=t' }:=I.un (Un.kept k) (I.hok.kept k)
theorem Inv.laid {a:Addr} {o:HO} {t':Nat} (I:Inv X pins σ H s) (k:∀ b u,s.heap.get? b=some u→h'.get? b=some u) (hp:s.heap.objs.size≤a) (new:ObjOk X.prog X.w (upd H a o) h' a o) :
  Inv X pins σ (upd H a o) { s with heap:=h',toks:=t' }:=I.un (Un.laid k hp (I.hok.fresh hp)) (I.hok.laid k hp new)
theorem Inv.write {x e:Addr} {o:HO} {t':Nat} (I:Inv X pins σ H s) (mu:Mut (H x)) (he:e=x∨H e=some (.own x)) (k:∀ b u,b≠e→s.heap.get? b=some u→h'.get? b=some u) (heo:∃ u,h'.get? e=some u)
  (new:ObjOk X.prog X.w (upd H x o) h' x o):Inv X pins σ (upd H x o) { s with heap:=h',toks:=t' }:=I.un (Un.write mu he k heo) (I.hok.write mu he k heo new)
theorem Inv.pins_of {pins':List (Addr×Obj)} (I:Inv X pins σ H s) (h:∀ p∈pins',s.heap.get? p.1=some p.2∧H p.1=none∧p.1≠X.env.locals∧p.1 ∉ X.fs∧∀ v,p.2.data≠.cell v):Inv X pins' σ H s :=
 ⟨I.ok,I.os,I.bare,I.base,I.loc,I.cell,I.free,I.freeC,fun p hp=>(List.mem_append.mp hp).elim (fun z=>I.pin p (List.mem_append_left _ z)) (h p),I.hok,I.len⟩
theorem ZgJ {N:List Str} (hN:N.Nodup) {i j:Nat} {x:Str} (a:N[i]?=some x) (b:N[j]?=some x):i=j:=by
 obtain ⟨h1,e1⟩:=List.getElem?_eq_some_iff.mp a
 obtain ⟨h2,e2⟩:=List.getElem?_eq_some_iff.mp b
 exact (List.getElem_inj hN).mp (e1.trans e2.symm)
theorem ZfC {M:Model} {A:Around} {E:Value→Shared→Prop} {i:Nat} {x:Str} {v:V} {u:Value} {Q:Unit→Shared→Prop} (I:Inv X pins σ H s) (hN:X.N.Nodup) (hi:X.N[i]?=some x) (hx:Loc X.env.scope x) (r:RelV v u)
  (h:∀ s',Inv X pins (σ.set i (some v)) H s'→(∃ a,Heap.SameBut a s.heap s'.heap∧(a=X.env.locals∨X.env.cells.lookup x=some a))→Q () s') (hf:X.fn x=true∨X.env.scope.names.lookup x=some .local:=by first | exact .inl rfl | exact .inr rfl | assumption):wpAny M A (storeName X.env x u) Q E s:=by
 obtain ⟨m,hn,hl⟩:=id I.loc
 have hcls:(X.env.scope.kind == .class || (X.env.scope.kind == .module && X.env.locals != X.env.globals))=false:=by rw [I.ok.kind]; rfl
 have hiσ:i<σ.length:=by rw [I.len]; exact (List.getElem?_eq_some_iff.mp hi).1
 have cne:=I.cne
 have tracked:∀ {a:Addr} {h':Heap},(∃ o,s.heap.get? a=some o∧H a=none)→Heap.SameBut a s.heap h'→HOk X.prog X.w H h':=fun {a h'} ha hs b ob e=>by
  obtain ⟨_,_,hfree⟩:=ha
  refine (I.hok b ob e).stay (fun c w' hc q=>(hs.2 c ?_).trans q) (fun _ q=>q) fun _ _ q=>q
  rintro rfl
  rcases hc with rfl | hc
  ·rw [hfree] at e; cases e
  ·rw [hfree] at hc; cases hc
 rcases hx with hk | hk
 ·refine wpAny_storeName_local hk hn (fun h' hn' hs => ?_) hcls
  obtain ⟨oL,_,_,hoL,_⟩:=id hn
  refine h _ ⟨I.ok,I.os,I.bare,⟨fun b o e n hb hx => ?_,fun b o e n hb hx => ?_,I.base.free,fun b o e hx => ?_,I.base.tups,I.base.frzs,I.base.tbls⟩,⟨_,hn',fun j y v' e1 e2 e3 => ?_⟩,fun y c e => ?_,I.free,I.freeC,fun p hp => ?_,tracked ⟨oL,hoL,I.free⟩ hs,by simpa using I.len⟩ ⟨_,hs,.inl rfl⟩
  ·exact (hs.2 b (Nat.ne_of_lt (Nat.lt_of_lt_of_le (Heap.lt_size e) I.ok.above))).trans (I.base.keep b o e n hb hx)
  ·obtain ⟨sl,e1⟩:=I.base.slot b o e n hb hx
   exact ⟨sl,(hs.2 b (Nat.ne_of_lt (Nat.lt_of_lt_of_le (Heap.lt_size e) I.ok.above))).trans e1⟩
  ·obtain ⟨o',e1⟩:=I.base.there b o e hx
   exact ⟨o',(hs.2 b (Nat.ne_of_lt (Nat.lt_of_lt_of_le (Heap.lt_size e) I.ok.above))).trans e1⟩
  ·by_cases hj:j=i
   ·subst hj
    rw [hi] at e1; cases e1
    rw [List.getElem?_set_self hiσ] at e2
    cases e2
    exact ⟨u,r,.inl ⟨hk,by simp⟩⟩
   ·rw [List.getElem?_set_ne (Ne.symm hj)] at e2
    obtain ⟨u',r',q⟩:=hl j y v' e1 e2 e3
    refine ⟨u',r',?_⟩
    rcases q with ⟨k,e⟩ | ⟨k,c,e,z⟩
    ·refine .inl ⟨k,?_⟩
     have:y≠x:=fun e=>hj (ZgJ hN e1 (e ▸ hi))
     simp [this,e]
    ·exact .inr ⟨k,c,e,z.sameBut hs (cne y c e)⟩
  ·obtain ⟨w',z⟩:=I.cell y c e
   exact ⟨w',z.sameBut hs (cne y c e)⟩
  ·obtain ⟨e,n,ne,nf,d⟩:=I.pin p hp
   exact ⟨(hs.2 p.1 ne).trans e,n,ne,nf,d⟩
 ·have hfn:X.fn x=true:=by
   rcases hf with z | z
   ·exact z
   ·rw [z] at hk; cases hk
  obtain ⟨c,hc⟩:=I.ok.has x (.inl hk)
  obtain ⟨w',z⟩:=I.cell x c hc
  refine wpAny_storeName_cell I.ok.kind hk hc z (fun h' hc' hs => ?_)
  obtain ⟨oc,hoc,hocd⟩:=id z
  refine h { s with heap:=h' } ⟨I.ok,I.os,I.bare,⟨fun b o e n hb hx => ?_,fun b o e n hb hx => ?_,I.base.free,fun b o e hx => ?_,I.base.tups,I.base.frzs,I.base.tbls⟩,⟨m,hn.sameBut hs (Ne.symm (cne x c hc)),fun j y v' e1 e2 e3 => ?_⟩,fun y c' e => ?_,I.free,I.freeC,fun p hp => ?_,tracked ⟨oc,hoc,I.freeC x c hc⟩ hs,by simpa using I.len⟩ ⟨c,hs,.inr hc⟩
  ·exact (hs.2 b (Nat.ne_of_lt (Nat.lt_of_lt_of_le (Heap.lt_size e) (I.ok.cab x c hfn hc)))).trans (I.base.keep b o e n hb hx)
  ·obtain ⟨sl,e1⟩:=I.base.slot b o e n hb hx
   exact ⟨sl,(hs.2 b (Nat.ne_of_lt (Nat.lt_of_lt_of_le (Heap.lt_size e) (I.ok.cab x c hfn hc)))).trans e1⟩
  ·obtain ⟨o',e1⟩:=I.base.there b o e hx
   exact ⟨o',(hs.2 b (Nat.ne_of_lt (Nat.lt_of_lt_of_le (Heap.lt_size e) (I.ok.cab x c hfn hc)))).trans e1⟩
  ·by_cases hj:j=i
   ·subst hj
    rw [hi] at e1; cases e1
    rw [List.getElem?_set_self hiσ] at e2
    cases e2
    exact ⟨u,r,.inr ⟨.inl hk,c,hc,hc'⟩⟩
   ·rw [List.getElem?_set_ne (Ne.symm hj)] at e2
    obtain ⟨u',r',q⟩:=hl j y v' e1 e2 e3
    refine ⟨u',r',?_⟩
    rcases q with q | ⟨k,c',e,z'⟩
    ·exact .inl q
    ·refine .inr ⟨k,c',e,z'.sameBut hs ?_⟩
     rintro rfl
     exact hj (ZgJ hN e1 (I.ok.inj _ _ _ e hc ▸ hi))
  ·by_cases hcc:c'=c
   ·subst hcc; exact ⟨_,hc'⟩
   ·obtain ⟨w2,z2⟩:=I.cell y c' e
    exact ⟨w2,z2.sameBut hs hcc⟩
  ·obtain ⟨e,n,ne,nf,d⟩:=I.pin p hp
   refine ⟨(hs.2 p.1 ?_).trans e,n,ne,nf,d⟩
   intro q
   rw [q,hoc] at e
   have q':oc=p.2:=Option.some.inj e
   exact d w' (by rw [← q']; exact hocd)
theorem ZfI {M:Model} {A:Around} {E:Value→Shared→Prop} {i:Nat} {x:Str} {v:V} {u:Value} {Q:Unit→Shared→Prop} (I:Inv X pins σ H s) (hN:X.N.Nodup) (hi:X.N[i]?=some x) (hx:Loc X.env.scope x) (r:RelV v u)
  (h:∀ s',Inv X pins (σ.set i (some v)) H s'→Q () s') (hf:X.fn x=true∨X.env.scope.names.lookup x=some .local:=by first | exact .inl rfl | exact .inr rfl | assumption):wpAny M A (storeName X.env x u) Q E s :=
 ZfC I hN hi hx r (fun s' I' _=>h s' I') hf
theorem Inv.call' {s':Shared} {ch:List Addr} (I:Inv X pins σ H s) (ho:s'.os=s.os) (u:Un (frs X.stack) ch H H' s.heap s'.heap) (hok:HOk X.prog X.w H' s'.heap) (hg:AllBare s'.gens)
  (hch:∀ b∈ch,(b∈X.ex∨X.s₀.heap.objs.size≤b)∧b≠X.env.locals∧(∀ x c,X.env.cells.lookup x=some c→c≠b)∧∀ p∈X.pn++pins,p.1≠b):Inv X pins σ H' s':=by
 obtain ⟨h',g',d',t',o'⟩:=s'
 have e:o'=s.os:=ho
 subst e
 exact I.call (g':=g') (t':=t') (d':=d') u hok hg hch
end
noncomputable abbrev XK:=Value→Option Addr→Hp→Prop
noncomputable abbrev St:=List (Option V)
noncomputable abbrev VK:=V→Hp→Prop
noncomputable abbrev TE:=St→Hp→VK→Prop
noncomputable abbrev TT:=St→Hp→(Bool→Hp→Prop)→Prop
noncomputable abbrev TA:=St→Hp→(List V→Hp→Prop)→Prop
structure Ends where
 nx:St→Hp→Prop
 rt:VK
 bk:St→Hp→Prop:=fun _ _=>False
 ct:St→Hp→Prop:=fun _ _=>False
noncomputable abbrev TS:=Ends→St→Hp→Prop
noncomputable def EP (X:Cx) (pins:List (Addr×Obj)) (σ:St) (Q:VK) (u:Value) (s':Shared):Prop:=∃ v H',Inv X pins σ H' s'∧RelV v u∧Q v H'
noncomputable def TP (X:Cx) (pins:List (Addr×Obj)) (σ:St) (Q:Bool→Hp→Prop) (b:Bool) (s':Shared):Prop:=∃ H',Inv X pins σ H' s'∧Q b H'
noncomputable def AP (X:Cx) (pins:List (Addr×Obj)) (σ:St) (Q:List V→Hp→Prop) (us:List Value) (s':Shared):Prop:=∃ vs H',Inv X pins σ H' s'∧Vals vs us∧Q vs H'
noncomputable def SP (X:Cx) (pins:List (Addr×Obj)) (D:Ends) (f:Flow) (s':Shared):Prop :=
 match f with
 | .next => ∃ σ' H',Inv X pins σ' H' s'∧D.nx σ' H'
 | .brk => ∃ σ' H',Inv X pins σ' H' s'∧D.bk σ' H'
 | .cont => ∃ σ' H',Inv X pins σ' H' s'∧D.ct σ' H'
 | .ret u => ∃ v σ' H',Inv X pins σ' H' s'∧RelV v u∧D.rt v H'
noncomputable def PE (X:Cx) (e:Expr) (t:TE):Prop :=
 ∀ (pins:List (Addr×Obj)) (s:Shared) (σ:St) (H:Hp) (Q:VK),Inv X pins σ H s→t σ H Q→wpAny (model X.prog X.w) X.A (eval e X.env) (EP X pins σ Q) X.xe s
noncomputable def PT (X:Cx) (e:Expr) (t:TT):Prop :=
 ∀ (pins:List (Addr×Obj)) (s:Shared) (σ:St) (H:Hp) (Q:Bool→Hp→Prop),Inv X pins σ H s→t σ H Q→wpAny (model X.prog X.w) X.A (isTrue e X.env (eval e X.env)) (TP X pins σ Q) X.xe s
noncomputable def PW (X:Cx) (e:Expr) (t:TT):Prop :=
 ∀ (whole:Sem Value) (pins:List (Addr×Obj)) (s:Shared) (σ:St) (H:Hp) (Q:Bool→Hp→Prop),Inv X pins σ H s→t σ H Q→wpAny (model X.prog X.w) X.A (isTrue e X.env whole) (TP X pins σ Q) X.xe s
theorem PW.pt {X:Cx} {e:Expr} {t:TT} (h:PW X e t):PT X e t:=h _
noncomputable def PA (X:Cx) (es:List Expr) (t:TA):Prop :=
 ∀ (pos:Pos) (pins:List (Addr×Obj)) (s:Shared) (σ:St) (H:Hp) (Q:List V→Hp→Prop),Inv X pins σ H s→t σ H Q→wpAny (model X.prog X.w) X.A (spliced (backTo pos (starEach es X.env))) (AP X pins σ Q) X.xe s
noncomputable def PS (X:Cx) (st:Stmt) (t:TS):Prop :=
 ∀ (pins:List (Addr×Obj)) (s:Shared) (σ:St) (H:Hp) (D:Ends),Inv X pins σ H s→t D σ H→wpAny (model X.prog X.w) X.A (exec st X.env) (SP X pins D) X.xe s
noncomputable def PSs (X:Cx) (st:List Stmt) (t:TS):Prop :=
 ∀ (pins:List (Addr×Obj)) (s:Shared) (σ:St) (H:Hp) (D:Ends),Inv X pins σ H s→t D σ H→wpAny (model X.prog X.w) X.A (execs st X.env) (SP X pins D) X.xe s
theorem thn {α:Type} {t:Sem α} {Q Q':α→Shared→Prop} {M:Model} {A:Around} {E:Value→Shared→Prop} {s:Shared} (h:wpAny M A t Q E s) (hQ:∀ a s,Q a s→Q' a s):wpAny M A t Q' E s:=wpAny_mono h hQ fun _ _ x=>x
end L2
namespace L2
open PySem PySem.Spec PyProof.Rows
section
variable {X:Cx}
noncomputable def ZmQ (i:Nat):TE:=fun σ H Q => ∃ v,σ[i]?=some (some v)∧Q v H
noncomputable def tC (v:V):TE:=fun _ H Q=>Q v H
theorem ZhH {i : Nat} {x : Str} {pos : Pos} (hN : X.N[i]? = some x) (hv : Vis X.env.scope x) (hd : (x == ("__debug__" : Str)) = false := by decide) (hcd : (x == ("__classdict__" : Str)) = false := by decide) : PE X (.Name x pos) (ZmQ i) := by
 intro pins s σ H Q I h
 obtain ⟨v,e,h⟩:=h
 obtain ⟨m,hn,hl⟩:=I.loc
 obtain ⟨u,r,l⟩:=hl i x v hN e hv
 have fin:EP X pins σ Q u s:=⟨v,H,I,r,h⟩
 rcases l with ⟨hk,hm⟩ | ⟨hk,c,hc,hcell⟩
 ·exact wpAny_Name (wpAny_loadName_local I.ok.kind hk hn hm fin) hd
 ·rcases hk with hk | hk
  ·exact wpAny_Name (wpAny_loadName_cell I.ok.kind hk hc hcell fin) hd
  ·exact wpAny_Name (wpAny_loadName_free I.ok.kind hk hc hcell fin hcd) hd
theorem Zl3 {i j pos}:PE X (.Constant (.int i) j pos) (tC (.int i)):=fun _ _ _ H _ I h=>wpAny_Constant_int ⟨.int i,H,I.tok _,⟨_,rfl⟩,h⟩
theorem Zhp {b j pos}:PE X (.Constant (.bool b) j pos) (tC (.bl b)):=fun _ _ _ H _ I h=>Constant_bool ⟨.bl b,H,I,rfl,h⟩
theorem ZhA {j pos}:PE X (.Constant .none j pos) (tC .non):=fun _ _ _ H _ I h=>Constant_none ⟨.non,H,I,rfl,h⟩
theorem Zii {x j pos}:PE X (.Constant (.str x) j pos) (tC (.str x)):=fun _ _ _ H _ I h=>Calls.Constant_str ⟨.str x,H,I.tok _,⟨_,rfl⟩,h⟩
noncomputable def Gl (X:Cx) (x:Str):Prop:=X.env.kindOf x=some .globalImplicit
theorem ZfL {E:Value→Shared→Prop} {pins:List (Addr×Obj)} {s:Shared} {σ:St} {H:Hp} {x:Str} {u:Value} {pos:Pos} {Q:Value→Shared→Prop} (I:Inv X pins σ H s) (hg:Gl X x) (hm:X.mg x=some u) (h:Q u s)
  (hd : (x == ("__debug__" : Str)) = false := by decide) : wpAny (model X.prog X.w) X.A (eval (.Name x pos) X.env) Q E s :=
 Calls.Name_function_global I.ok.kind hg (Calls.loadGlobal_global (by rw [I.ok.glob]; exact I.mod.glob.keeps I.bk) hm h) hd
theorem QE {E:Value→Shared→Prop} {pins:List (Addr×Obj)} {s:Shared} {σ:St} {H:Hp} {x:Str} {u:Value} {pos:Pos} {Q:Value→Shared→Prop} (I:Inv X pins σ H s) (hg:Gl X x) (hm:X.mg x=none) (hv:bootBuiltins x=some u) (h:Q u s)
  (hn : x ≠ "__name__" := by decide) (hd : (x == ("__debug__" : Str)) = false := by decide) : wpAny (model X.prog X.w) X.A (eval (.Name x pos) X.env) Q E s := by
 obtain ⟨mb,h1,h2⟩:=I.mod.blt
 exact Calls.Name_function_global I.ok.kind hg (Calls.loadGlobal_builtin (by rw [I.ok.glob]; exact I.mod.glob.keeps I.bk) hm (by rw [I.ok.blt]; exact h1.keeps I.bk) ((h2 x hn).trans hv) h) hd
theorem ZkI {x : Str} {v : V} {u : Value} {pos : Pos} (hg : Gl X x) (hm : X.mg x = some u) (r : RelV v u) (hd : (x == ("__debug__" : Str)) = false := by decide) : PE X (.Name x pos) (tC v) :=
 fun _ _ _ H _ I h=>ZfL I hg hm ⟨v,H,I,r,h⟩ hd
theorem Zkt {x : Str} {v : V} {u : Value} {pos : Pos} (hg : Gl X x) (hm : X.mg x = none) (hv : bootBuiltins x = some u) (r : RelV v u) (hn : x ≠ "__name__" := by decide) (hd : (x == ("__debug__" : Str)) = false := by decide) : PE X (.Name x pos) (tC v) :=
 fun _ _ _ H _ I h=>QE I hg hm hv ⟨v,H,I,r,h⟩ hn hd
variable {a b:Expr} {ta tb:TE} {pos:Pos}
noncomputable def tB (t:TE):TT:=fun σ H Q=>t σ H fun x H1 => ∃ c,x = .bl c∧Q c H1
theorem Zg0 {e:Expr} {t:TE} (h:PE X e t) (he:∀ whole,isTrue e X.env whole=(do let v ← whole; standAt e.pos; holding [v] (truthy v)):=by intro _; rfl):PT X e (tB t):=by
 intro pins s σ H Q I hw
 refine isTrue_plain (thn (h pins s σ H _ I hw) fun v s1 ⟨x,H1,I1,r1,q1⟩ => ?_) (he _)
 obtain ⟨d,rfl,q⟩:=q1
 cases r1
 exact wpAny_truthy_bool ⟨H1,I1,q⟩
variable {tA tB':TT} {rest:List Expr}
noncomputable def Znj (t u:TT):TT:=fun σ H Q=>t σ H fun c H1=>if c=true then u σ H1 Q else Q false H1
noncomputable def tOr (t u:TT):TT:=fun σ H Q=>t σ H fun c H1=>if c=true then Q true H1 else u σ H1 Q
noncomputable def Zls (t:TT):TT:=fun σ H Q=>t σ H fun c H1=>Q (!c) H1
theorem Zkv (ha:PT X a tA):PW X (.BoolOp .And [a] pos) tA:=by
 intro wh pins s σ H Q I h
 refine isTrue_and (thn (ha pins s σ H Q I h) fun c s1 e => ?_)
 cases c with
 | true=>exact isTrue_and_nil e
 | false=>exact e
theorem Zhv (ha:PT X a tA):PW X (.BoolOp .Or [a] pos) tA:=by
 intro wh pins s σ H Q I h
 refine isTrue_or (thn (ha pins s σ H Q I h) fun c s1 e => ?_)
 cases c with
 | false=>exact isTrue_or_nil e
 | true=>exact e
theorem ZhU (ha:PT X a tA) (hb:PW X (.BoolOp .And (b :: rest) pos) tB'):PW X (.BoolOp .And (a :: b :: rest) pos) (Znj tA tB'):=by
 intro wh pins s σ H Q I h
 refine isTrue_and (thn (ha pins s σ H _ I h) fun c s1 ⟨H1,I1,q1⟩ => ?_)
 cases c with
 | true=>exact hb wh pins s1 σ H1 Q I1 q1
 | false=>exact ⟨H1,I1,q1⟩
theorem Zlg (ha:PT X a tA) (hb:PW X (.BoolOp .Or (b :: rest) pos) tB'):PW X (.BoolOp .Or (a :: b :: rest) pos) (tOr tA tB'):=by
 intro wh pins s σ H Q I h
 refine isTrue_or (thn (ha pins s σ H _ I h) fun c s1 ⟨H1,I1,q1⟩ => ?_)
 cases c with
 | true=>exact ⟨H1,I1,q1⟩
 | false=>exact hb wh pins s1 σ H1 Q I1 q1
theorem ZlM (ha:PT X a tA):PT X (.UnaryOp .Not a pos) (Zls tA):=by
 intro pins s σ H Q I h
 exact isTrue_not (ha pins s σ H (fun c H1=>Q (!c) H1) I h)
noncomputable def tIf (t:TT) (ta tb:TE):TE:=fun σ H Q=>t σ H fun c H1=>if c=true then ta σ H1 Q else tb σ H1 Q
theorem ZgW {c:Expr} (hc:PT X c tA) (ha:PE X a ta) (hb:PE X b tb):PE X (.IfExp c a b pos) (tIf tA ta tb):=by
 intro pins s σ H Q I h
 refine wpAny_IfExp (thn (hc pins s σ H _ I h) fun d s1 ⟨H1,I1,q1⟩ => ?_)
 cases d with
 | true=>exact ha pins s1 σ H1 Q I1 q1
 | false=>exact hb pins s1 σ H1 Q I1 q1
end
end L2
namespace L2
open PySem PySem.Spec PyProof.Rows
noncomputable def SqL (K:PySem.W.Frag) (H:Hp) (a:Addr) (xs:List V):Prop :=
 Rd H a (.lst xs) ∨
  ∃ (o : Obj) (its : Array Value) (n : Nat), K.lookup a = some o ∧ o.cls = .type "list" ∧ o.dict = none ∧ o.data = .seq its n ∧ its.size ≤ sizeLine ∧ Vals xs its.toList
noncomputable def SqT (K:PySem.W.Frag) (H:Hp) (a:Addr) (xs:List V):Prop :=
 Rd H a (.tup xs) ∨
  ∃ (o : Obj) (its : Array Value) (n : Nat), K.lookup a = some o ∧ o.cls = .type "tuple" ∧ o.data = .seq its n ∧ its.size ≤ sizeLine ∧ Vals xs its.toList
noncomputable def ZhQ:Value→Option V
 | .none=>some .non
 | .bool b=>some (.bl b)
 | .int i _=>some (.int i)
 | .str x _=>some (.str x)
 | .bytes b _=>some (.byt b)
 | .float b _=>some (.flt b)
 | .ref a=>some (.ref a)
 | .type n=>some (.ty n)
 | _=>none
theorem RelV.abs {x:V} {u:Value} (r:RelV x u):ZhQ u=some x:=by
 cases x with
 | non=>cases r; rfl
 | bl _=>cases r; rfl
 | int _=>obtain ⟨t,rfl⟩:=r; rfl
 | str _=>obtain ⟨t,rfl⟩:=r; rfl
 | byt _=>obtain ⟨t,rfl⟩:=r; rfl
 | flt _=>obtain ⟨t,rfl⟩:=r; rfl
 | ref _=>cases r; rfl
 | ty _=>cases r; rfl
theorem RelV.inj {x y:V} {u:Value} (r:RelV x u) (q:RelV y u):x=y:=Option.some.inj (r.abs.symm.trans q.abs)
theorem Vals.inj:∀ {xs ys:List V} {us:List Value},Vals xs us→Vals ys us→xs=ys
 | _,_,_,.nil,.nil=>rfl
 | _,_,_,.cons r t,.cons r' t'=>by rw [r.inj r',Vals.inj t t']
section
variable {X:Cx} {pins:List (Addr×Obj)} {σ:St} {H:Hp} {s:Shared} {a:Addr} {xs ys:List V}
theorem SqL.of {K:PySem.W.Frag} (h:H a=some (.lst xs)):SqL K H a xs:=.inl (.inl h)
theorem SqT.of {K:PySem.W.Frag} (h:H a=some (.tup xs)):SqT K H a xs:=.inl (.inl h)
theorem Inv.list (I:Inv X pins σ H s) (h:SqL X.K H a xs):∃ its:List Value,Vals xs its∧PlainL s.heap a its.toArray∧xs.length≤sizeLine:=by
 rcases h with h | ⟨o,its,n,hk,hc,hd,hs,hz,r⟩
 ·obtain ⟨z,its,n,r,e⟩:=h.ok I.hok
  exact ⟨its,r,⟨_,n,e,rfl,rfl,rfl⟩,z⟩
 ·refine ⟨its.toList,r,⟨o,n,I.kIn a o hk,hc,hd,by simpa using hs⟩,?_⟩
  have e:=r.length
  simp only [Array.length_toList] at e
  omega
theorem Inv.tuple (I:Inv X pins σ H s) (h:SqT X.K H a xs):∃ its:List Value,Vals xs its∧IsTup s.heap a its.toArray∧xs.length≤sizeLine:=by
 rcases h with h | ⟨o,its,n,hk,hc,hs,hz,r⟩
 ·obtain ⟨z,its,r,p,_⟩:=h.ok I.hok
  exact ⟨its,r,p,z⟩
 ·refine ⟨its.toList,r,⟨o,I.kIn a o hk,hc,n,by simpa using hs⟩,?_⟩
  have e:=r.length
  simp only [Array.length_toList] at e
  omega
theorem Inv.list_inj (I:Inv X pins σ H s) (h:SqL X.K H a xs) (h':SqL X.K H a ys):xs=ys:=by
 obtain ⟨its,r,⟨o,n,e,_,_,d⟩,_⟩:=I.list h
 obtain ⟨its',r',⟨o',n',e',_,_,d'⟩,_⟩:=I.list h'
 rw [e] at e'; cases e'
 rw [d] at d'
 injection d' with d1 _
 have:its=its':=by simpa using congrArg Array.toList d1
 subst this
 exact r.inj r'
theorem Inv.tuple_inj (I:Inv X pins σ H s) (h:SqT X.K H a xs) (h':SqT X.K H a ys):xs=ys:=by
 obtain ⟨its,r,⟨o,e,_,n,d⟩,_⟩:=I.tuple h
 obtain ⟨its',r',⟨o',e',_,n',d'⟩,_⟩:=I.tuple h'
 rw [e] at e'; cases e'
 rw [d] at d'
 injection d' with d1 _
 have:its=its':=by simpa using congrArg Array.toList d1
 subst this
 exact r.inj r'
end
noncomputable abbrev Cx.wish (X:Cx) (E:Value→Shared→Prop):Cx:={ X with xe:=E }
noncomputable abbrev Cx.nox (X:Cx):Cx:=X.wish fun _ _=>False
theorem Cx.Ok.wish {X:Cx} (ok:X.Ok) (E:Value→Shared→Prop):(X.wish E).Ok :=
 ⟨ok.mod,ok.kind,ok.glob,ok.blt,ok.above,ok.inj,ok.has,ok.cab,ok.hd,ok.frames,ok.stk,ok.exf,ok.bs,ok.bsz,ok.noex,ok.exfs,ok.funs,ok.frf⟩
theorem Cx.Ok.unwish {X:Cx} {E:Value→Shared→Prop} (ok:(X.wish E).Ok):X.Ok :=
 ⟨ok.mod,ok.kind,ok.glob,ok.blt,ok.above,ok.inj,ok.has,ok.cab,ok.hd,ok.frames,ok.stk,ok.exf,ok.bs,ok.bsz,ok.noex,ok.exfs,ok.funs,ok.frf⟩
section
variable {X:Cx} {pins:List (Addr×Obj)} {σ:St} {H:Hp} {s:Shared} {E:Value→Shared→Prop}
theorem Inv.wish (I:Inv X pins σ H s) (E:Value→Shared→Prop):Inv (X.wish E) pins σ H s:=⟨I.ok.wish E,I.os,I.bare,I.base,I.loc,I.cell,I.free,I.freeC,I.pin,I.hok,I.len⟩
theorem Inv.unwish (I:Inv (X.wish E) pins σ H s):Inv X pins σ H s:=⟨I.ok.unwish,I.os,I.bare,I.base,I.loc,I.cell,I.free,I.freeC,I.pin,I.hok,I.len⟩
theorem SP.unwish {D:Ends} {f:Flow} {s':Shared} (h:SP (X.wish E) pins D f s'):SP X pins D f s':=by
 cases f with
 | next=>obtain ⟨σ',H',I,q⟩:=h; exact ⟨σ',H',I.unwish,q⟩
 | brk=>obtain ⟨σ',H',I,q⟩:=h; exact ⟨σ',H',I.unwish,q⟩
 | cont=>obtain ⟨σ',H',I,q⟩:=h; exact ⟨σ',H',I.unwish,q⟩
 | ret u=>obtain ⟨v,σ',H',I,r,q⟩:=h; exact ⟨v,σ',H',I.unwish,r,q⟩
theorem PSs.nox {st:List Stmt} {t:TS} (h:PSs X.nox st t):PSs X st t:=fun pins s σ H D I hw =>
 wpAny_mono (h pins s σ H D (I.wish _) hw) (fun _ _ q=>q.unwish) fun _ _ z=>False.elim z
end
section
variable {X:Cx} {st:Stmt} {rest:List Stmt} {t u:TS} {e:Expr} {te:TE} {pos:Pos}
noncomputable def ZkE:TS:=fun D σ H=>D.nx σ H
noncomputable def ZkW (t u:TS):TS:=fun D σ H=>t { D with nx:=u D } σ H
theorem Zky:PSs X [] ZkE:=fun _ _ σ H _ I h=>wpAny_execs_nil ⟨σ,H,I,h⟩
theorem ZkR (h1:PS X st t) (h2:PSs X rest u):PSs X (st :: rest) (ZkW t u):=by
 intro pins s σ H D I h
 refine wpAny_execs_cons (thn (h1 pins s σ H { D with nx:=u D } I h) fun f s1 q => ?_)
 cases f with
 | next =>
  obtain ⟨σ',H',I',q⟩:=q
  exact h2 pins s1 σ' H' D I' q
 | ret v=>exact q
 | brk=>exact q
 | cont=>exact q
theorem Zj2 (h1:PS X st t):PSs X [st] t:=by
 intro pins s σ H D I h
 refine wpAny_execs_cons (thn (h1 pins s σ H D I h) fun f s1 q => ?_)
 cases f with
 | next=>exact wpAny_execs_nil q
 | ret v=>exact q
 | brk=>exact q
 | cont=>exact q
theorem Inv.quiet {pins:List (Addr×Obj)} {σ:St} {H:Hp} {s:Shared} (I:Inv X pins σ H s):interactive X.env=false:=by simp [interactive,I.ok.kind]
noncomputable def ZlA (te:TE):TS:=fun D σ H=>te σ H fun _ H1=>D.nx σ H1
theorem Zla (he:PE X e te) (hs:swapsWith e none pos.line X.env=pure false:=by rfl):PS X (.Expr e pos) (ZlA te):=by
 intro pins s σ H D I h
 exact wpAny_Expr_any (thn (he pins s σ H _ I h) fun v s1 ⟨x,H1,I1,r1,q1⟩=>⟨σ,H1,I1,q1⟩) I.quiet hs
noncomputable def ZlW (te:TE):TS:=fun D σ H=>te σ H D.rt
theorem ZkO (he:PE X e te):PS X (.Return (some e) pos) (ZlW te):=by
 intro pins s σ H D I h
 exact wpAny_Return_some (thn (he pins s σ H _ I h) fun v s1 ⟨x,H1,I1,r1,q1⟩=>⟨x,σ,H1,I1,r1,q1⟩)
noncomputable def Zkq (c:TT) (t u:TS):TS:=fun D σ H=>c σ H fun b H1=>if b=true then t D σ H1 else u D σ H1
theorem Zj7 {c:Expr} {a b:List Stmt} {tc:TT} (hc:PT X c tc) (ha:PSs X a t) (hb:PSs X b u):PS X (.If c a b pos) (Zkq tc t u):=by
 intro pins s σ H D I h
 refine wpAny_If (thn (hc pins s σ H _ I h) fun d s1 ⟨H1,I1,q1⟩ => ?_)
 cases d with
 | true=>exact ha pins s1 σ H1 D I1 q1
 | false=>exact hb pins s1 σ H1 D I1 q1
end
noncomputable abbrev TG:=V→St→Hp→(St→Hp→Prop)→Prop
noncomputable abbrev TGs:=List V→St→Hp→(St→Hp→Prop)→Prop
noncomputable def PG (X:Cx) (target:Expr) (t:TG):Prop :=
 ∀ (pins:List (Addr×Obj)) (s:Shared) (σ:St) (H:Hp) (v:V) (u:Value) (Q:St→Hp→Prop),Inv X pins σ H s→RelV v u→t v σ H Q →
  wpAny (model X.prog X.w) X.A (assign target X.env u) (fun _ s' => ∃ σ' H',Inv X pins σ' H' s'∧Q σ' H') X.xe s
noncomputable def PGs (X:Cx) (ts:List Expr) (t:TGs):Prop :=
 ∀ (pins:List (Addr×Obj)) (s:Shared) (σ:St) (H:Hp) (vs:List V) (us:List Value) (Q:St→Hp→Prop),Inv X pins σ H s→Vals vs us→t vs σ H Q →
  wpAny (model X.prog X.w) X.A (assignInOrder ((assignEach ts X.env).map (·.2)) us) (fun _ s' => ∃ σ' H',Inv X pins σ' H' s'∧Q σ' H') X.xe s
section
variable {X:Cx} {pos:Pos}
noncomputable def Zfl (i:Nat):TG:=fun v σ H Q=>Q (σ.set i (some v)) H
theorem Zf1 {i:Nat} {x:Str} (hN:X.N.Nodup) (hi:X.N[i]?=some x) (hx:Loc X.env.scope x) (hf:X.fn x=true∨X.env.scope.names.lookup x=some .local:=by first | exact .inl rfl | exact .inr rfl | assumption):PG X (.Name x pos) (Zfl i):=by
 intro pins s σ H v u Q I r h
 exact wpAny_assign_Name (ZfI I hN hi hx r (fun s' I'=>⟨_,H,I',h⟩) hf)
noncomputable def Zkr:TGs:=fun vs σ H Q=>vs=[]∧Q σ H
noncomputable def Zic (t:TG) (u:TGs):TGs:=fun vs σ H Q => ∃ v r,vs=v :: r∧t v σ H fun σ' H'=>u r σ' H' Q
theorem Zho:PGs X [] Zkr:=by
 intro pins s σ H vs us Q I r h
 obtain ⟨e,h⟩:=h
 subst e
 cases r
 exact assignInOrder_nil ⟨σ,H,I,h⟩
theorem ZkP {e:Expr} {es:List Expr} {t:TG} {u:TGs} (h1:PG X e t) (h2:PGs X es u)
  (hs:(assignEach (e :: es) X.env).map (·.2)=assign e X.env :: (assignEach es X.env).map (·.2):=by rfl):PGs X (e :: es) (Zic t u):=by
 intro pins s σ H vs us Q I r h
 obtain ⟨v,vr,e1,h⟩:=h
 subst e1
 cases r with
 | cons r rr =>
  rw [hs]
  refine assignInOrder_cons (thn (h1 pins s σ H _ _ _ I r h) fun _ s1 ⟨σ1,H1,I1,q1⟩ => ?_)
  exact h2 pins s1 σ1 H1 _ _ Q I1 rr q1
noncomputable def Ziw (K:PySem.W.Frag) (n:Nat) (t:TGs):TG:=fun v σ H Q => ∃ a xs,v = .ref a∧SqT K H a xs∧xs.length=n∧t xs σ H Q
theorem Zmm {es:List Expr} {k:Nat} {t:TGs} {n:Nat} (hc:X.calm=true) (h:PGs X es t)
  (hn:(assignEach es X.env).length=n:=by rfl) (hst:(assignEach es X.env).findIdx? (·.1)=none:=by rfl):PG X (.Tuple es k pos) (Ziw X.K n t):=by
 intro pins s σ H v u Q I r hw
 obtain ⟨a,xs,e1,hq,hl,hw⟩:=hw
 subst e1
 cases r
 obtain ⟨its,rv,ht,hz⟩:=I.tuple hq
 refine assign_Tuple_tuple (I.ok.hd hc) ht (by simp [hn,← hl,rv.length]) hst fun h' hx => ?_
 have I1:Inv X pins σ H { s with heap:=h' }:=I.kept (t':=s.toks) fun b o e=>hx b o (Nat.ne_of_lt (Heap.lt_size e)) e
 exact h pins _ σ H xs _ Q I1 (by simpa using rv) hw
noncomputable def Zlc (te:TE) (g:TG):TS:=fun D σ H=>te σ H fun x H1=>g x σ H1 D.nx
theorem ZeO {i:Nat} {x:Str} {e:Expr} {te:TE} {pos':Pos} (hN:X.N.Nodup) (hi:X.N[i]?=some x) (hx:Loc X.env.scope x) (he:PE X e te) (hs:swapsWith e (some (.Name x pos')) pos.line X.env=pure false:=by rfl) (hf:X.fn x=true∨X.env.scope.names.lookup x=some .local:=by first | exact .inl rfl | exact .inr rfl | assumption) :
  PS X (.Assign [.Name x pos'] e pos) (Zlc te (Zfl i)):=by
 intro pins s σ H D I h
 refine wpAny_Assign_Name (thn (he pins s σ H _ I h) fun v s1 ⟨y,H1,I1,r1,q1⟩ => ?_) hs
 exact ZfI I1 hN hi hx r1 (fun s2 I2=>⟨_,H1,I2,q1⟩) hf
end
section
variable {X:Cx} {pos:Pos}
noncomputable def Znx (c:TT) (tb:TS):TS:=fun D σ H => ∃ W:Nat→St→Hp→Prop,(∃ m,W m σ H)∧∀ m σ H,W m σ H →
 c σ H fun b H1=>if b=true then ∃ N:St→Hp→Prop,(∀ σ' H',N σ' H'→∃ m',m' < m∧W m' σ' H')∧tb { D with nx:=N,ct:=N,bk:=D.nx } σ H1 else D.nx σ H1
theorem ZiS {c:Expr} {body:List Stmt} {tc:TT} {tb:TS} (hp:PassesOwn (model X.prog X.w) X.A X.env X.xe) (hc:PT X c tc) (hb:PSs X body tb):PS X (.While c body [] pos) (Znx tc tb):=by
 intro pins s σ H D I h
 obtain ⟨W,⟨m0,w0⟩,turn⟩:=h
 refine wpAny_While (codeAny_whileLoop (fun n s' => ∃ σ' H',Inv X pins σ' H' s'∧W n σ' H') ?_ m0 ⟨σ,H,I,w0⟩)
 rintro n s1 ⟨σ1,H1,I1,w1⟩
 refine wpAny_passesOwn hp (thn (hc pins s1 σ1 H1 _ I1 (turn n σ1 H1 w1)) fun b s2 ⟨H2,I2,q2⟩ => ?_)
 cases b with
 | true =>
  obtain ⟨N,hN,q2⟩:=q2
  rw [if_pos rfl]
  refine wpAny_passesOwn hp (thn (hb pins s2 σ1 H2 _ I2 q2) fun f s3 q3 => ?_)
  cases f with
  | next =>
   obtain ⟨σ3,H3,I3,n3⟩:=q3
   obtain ⟨m',hm,w3⟩:=hN σ3 H3 n3
   exact ⟨m',hm,σ3,H3,I3,w3⟩
  | cont =>
   obtain ⟨σ3,H3,I3,n3⟩:=q3
   obtain ⟨m',hm,w3⟩:=hN σ3 H3 n3
   exact ⟨m',hm,σ3,H3,I3,w3⟩
  | brk=>exact q3
  | ret v=>exact q3
 | false =>
  rw [if_neg Bool.false_ne_true]
  exact wpAny_execs_nil ⟨σ1,H2,I2,q2⟩
end
structure It where
 go:Nat→Hp→Prop
 yld:Nat→Hp→V→Hp→Prop
 stop:Nat→Hp→Prop
noncomputable def YO (X:Cx) (pins:List (Addr×Obj)) (H:Hp) (b:Addr):Prop :=
 H b=none∧b≠X.env.locals∧b ∉ X.fs∧(b∈X.ex∨X.s₀.heap.objs.size≤b)∧(∀ x c,X.env.cells.lookup x=some c→c≠b)∧∀ p∈X.pn++pins,p.1≠b
theorem Inv.fpOk {X:Cx} {pins:List (Addr×Obj)} {σ:St} {H H':Hp} {s:Shared} {b:Addr} (I:Inv X pins σ H s) (hb:s.heap.objs.size≤b) (hn:H' b=none):YO X pins H' b:=by
 refine ⟨hn,Nat.ne_of_gt (Nat.lt_of_lt_of_le I.lt hb),I.nofs hb,.inr (Nat.le_trans I.sz hb),fun x c e z => ?_,fun p hp z => ?_⟩
 ·obtain ⟨v,q⟩:=I.cell x c e
  exact absurd (Nat.lt_of_lt_of_le q.lt (by rw [z]; exact hb)) (Nat.lt_irrefl _)
 ·exact absurd (Nat.lt_of_lt_of_le (Heap.lt_size (I.pin p hp).1) (by rw [z]; exact hb)) (Nat.lt_irrefl _)
structure Turn (P:Program) (w:World) (K:PySem.W.Frag) (tg:Expr) (J:It) (fp:List Addr) (it:Addr) (tn:Nat→Heap→Prop):Prop where
 mem:it∈fp
 obj:∀ i h,tn i h→∀ b∈fp,∃ o,h.get? b=some o∧∀ v,o.data≠.cell v
 keep:∀ i h h',tn i h→(∀ b∈fp,∀ o,h.get? b=some o→h'.get? b=some o)→tn i h'
 item:∀ (X:Cx),X.prog=P→X.w=w→X.K=K→X.calm=true→∀ (i:Nat) (pins:List (Addr×Obj)) (s:Shared) (σ:St) (H:Hp) (E:Value→Shared→Prop),Inv X pins σ H s→(∀ b∈fp,YO X pins H b)→tn i s.heap→J.go i H →
  wpAny (model P w) X.A (pyNext (.ref it)) (fun r s1 => ∃ u,r=some u ∧
   wpAny (model P w) X.A (letOwnedTupleGo tg (.ref it) u) (fun _ s2 => ∃ x H',Inv X pins σ H' s2∧RelV x u∧J.yld i H x H'∧tn (i+1) s2.heap∧∀ b∈fp,H' b=none) E s1) E s
 done:∀ (X:Cx),X.prog=P→X.w=w→X.K=K→X.calm=true→∀ (i:Nat) (pins:List (Addr×Obj)) (s:Shared) (σ:St) (H:Hp) (E:Value→Shared→Prop),Inv X pins σ H s→(∀ b∈fp,YO X pins H b)→tn i s.heap→J.stop i H →
  wpAny (model P w) X.A (pyNext (.ref it)) (fun r s1=>r=none∧Inv X pins σ H s1) E s
 self:∀ (A:Around) (i:Nat) (s:Shared) (Q:Value→Shared→Prop) (E:Value→Shared→Prop),tn i s.heap→Q (.ref it) s→wpAny (model P w) A (pyIter (.ref it)) Q E s
noncomputable abbrev TI:=St→Hp→(It→Hp→Prop)→Prop
noncomputable def PIE (X:Cx) (pins:List (Addr×Obj)) (σ:St) (tg:Expr) (R:It→Hp→Prop) (itv:Value) (s2:Shared):Prop :=
 ∃ (it:Addr) (fp:List Addr) (tn:Nat→Heap→Prop) (J:It) (H':Hp),itv = .ref it∧Inv X pins σ H' s2∧Turn X.prog X.w X.K tg J fp it tn∧tn 0 s2.heap∧(∀ b∈fp,YO X pins H' b)∧R J H'
noncomputable def PI (X:Cx) (tg iter:Expr) (wi:TI):Prop :=
 ∀ (pins:List (Addr×Obj)) (s:Shared) (σ:St) (H:Hp) (R:It→Hp→Prop),Inv X pins σ H s→wi σ H R →
  wpAny (model X.prog X.w) X.A (eval iter X.env) (fun v s1=>wpAny (model X.prog X.w) X.A (pyIter v) (PIE X pins σ tg R) X.xe s1) X.xe s
theorem Zcl {M:Model} {A:Around} {E:Value→Shared→Prop} {s:Shared} {tg:Expr} {it:Addr} {u:Value} {o:Obj} {n:String} {vs:Array Value} {Q:Unit→Shared→Prop} (ho:s.heap.get? it=some o) (hc:o.cls = .type n) (hd:o.data = .fields vs)
    (hn : ["enumerate", "zip", "dict_itemiterator", "dict_reverseitemiterator", "odict_iterator", "itertools.zip_longest", "itertools.pairwise"].contains n = false) (hQ : Q () s) : wpAny M A (letOwnedTupleGo tg (.ref it) u) Q E s := by
  unfold letOwnedTupleGo
  cases tg <;> first
    | exact wpAny_pure hQ
    | (cases u <;> first
        | exact wpAny_pure hQ
        | (refine wpAny_bind (wpAny_load ho ?_)
           rw [hc,hd]
           show wpAny M A (if (["enumerate", "zip", "dict_itemiterator", "dict_reverseitemiterator", "odict_iterator", "itertools.zip_longest", "itertools.pairwise"].contains n && vs[0]? == some (rawInt _)) = true then _ else _) Q E s
           rw [if_neg (by intro h; rw [hn,Bool.false_and] at h; cases h)]
           exact wpAny_pure hQ))
noncomputable def Itl (K:PySem.W.Frag) (a:Addr):It :=
 ⟨fun i H => ∃ xs x,SqL K H a xs∧xs[i]?=some x,fun i H x H'=>H'=H∧∀ xs,SqL K H a xs→xs[i]?=some x,fun i H => ∃ xs,SqL K H a xs∧xs.length≤i⟩
noncomputable def Itt (K:PySem.W.Frag) (a:Addr):It :=
 ⟨fun i H => ∃ xs x,SqT K H a xs∧xs[i]?=some x,fun i H x H'=>H'=H∧∀ xs,SqT K H a xs→xs[i]?=some x,fun i H => ∃ xs,SqT K H a xs∧xs.length≤i⟩
noncomputable def Itr (lo:Int) (n:Nat):It:=⟨fun i _=>i<n,fun i H x H'=>H'=H∧x = .int (lo+i),fun i _=>n≤i⟩
theorem Zhb {P:Program} {w:World} {K:PySem.W.Frag} {tg:Expr} (a it:Addr):Turn P w K tg (Itl K a) [it] it (fun i h=>h.IsListIter it a i) where
 mem:=by simp
 obj:=fun i h st b hb=>by
  have e:b=it:=by simpa using hb
  subst e
  obtain ⟨o,e,c,d⟩:=st
  exact ⟨o,e,fun v z=>by rw [d] at z; cases z⟩
 keep:=fun i h h' st k=>st.at fun o e=>k it (by simp) o e
 item:=by
  intro X hP hw hK hc i pins s σ H E I hf st hg
  subst hP hw hK
  obtain ⟨xs,x,hq,hx⟩:=hg
  obtain ⟨its,rv,p,hz⟩:=I.list hq
  obtain ⟨u,hu,ru⟩:=rv.get hx
  obtain ⟨f0,f1,f2,f3,f4,f5⟩:=hf it (by simp)
  refine wpAny_pyNext_list_item st p.isList (x:=u) (by simpa using hu) fun h' st' sb => ?_
  have I1:Inv X pins σ H { s with heap:=h' }:=I.turned (t':=s.toks) (fun b o hb e=>(sb.2 b hb).trans e) f0 f1 f3 f4 f5
  obtain ⟨o,e,c,d⟩:=id st'
  exact ⟨u,rfl,Zcl (s:={ s with heap:=h' }) e c d (by decide) ⟨x,H,I1,ru,⟨rfl,fun ys hy=>by rw [I.list_inj hy hq]; exact hx⟩,st',fun b hb=>(hf b hb).1⟩⟩
 done:=by
  intro X hP hw hK hc i pins s σ H E I hf st hg
  subst hP hw hK
  obtain ⟨xs,hq,hx⟩:=hg
  obtain ⟨its,rv,p,hz⟩:=I.list hq
  obtain ⟨f0,f1,f2,f3,f4,f5⟩:=hf it (by simp)
  have hl:=rv.length
  exact wpAny_pyNext_list_end (I.ok.hd hc) st p.isList (by simp; omega) fun h' eb=>⟨rfl,I.turned (t':=s.toks) (fun b o hb e=>eb b o hb e) f0 f1 f3 f4 f5⟩
 self:=fun _ _ _ _ _ st h=>wpAny_pyIter_listiter st h
theorem Zk2 {P:Program} {w:World} {K:PySem.W.Frag} {tg:Expr} (a it:Addr):Turn P w K tg (Itt K a) [it] it (fun i h=>h.IsTupleIter it a i) where
 mem:=by simp
 obj:=fun i h st b hb=>by
  have e:b=it:=by simpa using hb
  subst e
  obtain ⟨o,e,c,d⟩:=st
  exact ⟨o,e,fun v z=>by rw [d] at z; cases z⟩
 keep:=fun i h h' st k=>st.at fun o e=>k it (by simp) o e
 item:=by
  intro X hP hw hK hc i pins s σ H E I hf st hg
  subst hP hw hK
  obtain ⟨xs,x,hq,hx⟩:=hg
  obtain ⟨its,rv,p,hz⟩:=I.tuple hq
  obtain ⟨u,hu,ru⟩:=rv.get hx
  obtain ⟨f0,f1,f2,f3,f4,f5⟩:=hf it (by simp)
  refine wpAny_pyNext_tuple_item st (show s.heap.IsTuple a its.toArray from p) (x:=u) (by simpa using hu) fun h' st' sb => ?_
  have I1:Inv X pins σ H { s with heap:=h' }:=I.turned (t':=s.toks) (fun b o hb e=>(sb.2 b hb).trans e) f0 f1 f3 f4 f5
  obtain ⟨o,e,c,d⟩:=id st'
  exact ⟨u,rfl,Zcl (s:={ s with heap:=h' }) e c d (by decide) ⟨x,H,I1,ru,⟨rfl,fun ys hy=>by rw [I.tuple_inj hy hq]; exact hx⟩,st',fun b hb=>(hf b hb).1⟩⟩
 done:=by
  intro X hP hw hK hc i pins s σ H E I hf st hg
  subst hP hw hK
  obtain ⟨xs,hq,hx⟩:=hg
  obtain ⟨its,rv,p,hz⟩:=I.tuple hq
  obtain ⟨f0,f1,f2,f3,f4,f5⟩:=hf it (by simp)
  have hl:=rv.length
  exact wpAny_pyNext_tuple_end (I.ok.hd hc) st (show s.heap.IsTuple a its.toArray from p) (by simp; omega) fun h' eb=>⟨rfl,I.turned (t':=s.toks) (fun b o hb e=>eb b o hb e) f0 f1 f3 f4 f5⟩
 self:=fun _ _ _ _ _ st h=>wpAny_pyIter_tupleiter st h
theorem Znu {P:Program} {w:World} {K:PySem.W.Frag} {tg:Expr} (it:Addr) (lo:Int) (n:Nat):Turn P w K tg (Itr lo n) [it] it (fun i h=>IsRangeIter h it (lo+(i:Nat) * 1) ((n:Int) - (i:Nat)) 1) where
 mem:=by simp
 obj:=fun i h st b hb=>by
  have e:b=it:=by simpa using hb
  subst e
  exact ⟨_,st,fun v z=>by
   have z':Data.fields _=Data.cell v:=z
   cases z'⟩
 keep:=fun i h h' st k=>k it (by simp) _ st
 item:=by
  intro X hP hw hK hc i pins s σ H E I hf st hg
  subst hP hw hK
  obtain ⟨f0,f1,f2,f3,f4,f5⟩:=hf it (by simp)
  have W:=Walks.range (prog:=X.prog) (w:=X.w) (I.ok.hd hc) it lo 1 n
  refine W.item i s _ _ hg st fun v h' tk hv st' kk => ?_
  obtain ⟨t,rfl⟩:=hv
  have I1:Inv X pins σ H { s with heap:=h',toks:=tk }:=I.turned (fun b o hb e=>kk b o (by simpa using hb) e) f0 f1 f3 f4 f5
  refine ⟨_, rfl, Zcl (s := { s with heap := h', toks := tk }) (n := "range_iterator") st' rfl rfl (by decide) ⟨.int (lo + i), H, I1, ⟨t, ?_⟩, ⟨rfl, rfl⟩, st', fun b hb => (hf b hb).1⟩⟩
  rw [Int.mul_one]
 done:=by
  intro X hP hw hK hc i pins s σ H E I hf st hg
  subst hP hw hK
  obtain ⟨f0,f1,f2,f3,f4,f5⟩:=hf it (by simp)
  exact wpAny_pyNext_range_end (I.ok.hd hc) st (by have:n≤i:=hg; omega) fun h' eb=>⟨rfl,I.turned (t':=s.toks) (fun b o hb e=>eb b o hb e) f0 f1 f3 f4 f5⟩
 self:=fun _ _ _ _ _ st h=>wpAny_pyIter_rangeiter st h
end L2
namespace L2
open PySem PySem.Spec PyProof.Rows
section
variable {X:Cx} {tg:Expr}
noncomputable def Zjh (K:PySem.W.Frag) (tl:TE):TI:=fun σ H R=>tl σ H fun x H1 => ∃ a,x = .ref a∧(∃ xs,SqL K H1 a xs)∧R (Itl K a) H1
noncomputable def Zi5 (K:PySem.W.Frag) (tl:TE):TI:=fun σ H R=>tl σ H fun x H1 => ∃ a,x = .ref a∧(∃ xs,SqT K H1 a xs)∧R (Itt K a) H1
theorem ZiQ {l:Expr} {tl:TE} (hl:PE X l tl):PI X tg l (Zjh X.K tl):=by
 intro pins s σ H R I h
 refine thn (hl pins s σ H _ I h) fun v s1 ⟨x,H1,I1,r1,q1⟩ => ?_
 obtain ⟨a,e,⟨xs,hq⟩,q⟩:=q1
 subst e
 cases r1
 obtain ⟨its,rv,p,hz⟩:=I1.list hq
 refine wpAny_pyIter_list p.isList ?_
 refine ⟨s1.heap.objs.size,[s1.heap.objs.size],_,_,H1,rfl,I1.kept (t':=s1.toks) fun b o e=>Heap.get?_push_of_some _ e,Zhb a _,⟨_,Heap.get?_push_size _ rfl,rfl,rfl⟩,fun b hb => ?_,q⟩
 have e:b=s1.heap.objs.size:=by simpa using hb
 subst e
 exact I1.fpOk (Nat.le_refl _) (I1.hok.fresh (Nat.le_refl _))
theorem ZhE {l:Expr} {tl:TE} (hl:PE X l tl):PI X tg l (Zi5 X.K tl):=by
 intro pins s σ H R I h
 refine thn (hl pins s σ H _ I h) fun v s1 ⟨x,H1,I1,r1,q1⟩ => ?_
 obtain ⟨a,e,⟨xs,hq⟩,q⟩:=q1
 subst e
 cases r1
 obtain ⟨its,rv,p,hz⟩:=I1.tuple hq
 refine wpAny_pyIter_tuple (show s1.heap.IsTuple a its.toArray from p) ?_
 refine ⟨s1.heap.objs.size,[s1.heap.objs.size],_,_,H1,rfl,I1.kept (t':=s1.toks) fun b o e=>Heap.get?_push_of_some _ e,Zk2 a _,⟨_,Heap.get?_push_size _ rfl,rfl,rfl⟩,fun b hb => ?_,q⟩
 have e:b=s1.heap.objs.size:=by simpa using hb
 subst e
 exact I1.fpOk (Nat.le_refl _) (I1.hok.fresh (Nat.le_refl _))
theorem Zhl {pins:List (Addr×Obj)} {σ:St} {H:Hp} {s:Shared} {R:It→Hp→Prop} {E:Value→Shared→Prop} {lo hi:Int} {t u v:Tok} {tk:Nat} (I:Inv X pins σ H s) (h1 : -(2 ^ 62)≤lo) (h2:lo<2 ^ 62) (h3 : -(2 ^ 62)≤hi) (h4:hi<2 ^ 62)
  (q : R (Itr lo (hi - lo).toNat) H) : wpAny (model X.prog X.w) X.A (pyIter (.ref s.heap.objs.size)) (PIE X pins σ tg R) E { s with heap := s.heap.push { cls := .type "range", data := .fields #[.int lo t, .int hi u, .int 1 v] }, toks := tk } := by
 refine wpAny_pyIter_range (IsRange.new ..) (small_one h1 h2 h3 h4) ?_
 have I1 : Inv X pins σ H { s with heap := s.heap.push { cls := .type "range", data := .fields #[.int lo t, .int hi u, .int 1 v] }, toks := tk } := I.kept fun b o e => Heap.get?_push_of_some _ e
 refine ⟨(s.heap.push { cls := .type "range", data := .fields #[.int lo t, .int hi u, .int 1 v] }).objs.size, [(s.heap.push { cls := .type "range", data := .fields #[.int lo t, .int hi u, .int 1 v] }).objs.size], _, _, H, rfl,
  I1.kept (t':=tk) fun b o e=>Heap.get?_push_of_some _ e,Znu _ lo (hi - lo).toNat,?_,fun b hb => ?_,q⟩
 ·have e1:lo+((0:Nat):Int) * 1=lo:=by simp
  have e2:(((hi - lo).toNat:Nat):Int) - ((0:Nat):Int)=Builtin.Range.rangeSize lo hi 1:=by rw [rangeSize_one]; split <;> omega
  show IsRangeIter _ _ (lo+((0:Nat):Int) * 1) ((((hi - lo).toNat:Nat):Int) - ((0:Nat):Int)) 1
  rw [e1,e2]
  exact Heap.get?_push_size _ rfl
 ·have e : b = (s.heap.push { cls := .type "range", data := .fields #[.int lo t, .int hi u, .int 1 v] }).objs.size := by simpa using hb
  subst e
  exact I1.fpOk (Nat.le_refl _) (I1.hok.fresh (Nat.le_refl _))
noncomputable def Zl1 (ta:TA):TI:=fun σ H R=>ta σ H fun vs H1 => ∃ j:Int,vs=[.int j]∧-(2 ^ 62)≤j∧j<2 ^ 62∧R (Itr 0 j.toNat) H1
theorem ZjD {a : Expr} {ta : TA} {p pos : Pos} (hg : Gl X "range") (hm : X.mg "range" = none) (ha : PA X [a] ta) (hs : starEach [a] X.env = [(false, eval a X.env)] := by rfl) : PI X tg (.Call (.Name "range" p) [a] [] pos) (Zl1 ta) := by
 intro pins s σ H R I h
 refine Call_ (QE I hg hm boot_range (PyProof.Rows.callWith_type1 (thn (ha pos pins s σ H _ I h) fun us s1 ⟨vs,H1,I1,r1,q1⟩ => ?_) hs rfl))
 obtain ⟨j,e,q1,q2,q⟩:=q1
 subst e
 cases r1 with
 | cons r rr =>
  cases rr
  obtain ⟨t,rfl⟩:=r
  exact call_range_1 (Zhl I1 (by omega) (by omega) q1 q2 (by simpa using q))
noncomputable def ZlG (wi:TI) (g:TG) (tb:TS):TS:=fun D σ H=>wi σ H fun J H1 => ∃ W:Nat→Nat→St→Hp→Prop,(∃ m,W 0 m σ H1)∧∀ i m σ H,W i m σ H →
 (J.stop i H∧D.nx σ H)∨(J.go i H∧∃ N:St→Hp→Prop,(∀ σ' H',N σ' H'→∃ m',m' < m∧W (i+1) m' σ' H')∧∀ x H',J.yld i H x H'→g x σ H' fun σ2 H2=>tb { D with nx:=N,ct:=N,bk:=D.nx } σ2 H2)
noncomputable def YF (fp:List Addr) (h:Heap):List (Addr×Obj):=fp.filterMap fun b=>(h.get? b).map fun o=>(b,o)
theorem Zbn {fp:List Addr} {h:Heap} {b:Addr} {o:Obj} (hb:b∈fp) (e:h.get? b=some o):(b,o)∈YF fp h:=List.mem_filterMap.mpr ⟨b,hb,by rw [e]; rfl⟩
theorem Zgk {fp:List Addr} {h:Heap} {p:Addr×Obj} (hp:p∈YF fp h):p.1∈fp∧h.get? p.1=some p.2:=by
 obtain ⟨b,hb,e⟩:=List.mem_filterMap.mp hp
 cases q:h.get? b with
 | none=>rw [q] at e; cases e
 | some o =>
  rw [q] at e
  have e':(b,o)=p:=Option.some.inj e
  subst e'
  exact ⟨hb,q⟩
theorem Inv.pinned {pins:List (Addr×Obj)} {σ:St} {H:Hp} {s:Shared} {fp:List Addr} (I:Inv X pins σ H s) (hf:∀ b∈fp,YO X pins H b) (ho:∀ b∈fp,∃ o,s.heap.get? b=some o∧∀ v,o.data≠.cell v):Inv X (pins++YF fp s.heap) σ H s :=
 I.pins_of fun p hp=>(List.mem_append.mp hp).elim (fun z=>I.pin p (List.mem_append_right _ z)) fun z=>by
  obtain ⟨hb,e⟩:=Zgk z
  obtain ⟨f0,f1,f2,_⟩:=hf p.1 hb
  obtain ⟨o,e',d⟩:=ho p.1 hb
  rw [e] at e'; cases e'
  exact ⟨e,f0,f1,f2,d⟩
theorem Inv.unpinned {pins pl:List (Addr×Obj)} {σ:St} {H:Hp} {s:Shared} (I:Inv X (pins++pl) σ H s):Inv X pins σ H s:=I.pins_of fun p hp=>I.pin p (List.mem_append_right _ (List.mem_append_left _ hp))
theorem Zlb {iter:Expr} {body:List Stmt} {wi:TI} {g:TG} {tb:TS} {pos:Pos} (hp:PassesOwn (model X.prog X.w) X.A X.env X.xe) (hc:X.calm=true) (hi:PI X tg iter wi) (hg:PG X tg g) (hb:PSs X body tb)
  (hs:∀ x,foldedSetIterable iter X.env x=pure x:=by intro _; rfl):PS X (.For tg iter body [] pos) (ZlG wi g tb):=by
 intro pins s σ H D I h
 refine wpAny_For (thn (hi pins s σ H _ I h) fun v s1 h1=>thn h1 fun itv s2 h2 => ?_) hs
 obtain ⟨it,fp,tn,J,H2,e,I2,T,st2,f2,W,⟨m0,w0⟩,turn⟩:=h2
 subst e
 have stat:∀ {H':Hp},(∀ b∈fp,H' b=none)→∀ b∈fp,YO X pins H' b:=fun hn b hb=>⟨hn b hb,(f2 b hb).2⟩
 refine codeAny_forLoop_any (fun n s' => ∃ i σ' H',Inv X pins σ' H' s'∧tn i s'.heap∧(∀ b∈fp,H' b=none)∧W i n σ' H') ?_ m0 ⟨0,σ,H2,I2,st2,fun b hb=>(f2 b hb).1,w0⟩
 rintro n s3 ⟨i,σ3,H3,I3,st3,fr3,w3⟩
 rcases turn i n σ3 H3 w3 with ⟨stop,qn⟩ | ⟨go,N,hN,step⟩
 ·refine wpAny_passesOwn hp (thn (T.done X rfl rfl rfl hc i pins s3 σ3 H3 X.xe I3 (stat fr3) st3 stop) fun r s4 ⟨hr,I4⟩ => ?_)
  subst hr
  exact wpAny_execs_nil ⟨σ3,H3,I4,qn⟩
 ·refine wpAny_passesOwn hp (thn (T.item X rfl rfl rfl hc i pins s3 σ3 H3 X.xe I3 (stat fr3) st3 go) fun r s4 ⟨u,hr,h4⟩ => ?_)
  subst hr
  refine wpAny_passesOwn hp (thn h4 fun _ s5 ⟨x,H5,I5,r5,y5,st5,fr5⟩ => ?_)
  have I5':=I5.pinned (stat fr5) (T.obj _ _ st5)
  refine wpAny_passesOwn hp (thn (hg _ s5 σ3 H5 x u _ I5' r5 (step x H5 y5)) fun _ s6 ⟨σ6,H6,I6,q6⟩ => ?_)
  refine wpAny_passesOwn hp (thn (hb _ s6 σ6 H6 _ I6 q6) fun f s7 q7 => ?_)
  have again:∀ {σ7:St} {H7:Hp},Inv X (pins++YF fp s5.heap) σ7 H7 s7→N σ7 H7→∃ m,m<n∧∃ i σ' H',Inv X pins σ' H' s7∧tn i s7.heap∧(∀ b∈fp,H' b=none)∧W i m σ' H':=fun {σ7 H7} I7 n7=>by
   obtain ⟨m',hm,w7⟩:=hN σ7 H7 n7
   refine ⟨m',hm,i+1,σ7,H7,I7.unpinned,T.keep _ _ _ st5 fun b hb o e=>(I7.pin (b,o) (List.mem_append_right _ (List.mem_append_right _ (Zbn hb e)))).1,fun b hb => ?_,w7⟩
   obtain ⟨o,e,d⟩:=T.obj _ _ st5 b hb
   exact (I7.pin (b,o) (List.mem_append_right _ (List.mem_append_right _ (Zbn hb e)))).2.1
  cases f with
  | next=>obtain ⟨σ7,H7,I7,n7⟩:=q7; exact again I7 n7
  | cont=>obtain ⟨σ7,H7,I7,n7⟩:=q7; exact again I7 n7
  | brk=>obtain ⟨σ7,H7,I7,q7⟩:=q7; exact ⟨σ7,H7,I7.unpinned,q7⟩
  | ret v=>obtain ⟨x7,σ7,H7,I7,r7,q7⟩:=q7; exact ⟨x7,σ7,H7,I7.unpinned,r7,q7⟩
end
end L2
namespace L2
open PySem PySem.Spec PyProof.Rows
noncomputable abbrev R2:=V→V→Hp→VK→Prop
noncomputable def OpR (X:Cx) (f:Value→Value→Sem Value) (r:R2):Prop :=
 ∀ (pins:List (Addr×Obj)) (s:Shared) (σ:St) (H:Hp) (x y:V) (v u:Value) (Q:VK),Inv X pins σ H s→RelV x v→RelV y u→r x y H Q →
  wpAny (model X.prog X.w) X.A (f v u) (EP X pins σ Q) X.xe s
noncomputable def UnR (X:Cx) (f:Value→Sem Value) (r:V→Hp→VK→Prop):Prop :=
 ∀ (pins:List (Addr×Obj)) (s:Shared) (σ:St) (H:Hp) (x:V) (v:Value) (Q:VK),Inv X pins σ H s→RelV x v→r x H Q →
  wpAny (model X.prog X.w) X.A (f v) (EP X pins σ Q) X.xe s
noncomputable def YW (X:Cx) (f:Value) (r:List V→Hp→VK→Prop):Prop :=
 ∀ (pins:List (Addr×Obj)) (s:Shared) (σ:St) (H:Hp) (xs:List V) (us:List Value) (Q:VK),Inv X pins σ H s→Vals xs us→r xs H Q →
  wpAny (model X.prog X.w) X.A (call f us) (EP X pins σ Q) X.xe s
noncomputable def tOp (r:R2) (ta tb:TE):TE:=fun σ H Q=>ta σ H fun x H1=>tb σ H1 fun y H2=>r x y H2 Q
noncomputable def tUn (r:V→Hp→VK→Prop) (ta:TE):TE:=fun σ H Q=>ta σ H fun x H1=>r x H1 Q
noncomputable def rI (C:Int→Int→Prop) (g:Int→Int→V):R2:=fun x y H Q => ∃ i j,x = .int i∧y = .int j∧C i j∧Q (g i j) H
noncomputable def rI0 (g:Int→Int→V):R2:=fun x y H Q => ∃ i j,x = .int i∧y = .int j∧Q (g i j) H
noncomputable def rU (g:Int→V):V→Hp→VK→Prop:=fun x H Q => ∃ i,x = .int i∧Q (g i) H
section
variable {X:Cx} {a b c:Expr} {ta tb tc:TE} {pos:Pos}
theorem ZcX (ha:PE X a ta) (hb:PE X b tb) {pins:List (Addr×Obj)} {s:Shared} {σ:St} {H:Hp} {R:V→V→Hp→Prop} (I:Inv X pins σ H s)
  (h:ta σ H fun x H1=>tb σ H1 fun y H2=>R x y H2) {Q:Value→Shared→Prop} {f:Value→Value→Sem Value}
  (hf:∀ v u s2 x y H2,Inv X pins σ H2 s2→RelV x v→RelV y u→R x y H2→wpAny (model X.prog X.w) X.A (f v u) Q X.xe s2) :
  wpAny (model X.prog X.w) X.A (eval a X.env) (fun v s₁=>wpAny (model X.prog X.w) X.A (eval b X.env) (fun u s₂=>wpAny (model X.prog X.w) X.A (f v u) Q X.xe s₂) X.xe s₁) X.xe s:=by
 refine thn (ha pins s σ H _ I h) fun v s1 ⟨x,H1,I1,r1,q1⟩ => ?_
 refine thn (hb pins s1 σ H1 _ I1 q1) fun u s2 ⟨y,H2,I2,r2,q2⟩ => ?_
 exact hf v u s2 x y H2 I2 r1 r2 q2
theorem Zgv {op:Operator} {r:R2} (ho:OpR X (binaryOp op) r) (ha:PE X a ta) (hb:PE X b tb):PE X (.BinOp a op b pos) (tOp r ta tb):=by
 intro pins s σ H Q I h
 exact wpAny_BinOp (ZcX ha hb I h fun v u s2 x y H2 I2 rx ry q=>ho pins s2 σ H2 x y v u Q I2 rx ry q)
theorem ZhI {op:UnaryOp} {r:V→Hp→VK→Prop} (ho:UnR X (unaryOp op) r) (ha:PE X a ta):PE X (.UnaryOp op a pos) (tUn r ta):=by
 intro pins s σ H Q I h
 exact UnaryOp_ (thn (ha pins s σ H _ I h) fun v s1 ⟨x,H1,I1,r1,q1⟩=>ho pins s1 σ H1 x v Q I1 r1 q1)
theorem opI {f:Value→Value→Sem Value} {C:Int→Int→Prop} {g:Int→Int→Int}
  (rule:∀ (i j:Int) (t u:Tok) (s:Shared) (Q:Value→Shared→Prop) (E:Value→Shared→Prop),C i j→Q (.int (g i j) s.toks) { s with toks:=s.toks+1 }→wpAny (model X.prog X.w) X.A (f (.int i t) (.int j u)) Q E s) :
  OpR X f (rI C fun i j => .int (g i j)):=by
 intro pins s σ H x y v u Q I rx ry h
 obtain ⟨i,j,rfl,rfl,hc,q⟩:=h
 obtain ⟨t,rfl⟩:=rx
 obtain ⟨t',rfl⟩:=ry
 exact rule i j t t' s _ _ hc ⟨.int (g i j),H,I.tok _,⟨_,rfl⟩,q⟩
theorem Zit {f:Value→Value→Sem Value} {g:Int→Int→Int}
  (rule:∀ (i j:Int) (t u:Tok) (s:Shared) (Q:Value→Shared→Prop) (E:Value→Shared→Prop),Q (.int (g i j) s.toks) { s with toks:=s.toks+1 }→wpAny (model X.prog X.w) X.A (f (.int i t) (.int j u)) Q E s) :
  OpR X f (rI0 fun i j => .int (g i j)):=by
 intro pins s σ H x y v u Q I rx ry h
 obtain ⟨i,j,rfl,rfl,q⟩:=h
 obtain ⟨t,rfl⟩:=rx
 obtain ⟨t',rfl⟩:=ry
 exact rule i j t t' s _ _ ⟨.int (g i j),H,I.tok _,⟨_,rfl⟩,q⟩
theorem Zkw {f:Value→Value→Sem Value} {g:Int→Int→Bool}
  (rule:∀ (i j:Int) (t u:Tok) (s:Shared) (Q:Value→Shared→Prop) (E:Value→Shared→Prop),Q (.bool (g i j)) s→wpAny (model X.prog X.w) X.A (f (.int i t) (.int j u)) Q E s) :
  OpR X f (rI0 fun i j => .bl (g i j)):=by
 intro pins s σ H x y v u Q I rx ry h
 obtain ⟨i,j,rfl,rfl,q⟩:=h
 obtain ⟨t,rfl⟩:=rx
 obtain ⟨t',rfl⟩:=ry
 exact rule i j t t' s _ _ ⟨.bl (g i j),H,I,rfl,q⟩
noncomputable def ZiH (i j:Int):Prop:=0<j∧j<1073741824
noncomputable def CMul (i j:Int):Prop:=(-(2 ^ 64)<i∧i<2 ^ 64)∨(-(2 ^ 64)<j∧j<2 ^ 64)
theorem CMul.ok {i j:Int} (h:CMul i j):IntMulOk i j:=by
 rcases h with ⟨h1,h2⟩ | ⟨h1,h2⟩
 ·exact .of_left (intBits_le_64 h1 h2)
 ·exact .of_right (intBits_le_64 h1 h2)
theorem ZmG:OpR X (binaryOp .Add) (rI0 fun i j => .int (i+j)):=Zit fun _ _ _ _ _ _ _ q=>add_int q
theorem Zg9:OpR X (binaryOp .Mult) (rI CMul fun i j => .int (i * j)):=opI fun _ _ _ _ _ _ _ hc q=>mul_int q hc.ok
theorem Zme:OpR X (binaryOp .FloorDiv) (rI ZiH fun i j => .int (i / j)):=opI fun i j _ _ _ _ _ hc q=>by
 have h1:(0:Int)<j:=hc.1
 have h2:j<1073741824:=hc.2
 exact floordiv_int (by omega) (by rw [Int.fdiv_eq_ediv_of_nonneg i (by omega)]; exact q) (.inl (PyProof.noPylong_small (by omega)))
theorem Zkm:OpR X (binaryOp .Mod) (rI (fun _ j=>0<j) fun i j => .int (i % j)):=opI fun i j _ _ _ _ _ hc q=>by
 have h1:(0:Int)<j:=hc
 exact mod_int' (by omega) (by rw [Int.fmod_eq_emod_of_nonneg i (by omega)]; exact q)
theorem unI {f:Value→Sem Value} {g:Int→Int}
  (rule:∀ (i:Int) (t:Tok) (s:Shared) (Q:Value→Shared→Prop) (E:Value→Shared→Prop),Q (.int (g i) s.toks) { s with toks:=s.toks+1 }→wpAny (model X.prog X.w) X.A (f (.int i t)) Q E s) :
  UnR X f (rU fun i => .int (g i)):=by
 intro pins s σ H x v Q I rx h
 obtain ⟨i,rfl,q⟩:=h
 obtain ⟨t,rfl⟩:=rx
 exact rule i t s _ _ ⟨.int (g i),H,I.tok _,⟨_,rfl⟩,q⟩
theorem Zni:UnR X (unaryOp .USub) (rU fun i => .int (-i)):=unI fun _ _ _ _ _ q=>neg_int q
end
section
variable {X:Cx} {a b c:Expr} {ta tb tc:TE} {pos:Pos}
theorem ZdT {pins:List (Addr×Obj)} {σ:St} {H:Hp} {s:Shared} {Q:VK} {k k':Bool} (I:Inv X pins σ H s) (q:Q (.bl k) H) (e:k=k'):EP X pins σ Q (.bool k') s:=by
 subst e
 exact ⟨.bl k,H,I,rfl,q⟩
theorem ZlC:OpR X (compareOp .Gt) (rI0 fun i j => .bl (decide (j<i))):=Zkw fun _ _ _ _ _ _ _ q=>gt_int q
theorem Zl7:OpR X (compareOp .Is) (fun x y H Q=>y = .non∧Q (.bl (decide (x = .non))) H):=by
 intro pins s σ H x y v u Q I rx ry h
 obtain ⟨rfl,q⟩:=h
 cases ry
 refine is_none_gen (ZdT I q ?_)
 cases x <;> first
  | (cases rx; rfl)
  | (obtain ⟨t,rfl⟩:=rx; rfl)
theorem ZlY:OpR X (compareOp .IsNot) (fun x y H Q=>y = .non∧Q (.bl (!decide (x = .non))) H):=by
 intro pins s σ H x y v u Q I rx ry h
 obtain ⟨rfl,q⟩:=h
 cases ry
 refine isnot_none_gen (ZdT I q ?_)
 cases x <;> first
  | (cases rx; rfl)
  | (obtain ⟨t,rfl⟩:=rx; rfl)
theorem ZdE (b:Expr) {op:CmpOp} (h:op≠.In:=by decide) (h2:op≠.NotIn:=by decide):behindInMarks op b=false:=by
 have e1:(op == CmpOp.In)=false:=by cases op <;> first | rfl | exact absurd rfl h
 have e2:(op == CmpOp.NotIn)=false:=by cases op <;> first | rfl | exact absurd rfl h2
 cases b <;> simp [behindInMarks,e1,e2]
theorem Zih {op:CmpOp} {r:R2} (ho:OpR X (compareOp op) r) (ha:PE X a ta) (hb:PE X b tb) (hm:behindInMarks op b=false):PE X (.Compare a [op] [b] pos) (tOp r ta tb):=by
 intro pins s σ H Q I h
 exact wpAny_Compare1 (ZcX ha hb I h fun v u s2 x y H2 I2 rx ry q=>ho pins s2 σ H2 x y v u Q I2 rx ry q) hm
noncomputable def Zku (t:TE):TT:=fun σ H Q=>t σ H fun x H' => ∃ k,x = .bl k∧Q k H'
theorem Zjv {op:CmpOp} {r:R2} (ho:OpR X (compareOp op) r) (ha:PE X a ta) (hb:PE X b tb) (hm:behindInMarks op b=false):PT X (.Compare a [op] [b] pos) (Zku (tOp r ta tb)):=by
 intro pins s σ H Q I h
 refine wpAny_isTrue_Compare1 (thn (ha pins s σ H _ I h) fun v s1 ⟨x,H1,I1,r1,q1⟩=>thn (hb pins s1 σ H1 _ I1 q1) fun u s2 ⟨y,H2,I2,r2,q2⟩ =>
  thn (ho pins s2 σ H2 x y v u _ I2 r1 r2 q2) fun c s3 ⟨z,H3,I3,r3,k,e,q3⟩ => ?_) hm
 subst e
 cases r3
 exact wpAny_truthy_bool ⟨H3,I3,q3⟩
theorem Zao:(sizeLine:Nat)<2 ^ 63:=by rw [sizeLine_eq]; decide
theorem ZlV:OpR X (binaryOp .Add) (fun x y H Q => ∃ i j,x = .str i∧y = .str j∧i.length+j.length≤sizeLine∧Q (.str (i++j)) H):=by
 intro pins s σ H x y v u Q I rx ry h
 obtain ⟨i,j,rfl,rfl,hz,q⟩:=h
 obtain ⟨t,rfl⟩:=rx
 obtain ⟨t',rfl⟩:=ry
 exact add_str (fun t' tk=>⟨.str (i++j),H,I.tok _,⟨_,rfl⟩,q⟩) hz
theorem vals1 {x:V} {us:List Value} (r:Vals [x] us):∃ u,us=[u]∧RelV x u:=by
 cases r with
 | cons r1 r2=>cases r2; exact ⟨_,rfl,r1⟩
theorem vals2 {x y:V} {us:List Value} (r:Vals [x,y] us):∃ u w',us=[u,w']∧RelV x u∧RelV y w':=by
 cases r with
 | cons r1 r2 =>
  cases r2 with
  | cons r3 r4=>cases r4; exact ⟨_,_,rfl,r1,r3⟩
theorem Zgj : YW X (.type "int") (fun xs H Q => (∃ i, xs = [.int i] ∧ Q (.int i) H) ∨ ∃ k, xs = [.bl k] ∧ Q (.int (if k then 1 else 0)) H) := by
 intro pins s σ H xs us Q I r h
 rcases h with ⟨i,rfl,q⟩ | ⟨k,rfl,q⟩
 ·obtain ⟨u,rfl,t,rfl⟩:=vals1 r
  exact call_int_int ⟨.int i,H,I,⟨_,rfl⟩,q⟩
 ·obtain ⟨u,rfl,r1⟩:=vals1 r
  cases r1
  exact call_int_bool ⟨.int (if k then 1 else 0),H,I.tok _,⟨_,rfl⟩,q⟩
end
end L2
namespace L2
open PySem PySem.Spec PyProof.Rows
structure ObjM (h:Heap) (x dx C:Addr) (mA:Str→Option Value):Prop where
 obj:h.get? x=some (PySem.W.instObj C dx)
 ns:h.Ns1 dx mA
 ne:dx≠x
theorem Zg2 {h:Heap} {dx:Addr} {mA:Str→Option Value} (n:h.Ns1 dx mA):∃ od,h.get? dx=some od∧∀ name,PySem.W.lookIn name od=some (mA name):=by
 obtain ⟨o,es,ep,ho,hd,hk,_,hm⟩:=n
 refine ⟨o,ho,fun name => ?_⟩
 have e:=hm name
 unfold nsFind findBy at e
 rw [← Array.find?_toList] at e
 unfold PySem.W.lookIn
 rw [hd]
 dsimp only
 split
 ·rename_i y q
  rw [q] at e
  exact congrArg some e
 ·rename_i q
  rw [q] at e
  have a:es.toList.any (·.refKey)=false:=by
   rw [List.any_eq_false]
   intro y hy
   obtain ⟨z,t,hkey⟩:=hk y (Array.mem_toList_iff.mp hy)
   simp [DictEntry.refKey,hkey]
  have a':¬ es.toList.any (·.refKey)=true:=by rw [a]; exact Bool.false_ne_true
  rw [if_neg a']
  exact congrArg some e
theorem ObjM.look {h:Heap} {x dx C:Addr} {mA:Str→Option Value} (I:ObjM h x dx C mA):∃ od,PySem.W.InstAt h x (PySem.W.instObj C dx) C (some od)∧∀ name,PySem.W.lookIn name od=some (mA name) :=
 let ⟨od,ho,hl⟩:=Zg2 I.ns
 ⟨od,⟨I.obj,rfl,rfl,ho⟩,hl⟩
noncomputable def Zbm (f:Str) (v:V):List (Str×V)→List (Str×V)
 | []=>[(f,v)]
 | (g,x) :: r=>if g=f then (g,v) :: r else (g,x) :: Zbm f v r
theorem RelO.some_of {v:V} {o:Option Value} (r:RelO (some v) o):∃ u,o=some u∧RelV v u:=by
 cases o with
 | none=>exact (show False from r).elim
 | some u=>exact ⟨u,rfl,r⟩
section
variable {P:Program} {w:World} {H H':Hp} {h h':Heap} {a C dx:Addr} {fs fs':List (Str×V)}
theorem Zl5 (hok:HOk P w H h) (e:H a=some (.ins C dx fs)):∃ mA,ObjM h a dx C mA∧(∀ f,RelO (fs.lookup f) (mA f))∧PySem.Within mA (fs.map (·.1))∧fs.length≤1000∧H dx=some (.own a):=by
 obtain ⟨d,z,ne,ob,mA,n,r,q⟩:=(show ObjOk P w H h a (.ins C dx fs) from hok a _ e)
 exact ⟨mA,⟨ob,n,ne⟩,r,q,z,d⟩
end
structure Cls (K:PySem.W.Frag) (C:Addr):Prop where
 pg:PySem.W.plainGet K C Str.empty=true
 hd:PySem.W.hasDictIn K C=true
 po:PySem.W.plainOver K C=true
 sa : PySem.W.findIn K (.ref C) "__setattr__" = some (some (.builtin "object.__setattr__"))
theorem Cls.get {K:PySem.W.Frag} {C:Addr} (c:Cls K C) (f:Str):PySem.W.plainGet K C f=true:=c.pg
structure Con (K:PySem.W.Frag) (C:Addr) (f:Str) (v:V) (u:Value):Prop where
 at_:PySem.W.findIn K (.ref C) f=some (some u)
 rel:RelV v u
 get : PySem.W.specialIn K u "__get__" = some none
 cp:PySem.W.copiedNames.contains f=false
structure Meth (K:PySem.W.Frag) (C:Addr) (m:Str) (f:Addr):Prop where
 at_:PySem.W.findIn K (.ref C) m=some (some (.ref f))
 fn:PySem.W.isFn K (.ref f)=true
 kp:PySem.W.keepIn K (.ref f)=true
section
variable {X:Cx} {pins:List (Addr×Obj)} {σ:St} {H:Hp} {s:Shared} {A:Around} {E:Value→Shared→Prop} {Q:Value→Shared→Prop} {c:Value} {b:Bool}
inductive TyOf (K:PySem.W.Frag) (H:Hp):V→Value→Prop where
 | non : TyOf K H .non (.type "NoneType")
 | bl (x : Bool) : TyOf K H (.bl x) (.type "bool")
 | int (i : Int) : TyOf K H (.int i) (.type "int")
 | str (x : Str) : TyOf K H (.str x) (.type "str")
 | flt (x : UInt64) : TyOf K H (.flt x) (.type "float")
 | lst {a : Addr} {xs : List V} (e : H a = some (.lst xs)) : TyOf K H (.ref a) (.type "list")
 | frz {a : Addr} {o : Obj} {xs : List V} (e : H a = some (.frz o (.lst xs))) : TyOf K H (.ref a) (.type "list")
 | tup {a : Addr} {xs : List V} (e : H a = some (.tup xs)) : TyOf K H (.ref a) (.type "tuple")
 | dK {a : Addr} {kvs : List (Key × V)} (e : H a = some (.dK kvs)) : TyOf K H (.ref a) (.type "dict")
 | dT {a : Addr} {kvs : List (List Key × V)} (e : H a = some (.dT kvs)) : TyOf K H (.ref a) (.type "dict")
 | ins {a C dx : Addr} {fs : List (Str × V)} (e : H a = some (.ins C dx fs)) (cl : Cls K C) (ha : PySem.W.findIn K (.ref C) "__class__" = some (some (.builtin "object.__class__")))
   (hn : PySem.W.specialIn K (.builtin "object.__class__") "__get__" = some (some (.builtin "getset_descriptor.__get__"))) (htk : PySem.W.takesIn K (.builtin "object.__class__") = some true)
   (hm : PySem.W.mroIn K C (.type "object") = some true) : TyOf K H (.ref a) (.ref C)
theorem ZaF {x:V} {u t:Value} (I:Inv X pins σ H s) (rx:RelV x u) (ty:TyOf X.K H x t) (e:PySem.W.kitOne X.K t c=some b) (h:∀ tk,Q (.bool b) { s with toks:=tk }) :
  wpAny (model X.prog X.w) A (call (.builtin "isinstance") [u, c]) Q E s := by
 cases ty with
 | non=>cases (show u=Value.none from rx); exact PySem.W.kia_one PySem.W.kitx_none I.kIn True.intro e (fun z=>nomatch z) h
 | bl y=>cases (show u=Value.bool y from rx); exact PySem.W.kia_one PySem.W.kitx_bool I.kIn True.intro e (fun z=>nomatch z) h
 | int i=>obtain ⟨t,q⟩:=(show ∃ t,u=Value.int i t from rx); cases q; exact PySem.W.kia_one PySem.W.kitx_int I.kIn True.intro e (fun z=>nomatch z) h
 | str y=>obtain ⟨t,q⟩:=(show ∃ t,u=Value.str y t from rx); cases q; exact PySem.W.kia_one PySem.W.kitx_str I.kIn True.intro e (fun z=>nomatch z) h
 | flt y=>obtain ⟨t,q⟩:=(show ∃ t,u=Value.float y t from rx); cases q; exact PySem.W.kia_one PySem.W.kitx_float I.kIn True.intro e (fun z=>nomatch z) h
 | @lst a xs ea =>
  cases (show u=Value.ref a from rx)
  obtain ⟨_,_,n,_,h1⟩:=(show ObjOk X.prog X.w H s.heap a (.lst xs) from I.hok a _ ea)
  exact PySem.W.kia_one PySem.W.kitx_list I.kIn ⟨_,h1,rfl⟩ e (fun z=>nomatch z) h
 | @frz a ob xs ea =>
  cases (show u=Value.ref a from rx)
  obtain ⟨_,_,_,n,_,h1⟩:=(show ObjOk X.prog X.w H s.heap a (.frz ob (.lst xs)) from I.hok a _ ea)
  exact PySem.W.kia_one PySem.W.kitx_list I.kIn ⟨_,h1,rfl⟩ e (fun z=>nomatch z) h
 | @tup a xs ea =>
  cases (show u=Value.ref a from rx)
  obtain ⟨_,_,_,p,_⟩:=(show ObjOk X.prog X.w H s.heap a (.tup xs) from I.hok a _ ea)
  obtain ⟨o,h1,h2,_⟩:=p
  exact PySem.W.kia_one PySem.W.kitx_tuple I.kIn ⟨o,h1,h2⟩ e (fun z=>nomatch z) h
 | @dK a kvs ea =>
  cases (show u=Value.ref a from rx)
  obtain ⟨_,_,vs,_,p⟩:=(show ObjOk X.prog X.w H s.heap a (.dK kvs) from I.hok a _ ea)
  obtain ⟨o,es,ep,h1,h2,_⟩:=p
  exact PySem.W.kia_one PySem.W.kitx_dict I.kIn ⟨o,h1,h2.1⟩ e (fun z=>nomatch z) h
 | @dT a kvs ea =>
  cases (show u=Value.ref a from rx)
  obtain ⟨_,_,xs,_,o,es,ep,h1,h2,_⟩:=(show ObjOk X.prog X.w H s.heap a (.dT kvs) from I.hok a _ ea)
  exact PySem.W.kia_one PySem.W.kitx_dict I.kIn ⟨o,h1,h2.1⟩ e (fun z=>nomatch z) h
 | @ins a C dx fs ea cl ha hn htk hm =>
  cases (show u=Value.ref a from rx)
  obtain ⟨mA,O,_⟩:=Zl5 I.hok ea
  obtain ⟨od,J,_⟩:=O.look
  exact PySem.W.kia_one (PySem.W.kitx_own (cl.get _) cl.hd ha hn htk hm) I.kIn J e (fun z=>nomatch z) h
end
end L2
namespace L2
open PySem PySem.Spec PyProof.Rows
structure Room (k:Nat) (A:Around):Prop where
 hd:A.handled=none
 dp:A.depth+3 * k+5<recursionLimit
 un:A.units+16 * k+200<cLine
theorem Room.mono {j k:Nat} {A:Around} (r:Room k A) (h:j≤k):Room j A:=⟨r.hd,by have:=r.dp; omega,by have:=r.un; omega⟩
theorem Room.deeper {k:Nat} {A:Around} (r:Room (k+1) A) (env:Env):Room k (A.deeper env) :=
 ⟨r.hd,by have:=r.dp; show A.depth+1+3 * k+5<_; omega,by have:=r.un; show A.units+3+16 * k+200<_; omega⟩
theorem Room.depth {k:Nat} {A:Around} (r:Room k A):A.depth<recursionLimit:=by have:=r.dp; omega
theorem Room.units {k:Nat} {A:Around} (r:Room k A):A.units+64<cLine:=by have:=r.un; omega
noncomputable def Zh7:TA:=fun _ H Q=>Q [] H
noncomputable def Zh4 (ta:TE) (tr:TA):TA:=fun σ H Q=>ta σ H fun x H1=>tr σ H1 fun xs H2=>Q (x :: xs) H2
section
variable {X:Cx} {e:Expr} {es:List Expr} {te:TE} {t:TA} {pos:Pos}
theorem ZdA:PA X [] Zh7:=fun _ _ _ _ H Q I h=>Calls.spliced_nil ⟨[],H,I,.nil,h⟩
theorem Zcc (ha:PE X e te) (hr:PA X es t) (hs:starEach (e :: es) X.env=(false,eval e X.env) :: starEach es X.env:=by rfl):PA X (e :: es) (Zh4 te t):=by
 intro pos pins s σ H Q I h
 rw [hs]
 show wpAny _ _ (spliced ((false,eval e X.env) :: backTo pos (starEach es X.env))) _ _ s
 refine Calls.spliced_cons (thn (ha pins s σ H _ I h) fun u s1 ⟨x,H1,I1,r1,q1⟩ => ?_)
 exact thn (hr pos pins s1 σ H1 _ I1 q1) fun us s2 ⟨xs,H2,I2,r2,q2⟩=>⟨x :: xs,H2,I2,.cons r1 r2,q2⟩
noncomputable def Zik (t:TA):TE:=fun σ H Q=>t σ H fun xs H1=>xs.length≤sizeLine∧∀ p,H1 p=none→Q (.ref p) (upd H1 p (.tup xs))
noncomputable def ZkY (t:TA):TE:=fun σ H Q=>t σ H fun xs H1=>xs.length≤sizeLine∧∀ p,H1 p=none→Q (.ref p) (upd H1 p (.lst xs))
theorem Zks {x1} (h:PA X es t):PE X (.Tuple es x1 pos) (Zik t):=by
 intro pins s σ H Q I hq
 refine wpAny_Tuple_spliced (thn (h pos pins s σ H _ I hq) fun us s1 ⟨xs,H1,I1,r,z,q⟩=>⟨by rw [← r.length]; exact z,?_⟩)
 have hf:H1 s1.heap.objs.size=none:=I1.hok.fresh (Nat.le_refl _)
 refine ⟨.ref s1.heap.objs.size,upd H1 s1.heap.objs.size (.tup xs),I1.laid (t':=s1.toks) (fun b u e=>Heap.get?_push_of_some _ e) (Nat.le_refl _) ?_,rfl,q _ hf⟩
 exact ⟨z,us,r,⟨_,Heap.get?_push_size _ rfl,rfl,_,rfl⟩,fun o2 e2=>by rw [Heap.get?_push_size _ rfl] at e2; cases e2; rfl⟩
theorem ZjJ (h:PA X es t):PE X (.List es pos) (ZkY t):=by
 intro pins s σ H Q I hq
 refine wpAny_List_spliced (thn (h pos pins s σ H _ I hq) fun us s1 ⟨xs,H1,I1,r,z,q⟩=>⟨by rw [← r.length]; exact z,?_⟩)
 have hf:H1 s1.heap.objs.size=none:=I1.hok.fresh (Nat.le_refl _)
 refine ⟨.ref s1.heap.objs.size,upd H1 s1.heap.objs.size (.lst xs),I1.laid (t':=s1.toks) (fun b u e=>Heap.get?_push_of_some _ e) (Nat.le_refl _) ?_,rfl,q _ hf⟩
 exact ⟨z,us,0,r,Heap.get?_push_size _ rfl⟩
end
noncomputable abbrev Sp:=List V→Hp→VK→XK→Prop
noncomputable abbrev CXT:=List Env→Hp→Shared→XK→Value→Shared→Prop
structure Env0 (P:Program) (w:World) (K:PySem.W.Frag) (mg:Str→Option Value) (base:Heap) (A:Around) (outer:List Env) (s:Shared) (H:Hp):Prop where
 frames:A.frames=some outer
 mod:Mod K mg base
 bs:∀ b o,base.get? b=some o→s.heap.get? b=some o∧H b=none
 bsz:base.objs.size≤s.heap.objs.size
 funs:s.heap.FunFrames base outer
 frf:∀ b∈frs outer,H b=none
 hok:HOk P w H s.heap
 bare:AllBare s.gens
noncomputable def CE (outer:List Env) (P:Program) (w:World) (H:Hp) (s:Shared) (Q:VK) (u:Value) (s':Shared):Prop :=
 ∃ v H',s'.os=s.os∧AllBare s'.gens∧Un (frs outer) [] H H' s.heap s'.heap∧HOk P w H' s'.heap∧RelV v u∧Q v H'
noncomputable def CR (CX:CXT) (outer:List Env) (P:Program) (w:World) (H:Hp) (s:Shared) (Q:VK) (E:XK) (r:Result) (s':Shared):Prop :=
 match r with
 | .ok (.ret u)=>CE outer P w H s Q u s'
 | .ok _=>False
 | .error e=>CX outer H s E e s'
structure FnOk (P:Program) (w:World) (K:PySem.W.Frag) (mg:Str→Option Value) (base:Heap) (CX:CXT) (k:Nat) (f:Addr) (fd:FuncData) (ps:List Str) (sp:Sp):Prop where
 len:∀ vs H Q E,sp vs H Q E→vs.length=ps.length
 run:∀ (A:Around) (outer:List Env) (s:Shared) (H:Hp) (args:Args) (us:List Value) (vs:List V) (Q:VK) (E:XK),Room k A→Env0 P w K mg base A outer s H→BindsTo s fd args (ps.zip us)→Vals vs us→sp vs H Q E →
  codeAny (model P w) A (.call (.ref f) args) (CR CX outer P w H s Q E) s
section
variable {X:Cx} {pins:List (Addr×Obj)} {σ:St} {H:Hp} {s s':Shared}
theorem Inv.env0 (I:Inv X pins σ H s):Env0 X.prog X.w X.K X.mg X.base X.A X.stack s H :=
 ⟨I.ok.frames,I.ok.mod,I.bs,Nat.le_trans I.ok.bsz I.sz,I.stack,I.stkFree,I.hok,I.bare⟩
theorem Inv.after {Q:VK} {u:Value} (I:Inv X pins σ H s) (h:CE X.stack X.prog X.w H s Q u s'):EP X pins σ Q u s':=by
 obtain ⟨v,H',os,bare,un,hok,r,q⟩:=h
 obtain ⟨hh,g,d,t,os'⟩:=s'
 obtain rfl:os'=s.os:=os
 exact ⟨v,H',I.call (h':=hh) (g':=g) (d':=d) (t':=t) (ch:=[]) un hok bare (fun b z=>absurd z (by simp)),r,q⟩
end
noncomputable def ZlI (sp:Sp) (dvs:List V) (E:XK) (t:TA):TE:=fun σ H Q=>t σ H fun vs H1=>sp (vs++dvs) H1 Q E
noncomputable def Binds (K:PySem.W.Frag) (fd:FuncData) (ps:List Str) (ds:List Value):Prop :=
 ∀ (s:Shared) (us:List Value),K.In s.heap→(us++ds).length=ps.length→BindsTo s fd ⟨us,[]⟩ (ps.zip (us++ds))
theorem Binds.all {K:PySem.W.Frag} {fd:FuncData} {ps:List Str} (h:∀ us:List Value,us.length=ps.length→bindArgs fd ⟨us,[]⟩=pure (ps.zip us)):Binds K fd ps []:=fun s us _ hl=>by
 rw [List.append_nil] at hl ⊢
 exact .of_eq (h us hl)
noncomputable def Zc3 (CX:CXT) (X:Cx) (E:XK):Prop:=∀ (pins:List (Addr×Obj)) (σ:St) (H:Hp) (s:Shared) (e:Value) (s':Shared),Inv X pins σ H s→CX X.stack H s E e s'→X.xe e s'
section
variable {X:Cx} {CX:CXT} {k:Nat} {f C:Addr} {fd:FuncData} {ps:List Str} {sp:Sp} {dvs:List V} {ds:List Value} {E:XK} {x m:Str} {p pos apos:Pos} {e o:Expr} {es:List Expr} {ta:TE} {t:TA}
theorem Zk1 {pins:List (Addr×Obj)} {σ:St} {H:Hp} {s:Shared} {Q:VK} {us:List Value} {vs:List V} (F:FnOk X.prog X.w X.K X.mg X.base CX k f fd ps sp) (hr:Room k X.A) (hb:Binds X.K fd ps ds) (hd:Vals dvs ds) (hx:Zc3 CX X E)
  (I:Inv X pins σ H s) (r:Vals vs us) (h:sp (vs++dvs) H Q E):wpAny (model X.prog X.w) X.A (call (.ref f) us) (EP X pins σ Q) X.xe s:=by
 have r2:Vals (vs++dvs) (us++ds):=r.append hd
 have hl:(us++ds).length=ps.length:=by rw [← r2.length]; exact F.len _ _ _ _ h
 refine wpAny_call (codeAny_mono (F.run X.A X.stack s H ⟨us,[]⟩ (us++ds) (vs++dvs) Q E hr I.env0 (hb s us I.kIn hl) r2 h) fun r s' hq => ?_)
 cases r with
 | error e=>exact hx pins σ H s e s' I hq
 | ok fl =>
  cases fl with
  | ret u=>exact I.after hq
  | next=>exact False.elim hq
  | brk=>exact False.elim hq
  | cont=>exact False.elim hq
theorem ZmR (F:FnOk X.prog X.w X.K X.mg X.base CX k f fd ps sp) (hr:Room k X.A) (hg:Gl X x) (hm:X.mg x=some (.ref f)) (hk:PySem.W.keepIn X.K (.ref f)=true) (hb:Binds X.K fd ps ds) (hd:Vals dvs ds) (hx:Zc3 CX X E)
  (ha : PA X (e :: es) t) (hdb : (x == ("__debug__" : Str)) = false := by decide) (he : starEach (e :: es) X.env = (false, eval e X.env) :: starEach es X.env := by rfl) (hpl : (backTo pos (starEach es X.env)).any (·.1) = false := by rfl) :
  PE X (.Call (.Name x p) (e :: es) [] pos) (ZlI sp dvs E t):=by
 intro pins s σ H Q I h
 refine wpAny_Call_Name_kw (ZfL I hg hm ?_ hdb)
 refine PySem.W.callWith_K (h₀:=X.base) I.ok.mod.kin hk (thn (ha pos pins s σ H _ I h) fun us s1 ⟨vs,H1,I1,r,q⟩=>⟨I1.kIn,?_⟩) he hpl
 exact Zk1 F hr hb hd hx I1 r q
structure Mk (K:PySem.W.Frag) (C f:Addr):Prop where
 makes:PySem.W.makesIn K C=true
 init : PySem.W.findIn K (.ref C) "__init__" = some (some (.ref f))
 fn:PySem.W.isFn K (.ref f)=true
 kp:PySem.W.keepIn K (.ref C)=true
end
section
variable {X:Cx} {CX:CXT} {k:Nat} {f C:Addr} {fd:FuncData} {ps ks:List Str} {sp:Sp} {E:XK} {x m:Str} {p pos apos kpos:Pos} {e o:Expr} {es:List Expr} {kws:List Keyword} {te ta:TE} {t tk:TA} {nm:Option Str}
structure KBinds (K:PySem.W.Frag) (fd:FuncData) (ps ks:List Str) (g:List Value→List Value→List Value) (gV:List V→List V→List V):Prop where
 to:∀ (s:Shared) (us ws:List Value),K.In s.heap→(g us ws).length=ps.length→BindsTo s fd ⟨us,ks.zip ws⟩ (ps.zip (g us ws))
 rel:∀ {vs:List V} {us:List Value} {zs:List V} {ws:List Value},Vals vs us→Vals zs ws→Vals (gV vs zs) (g us ws)
variable {g:List Value→List Value→List Value} {gV:List V→List V→List V}
end
structure FnScope (N P:List Str) (sc:Scope):Prop where
 kind:sc.kind = .function
 co:sc.isCoroutine=false
 gen:sc.isGenerator=false
 nd:N.Nodup
 pre:N.take P.length=P
 par:∀ x∈P,sc.names.lookup x=some .local∨sc.names.lookup x=some .cell
 nofree:∀ y∈sc.names,y.2≠.free
theorem Zeb {kindOf:Str→Option NameKind} {x:Str}:∀ {binds:List (Str×Value)} {m:Str→Option Value},(∀ v,(x,v) ∉ binds)→bindL kindOf binds m x=m x
 | [],_,_=>rfl
 | (n,v) :: r,m,h=>by
  unfold bindL
  rw [Zeb fun w hw=>h w (List.mem_cons_of_mem _ hw)]
  split
  ·have:x≠n:=by rintro rfl; exact h v List.mem_cons_self
   simp [this]
  ·rfl
theorem ZeK {kindOf:Str→Option NameKind} {x:Str}:∀ {binds:List (Str×Value)} {m:Str→Option Value},(∀ v,(x,v) ∉ binds)→bindC kindOf binds m x=m x
 | [],_,_=>rfl
 | (n,v) :: r,m,h=>by
  unfold bindC
  rw [ZeK fun w hw=>h w (List.mem_cons_of_mem _ hw)]
  split
  ·rfl
  ·have:x≠n:=by rintro rfl; exact h v List.mem_cons_self
   simp [this]
theorem Zfv {kindOf:Str→Option NameKind} {x:Str} {v:Value}:∀ {P:List Str} {vs:List Value} {i:Nat} {m:Str→Option Value},P.Nodup→P[i]?=some x→vs[i]?=some v→kindOf x=some .local →
  bindL kindOf (P.zip vs) m x=some v
 | [],_,_,_,_,h,_,_=>by simp at h
 | _ :: _,[],_,_,_,_,h,_=>by simp at h
 | p :: P,w :: vs,0,m,nd,h1,h2,hk=>by
  simp at h1 h2; subst h1; subst h2
  show bindL kindOf ((p,w) :: P.zip vs) m p=_
  unfold bindL
  rw [Zeb fun v hv=>(List.nodup_cons.mp nd).1 (List.of_mem_zip hv).1,if_pos hk]
  simp
 | p :: P,w :: vs,i+1,m,nd,h1,h2,hk=>by
  show bindL kindOf ((p,w) :: P.zip vs) m x=_
  unfold bindL
  exact Zfv (i:=i) (List.nodup_cons.mp nd).2 (by simpa using h1) (by simpa using h2) hk
theorem Zft {kindOf:Str→Option NameKind} {x:Str} {v:Value}:∀ {P:List Str} {vs:List Value} {i:Nat} {m:Str→Option Value},P.Nodup→P[i]?=some x→vs[i]?=some v→kindOf x≠some .local →
  bindC kindOf (P.zip vs) m x=some v
 | [],_,_,_,_,h,_,_=>by simp at h
 | _ :: _,[],_,_,_,_,h,_=>by simp at h
 | p :: P,w :: vs,0,m,nd,h1,h2,hk=>by
  simp at h1 h2; subst h1; subst h2
  show bindC kindOf ((p,w) :: P.zip vs) m p=_
  unfold bindC
  rw [ZeK fun v hv=>(List.nodup_cons.mp nd).1 (List.of_mem_zip hv).1,if_neg hk]
  simp
 | p :: P,w :: vs,i+1,m,nd,h1,h2,hk=>by
  show bindC kindOf ((p,w) :: P.zip vs) m x=_
  unfold bindC
  exact Zft (i:=i) (List.nodup_cons.mp nd).2 (by simpa using h1) (by simpa using h2) hk
noncomputable def start (N:List Str) (vs:List V):St:=vs.map some++List.replicate (N.length - vs.length) none
noncomputable def Z1 (CX:CXT) (P:Program) (w:World) (K:PySem.W.Frag) (mg:Str→Option Value) (base:Heap) (N:List Str) (qual:Str) (scope:Scope) (f:Addr) (cd:Value) (A:Around) (outer:List Env) (s:Shared) (H:Hp) (E:XK):Cx where
 prog:=P
 w:=w
 K:=K
 mg:=mg
 base:=base
 A:=A.deeper (envOfC qual scope s.heap.objs.size f cd)
 N:=N
 s₀:=s
 H₀:=H
 env:=envOfC qual scope s.heap.objs.size f cd
 outer:=outer
 stack:=envOfC qual scope s.heap.objs.size f cd :: outer
 ex:=[]
 calm:=true
 fn:=fun _=>true
 pn:=[]
 xe:=fun e s'=>wpAny (model P w) (A.deeper (envOfC qual scope s.heap.objs.size f cd)) (leaving (envOfC qual scope s.heap.objs.size f cd) e) (fun _ s''=>CX outer H s E e s'') (fun e' s''=>CX outer H s E e' s'') s'
theorem ZdL {sc:Scope} {n:Nat} {x:Str} (h:sc.names.lookup x=some .cell):∃ c,(cellsFrom n sc.names []).lookup x=some c:=by
 have q:=PySem.W.cellsFrom_some sc.names n [] (.inl h)
 exact Option.isSome_iff_exists.mp q
theorem Zkb {CX:CXT} {P:Program} {w:World} {K:PySem.W.Frag} {mg:Str→Option Value} {base:Heap} {N ps:List Str} {qual:Str} {scope:Scope} {f:Addr} {cd:Value} {A:Around} {outer:List Env} {s s1:Shared} {H:Hp} {E:XK} {us:List Value} {vs:List V}
  (S:FnScope N ps scope) (hd:A.handled=none) (e0:Env0 P w K mg base A outer s H) (hl:vs.length=ps.length) (r:Vals vs us)
  (x:InCallC s s.heap.objs.size (bindL (envOfC qual scope s.heap.objs.size f cd).kindOf (ps.zip us) fun _=>none) (cellsFrom (s.heap.objs.size+1) scope.names []) (bindC (envOfC qual scope s.heap.objs.size f cd).kindOf (ps.zip us) fun _=>none) s1) :
  Inv (Z1 CX P w K mg base N qual scope f cd A outer s H E) [] (start N vs) H s1:=by
 have hpl:ps.length≤N.length:=by have:=congrArg List.length S.pre; rw [List.length_take] at this; omega
 obtain ⟨h1,tk,rfl,hk⟩:=x.done
 have noA:∀ b:Addr,b ∉ (Z1 CX P w K mg base N qual scope f cd A outer s H E).ex:=fun b z=>absurd (show b∈([]:List Addr) from z) (by simp)
 refine ⟨⟨e0.mod,S.kind,rfl,rfl,Nat.le_refl _,fun y z c h1 h2 => ?_,fun y hy => ?_,fun y c _ h => ?_,fun _=>hd,Around.frames_deeper e0.frames,.inr ⟨rfl,rfl⟩,fun b z=>absurd z (noA b),e0.bs,e0.bsz,fun b _ _=>noA b,fun b z=>absurd z (noA b),e0.funs,e0.frf⟩,
  rfl,e0.bare,Un.kept hk,⟨_,x.toInCall.ns,fun i y v h1 h2 h3 => ?_⟩,fun y c h=>⟨_,x.cell y c h⟩,e0.hok.fresh (Nat.le_refl _),fun y c h => ?_,fun p hp=>absurd (show p∈([]:List (Addr×Obj)) from hp) (by simp),e0.hok.kept hk,?_⟩
 ·exact name_of_addr x.apart (PySem.mem_of_lookup h1) (PySem.mem_of_lookup h2)
 ·have hy:scope.names.lookup y=some .cell∨scope.names.lookup y=some .free:=hy
  rcases hy with hy | hy
  ·exact ZdL hy
  ·exact absurd rfl (S.nofree _ (PySem.mem_of_lookup hy))
 ·exact Nat.le_of_lt (x.above y c (PySem.mem_of_lookup h))
 ·have hi:i<vs.length:=by
   unfold start at h2
   by_cases hi:i<vs.length
   ·exact hi
   ·rw [List.getElem?_append_right (by simpa using hi)] at h2
    rw [List.getElem?_replicate] at h2
    split at h2 <;> cases h2
  have ha:vs[i]?=some v:=by
   unfold start at h2
   rw [List.getElem?_append_left (by simpa using hi),List.getElem?_map] at h2
   cases e:vs[i]? with
   | none=>rw [e] at h2; cases h2
   | some a=>rw [e] at h2; cases h2; rfl
  obtain ⟨u,hu,rv⟩:=r.get ha
  have hp:ps[i]?=some y:=by
   rw [← S.pre,List.getElem?_take_of_lt (by omega)]; exact h1
  have ndP:ps.Nodup:=by rw [← S.pre]; exact S.nd.sublist (List.take_sublist _ _)
  refine ⟨u,rv,?_⟩
  rcases S.par y (List.mem_of_getElem? hp) with k | k
  ·exact .inl ⟨k,Zfv ndP hp hu k⟩
  ·obtain ⟨c,e⟩:=ZdL (n:=s.heap.objs.size+1) k
   refine .inr ⟨.inl k,c,e,?_⟩
   have q:=x.cell y c e
   rw [Zft ndP hp hu (by show scope.names.lookup y≠_; rw [k]; decide)] at q
   exact q
 ·exact e0.hok.fresh (Nat.le_of_lt (x.above y c (PySem.mem_of_lookup h)))
 ·unfold start
  show _=N.length
  rw [List.length_append,List.length_map,List.length_replicate]
  omega
theorem Zmt {CX:CXT} {P:Program} {w:World} {K:PySem.W.Frag} {mg:Str→Option Value} {base:Heap} {k:Nat} {f:Addr} {name qual:Str} {params:Arguments} {body:List Stmt} {scope:Scope} {dV kV doc pm cdv ct oc:Value} {an od:Option Addr}
  {osl:Array (Option Value)} {N ps:List Str} {sp:Sp} (lk:K.lookup f=some ⟨oc,od,.func (PySem.W.fnOf name qual params body scope dV kV doc pm an cdv ct),osl⟩) (hcd:PySem.W.codeIn K cdv qual=true) (S:FnScope N ps scope)
  (len:∀ vs H Q E,sp vs H Q E→vs.length=ps.length)
  (hbody:∀ (A:Around) (outer:List Env) (s:Shared) (H:Hp) (vs:List V) (Q:VK) (E:XK),Room k (A.deeper (envOfC qual scope s.heap.objs.size f cdv))→sp vs H Q E →
   ∃ t,PSs (Z1 CX P w K mg base N qual scope f cdv A outer s H E) body t∧t { nx:=fun _ H'=>Q .non H',rt:=Q } (start N vs) H) :
  FnOk P w K mg base CX (k+1) f (PySem.W.fnOf name qual params body scope dV kV doc pm an cdv ct) ps sp:=by
 refine ⟨len,fun A outer s H args us vs Q E hr e0 hb r hsp => ?_⟩
 have hl:=len _ _ _ _ hsp
 have KX:K.In s.heap:=e0.mod.kin.keeps fun b o e=>(e0.bs b o e).1
 have lim:s.heap.NoLimit:=e0.mod.nolimit.keeps fun b o e=>(e0.bs b o e).1
 have hkind:∀ y∈ps.zip us,scope.names.lookup y.1=some .local∨(scope.names.lookup y.1=some .cell∧((cellsFrom (s.heap.objs.size+1) scope.names []).lookup y.1).isSome=true):=fun ⟨n,v⟩ hy=>by
  rcases S.par n (List.of_mem_zip hy).1 with q | q
  ·exact .inl q
  ·exact .inr ⟨q,PySem.W.cellsFrom_some _ _ _ (.inl q)⟩
 refine codeAny_call_function hr.depth (KX _ _ lk) rfl S.co S.gen rfl (PySem.W.codeRec_of KX hcd) (hb _ _ _ _ ?_)
 refine wpAny_newFunctionEnv_cells S.kind hkind fun env he s1 x => ?_
 subst he
 refine ⟨lim.keeps x.toInCall.keep,codeAny_func ?_⟩
 obtain ⟨t,ht,hq⟩:=hbody A outer s H vs Q E (hr.deeper _) hsp
 have I:Inv (Z1 CX P w K mg base N qual scope f cdv A outer s H E) [] (start N vs) H s1:=Zkb S hr.hd e0 hl r x
 refine wpAny_mono (ht [] s1 (start N vs) H _ I hq) (fun fl s' hs => ?_) fun e s' hs=>hs
 have fin:∀ {σ':St} {H':Hp} {v:V} {u:Value},Inv (Z1 CX P w K mg base N qual scope f cdv A outer s H E) [] σ' H' s'→RelV v u→Q v H'→CE outer P w H s Q u s' :=
  fun {σ' H' v u} J rv q=>⟨v,H',J.os,J.bare,J.base,J.hok,rv,q⟩
 cases fl with
 | ret u =>
  obtain ⟨v,σ',H',J,rv,q⟩:=hs
  exact fin J rv q
 | next =>
  obtain ⟨σ',H',J,q⟩:=hs
  exact fin (v:=V.non) (u:=Value.none) J rfl q
 | brk =>
  obtain ⟨_,_,_,q⟩:=hs
  exact False.elim q
 | cont =>
  obtain ⟨_,_,_,q⟩:=hs
  exact False.elim q
end L2
namespace L2
open PySem PySem.Spec PyProof.Rows
section
variable {X:Cx} {x:Str} {p pos:Pos} {e:Expr} {es:List Expr} {t:TA} {id T:String} {r:List V→Hp→VK→Prop}
noncomputable def tCB (r:List V→Hp→VK→Prop) (t:TA):TE:=fun σ H Q=>t σ H fun vs H1=>r vs H1 Q
theorem ZcD (hc : YW X (.builtin id) r) (hg : Gl X x) (hm : X.mg x = none) (hv : bootBuiltins x = some (.builtin id)) (ha : PA X (e :: es) t) (hn : x ≠ "__name__" := by decide) (hdb : (x == ("__debug__" : Str)) = false := by decide)
  (he:starEach (e :: es) X.env=(false,eval e X.env) :: starEach es X.env:=by rfl) (hpl:(backTo pos (starEach es X.env)).any (·.1)=false:=by rfl):PE X (.Call (.Name x p) (e :: es) [] pos) (tCB r t):=by
 intro pins s σ H Q I h
 refine wpAny_Call_Name_kw (QE I hg hm hv ?_ hn hdb)
 exact PyProof.Rows.callWith_builtin1 (thn (ha pos pins s σ H _ I h) fun us s1 ⟨vs,H1,I1,r1,q1⟩=>hc pins s1 σ H1 vs us Q I1 r1 q1) he hpl
theorem Zds (hc : YW X (.type T) r) (hg : Gl X x) (hm : X.mg x = none) (hv : bootBuiltins x = some (.type T)) (ha : PA X (e :: es) t) (hn : x ≠ "__name__" := by decide) (hdb : (x == ("__debug__" : Str)) = false := by decide)
  (he:starEach (e :: es) X.env=(false,eval e X.env) :: starEach es X.env:=by rfl) (hpl:(backTo pos (starEach es X.env)).any (·.1)=false:=by rfl):PE X (.Call (.Name x p) (e :: es) [] pos) (tCB r t):=by
 intro pins s σ H Q I h
 refine wpAny_Call_Name_kw (QE I hg hm hv ?_ hn hdb)
 exact PyProof.Rows.callWith_type1 (thn (ha pos pins s σ H _ I h) fun us s1 ⟨vs,H1,I1,r1,q1⟩=>hc pins s1 σ H1 vs us Q I1 r1 q1) he hpl
end
end L2
namespace HT
open PySem PyProof.Rows
section
variable {prog:Program} {w:World} {A:Around} {E:Value→Shared→Prop} {s:Shared}
theorem cat_tup {t b:Addr} {vs ws:List Value} {Q:Value→Shared→Prop} (ht:IsTup s.heap t vs.toArray) (hb:IsTup s.heap b ws.toArray) (hv:vs≠[])
  (h1 : ws = [] → Q (.ref t) s) (h2 : ws ≠ [] → Q (.ref s.heap.objs.size) { s with heap := s.heap.push { cls := .type "tuple", data := .seq (vs ++ ws).toArray } })
  (hsz:vs.length+ws.length≤sizeLine):wpAny (model prog w) A (binaryOp .Add (.ref t) (.ref b)) Q E s:=by
 obtain ⟨⟨cls,dd,data,sl⟩,ho,hc,n,hd⟩:=id ht
 obtain ⟨⟨cls2,dd2,data2,sl2⟩,ho2,hc2,n2,hd2⟩:=id hb
 simp only at hc hd hc2 hd2
 subst hc hd hc2 hd2
 have e:vs.toArray++ws.toArray=(vs++ws).toArray:=by simp
 by_cases hw:ws=[]
 ·exact concat_meets ⟨_,ho,rfl⟩ ⟨_,ho2,rfl⟩ noFill_tuple_add seq_tuple_add PySem.F.slot_tuple_add PySem.F.entry_tuple_add (PySem.F.args_tuple_add_2 _ _)
   (tuple_addW1 t b vs.toArray ws.toArray n n2 dd dd2 sl sl2 (by simpa using hv) (by simp [hw])) ⟨ho,ho2,h1 hw⟩
 ·refine concat_meets ⟨_,ho,rfl⟩ ⟨_,ho2,rfl⟩ noFill_tuple_add seq_tuple_add PySem.F.slot_tuple_add PySem.F.entry_tuple_add (PySem.F.args_tuple_add_2 _ _)
   (tuple_addW2 t b vs.toArray ws.toArray n n2 dd dd2 sl sl2 (by simpa using hv) (by simpa using hw) (by rw [List.size_toArray,List.size_toArray]; exact hsz)) ⟨ho,ho2,?_⟩
  rw [e]
  exact h2 hw
noncomputable def sIx (n d:Nat):Option Int→Nat
 | none=>d
 | some v=>if v<0 then (v+(n:Int)).toNat else min v.toNat n
theorem sIx_none (n d:Nat):sIx n d none=d:=rfl
theorem sIx_nat (n d k:Nat):sIx n d (some (k:Int))=min k n:=by
 show (if (k:Int)<0 then ((k:Int)+(n:Int)).toNat else min (k:Int).toNat n)=min k n
 rw [if_neg (by omega),Int.toNat_natCast]
theorem Zkx (n d:Nat) (hd:d≤n) (o:Option Int):sIx n d o≤n:=by
 cases o with
 | none=>exact hd
 | some v =>
  show (if v<0 then (v+(n:Int)).toNat else min v.toNat n)≤n
  by_cases hv:v<0
  ·rw [if_pos hv]; omega
  ·rw [if_neg hv]; exact Nat.min_le_right _ _
theorem Zgm (v:Int) (n d:Nat):(if v<0 then max (v+(n:Int)) 0 else min v (n:Int))=((sIx n d (some v):Nat):Int):=by
 show (if v<0 then max (v+(n:Int)) 0 else min v (n:Int))=(((if v<0 then (v+(n:Int)).toNat else min v.toNat n):Nat):Int)
 by_cases hv:v<0
 ·simp only [if_pos hv]; omega
 ·simp only [if_neg hv]; omega
theorem Zig (lo hi:Option Int) (n:Nat):Builtin.Slice.sliceAdjust lo hi 1 (n:Int)=(((sIx n 0 lo:Nat):Int),((sIx n n hi:Nat):Int)):=by
 have h1:¬ ((1:Int)<0):=by omega
 unfold Builtin.Slice.sliceAdjust
 simp only [h1,if_false]
 refine Prod.ext ?_ ?_
 ·cases lo with
  | none=>rfl
  | some v=>exact Zgm v n 0
 ·cases hi with
  | none=>rfl
  | some v=>exact Zgm v n n
theorem ZgX (i j:Nat):Builtin.Slice.slicePlaces (i:Int) (j:Int) 1=j - i:=by
 unfold Builtin.Slice.slicePlaces
 have h1:(1:Int) > 0:=by omega
 simp only [h1,if_true,Int.ediv_one]
 split <;> omega
theorem Zgf {v:Value} {o:Option Int} {Q:Option Int→Shared→Prop} (p:IsPart v o) (h:Q o s):wpAny (model prog w) A (Builtin.Slice.slicePartIndex v) Q E s:=by
 cases p with
 | none=>exact slicePart_none h
 | int i t=>exact slicePart_int h
theorem Zfe {sl:Addr} {vl vu:Value} {lo hi:Option Int} {n:Nat} {Q:Int×Int×Nat→Shared→Prop} (hs:s.heap.IsSliceOf sl vl vu .none) (pl:IsPart vl lo) (pu:IsPart vu hi)
  (h:Q (((sIx n 0 lo:Nat):Int),1,sIx n n hi - sIx n 0 lo) s):wpAny (model prog w) A (Builtin.Slice.sliceApplied (.ref sl) (pure (n:Int))) Q E s:=by
 obtain ⟨os,hos,hcs,hds⟩:=id hs
 unfold Builtin.Slice.sliceApplied Builtin.Slice.sliceFields
 refine wpAny_bind (wpAny_bind (wpAny_field hos hds (x:=vl) rfl (wpAny_bind (wpAny_field hos hds (x:=vu) rfl (wpAny_bind (wpAny_field hos hds (x:=.none) rfl (wpAny_pure ?_)))))))
 refine wpAny_bind (slicePart_none ?_)
 show wpAny _ _ (if ((1:Int) == 0)=true then _ else _) _ _ s
 rw [if_neg (by decide)]
 refine wpAny_bind (Zgf pl (wpAny_bind (Zgf pu (wpAny_bind (wpAny_pure ?_)))))
 show wpAny _ _ (match Builtin.Slice.sliceAdjust lo hi 1 (n:Int) with | (lo,hi)=>pure (lo,(1:Int),Builtin.Slice.slicePlaces lo hi 1)) _ _ s
 rw [Zig lo hi n]
 show wpAny _ _ (pure (((sIx n 0 lo:Nat):Int),(1:Int),Builtin.Slice.slicePlaces ((sIx n 0 lo:Nat):Int) ((sIx n n hi:Nat):Int) 1)) _ _ s
 rw [ZgX]
 exact wpAny_pure h
theorem ZjH (xs:Array Value) (i k:Nat):((List.range k).filterMap fun (m:Nat)=>xs[((i:Int)+(m:Int) * 1).toNat]?).toArray=((xs.toList.drop i).take k).toArray:=by
 have e:(fun (m:Nat)=>xs[((i:Int)+(m:Int) * 1).toNat]?)=fun m=>xs[i+m]?:=by
  funext m
  have:((i:Int)+(m:Int) * 1).toNat=i+m:=by omega
  rw [this]
 rw [e]
 have:=pick_run xs i k
 rw [List.filterMap_map] at this
 have e2:((fun x=>xs[x]?) ∘ fun x=>i+x)=fun m=>xs[i+m]?:=rfl
 rw [e2] at this
 rw [this]
theorem getItem_tuple_cut {t sl:Addr} {items:Array Value} {vl vu:Value} {lo hi:Option Int} {Q:Value→Shared→Prop} (ht:IsTup s.heap t items) (hs:s.heap.IsSliceOf sl vl vu .none) (pl:IsPart vl lo) (pu:IsPart vu hi)
  (hw:¬ (sIx items.size 0 lo=0∧sIx items.size items.size hi=items.size))
  (h : Q (.ref s.heap.objs.size) { s with heap := s.heap.push { cls := .type "tuple", data := .seq ((items.toList.drop (sIx items.size 0 lo)).take (sIx items.size items.size hi - sIx items.size 0 lo)).toArray } })
  (hsz:items.size≤sizeLine):wpAny (model prog w) A (getItem (.ref t) (.ref sl)) Q E s:=by
 have htake:sizeOk (.seq ((items.toList.drop (sIx items.size 0 lo)).take (sIx items.size items.size hi - sIx items.size 0 lo)).toArray):=by
  show ((items.toList.drop (sIx items.size 0 lo)).take (sIx items.size items.size hi - sIx items.size 0 lo)).toArray.size≤sizeLine
  rw [List.size_toArray,List.length_take,List.length_drop,Array.length_toList]
  omega
 have hj:sIx items.size items.size hi≤items.size:=Zkx _ _ (Nat.le_refl _) hi
 obtain ⟨os,hos,hcs,hds⟩:=id hs
 have hTs : s.TypeIs (.ref sl) "slice" := ⟨os, hos, hcs⟩
 unfold getItem
 try with_reducible refine wpAny_holding ?_
 first | refine wpAny_bind (wpAny_pure ?_) | skip
 refine wpAny_bind (wpAny_sequenceKey ht.typeIs (by decide) ?_)
 refine wpAny_bind (wpAny_callSpecial?_slot (name := Str.ofString "__getitem__") ht.typeIs PyProof.Rows.slot_tuple_getitem
  (wpAny_call_entry PyProof.Rows.slot_tuple_getitem ht.typeIs entry_tuple_getitem ?_ (args_tuple_getitem _ _)))
 show wpAny _ _ (Builtin.Tuple.tupleItemsOf (.ref t) >>= _) _ _ s
 refine wpAny_bind (tupleItemsOf_ ht ?_)
 refine wpAny_bind (wpAny_typeOf hTs ?_)
 rw [if_pos (by decide)]
 refine wpAny_bind (Zfe hs pl pu ?_)
 have hno:¬ ((((sIx items.size 0 lo:Nat):Int) == 0 && (1:Int) == 1 && (sIx items.size items.size hi - sIx items.size 0 lo) == items.size)=true):=by
  intro q
  rw [Bool.and_eq_true,Bool.and_eq_true] at q
  have q1:((sIx items.size 0 lo:Nat):Int)=0:=eq_of_beq q.1.1
  have q2:sIx items.size items.size hi - sIx items.size 0 lo=items.size:=eq_of_beq q.2
  exact hw ⟨by omega,by omega⟩
 show wpAny _ _ (if (((sIx items.size 0 lo:Nat):Int) == 0 && (1:Int) == 1 && (sIx items.size items.size hi - sIx items.size 0 lo) == items.size)=true then _ else _) _ _ s
 rw [if_neg hno,ZjH]
 first
  | exact wpAny_bind (m:=Builtin.Tuple.tupleExact _) (wpAny_newObj_type (wpAny_pure ⟨_,rfl,wpAny_pure h⟩) htake)
  | exact wpAny_bind (m:=Builtin.Tuple.tupleExact _) (wpAny_newObj_type (wpAny_bind (wpAny_pure (wpAny_pure ⟨_,rfl,wpAny_pure h⟩))) htake)
  | exact wpAny_bind (wpAny_bind (m:=Builtin.Tuple.tupleExact _) (wpAny_newObj_type (wpAny_pure (wpAny_pure ⟨_,rfl,wpAny_pure h⟩)) htake))
  | exact wpAny_bind (wpAny_bind (m:=Builtin.Tuple.tupleExact _) (wpAny_newObj_type (wpAny_pure ⟨_,rfl,wpAny_pure h⟩) htake))
end
end HT
namespace L2
open PySem PySem.Spec PyProof.Rows
noncomputable abbrev TO:=St→Hp→(Option Int→Hp→Prop)→Prop
noncomputable def PO (X:Cx) (e:Option Expr) (t:TO):Prop :=
 ∀ (pins:List (Addr×Obj)) (s:Shared) (σ:St) (H:Hp) (Q:Option Int→Hp→Prop),Inv X pins σ H s→t σ H Q →
  wpAny (model X.prog X.w) X.A (evalPart e X.env) (fun u s' => ∃ o H',Inv X pins σ H' s'∧IsPart u o∧Q o H') X.xe s
noncomputable def ZhZ:TO:=fun _ H Q=>Q none H
noncomputable def Zmy (t:TE):TO:=fun σ H Q=>t σ H fun x H1 => ∃ i,x = .int i∧Q (some i) H1
section
variable {X:Cx} {e:Expr} {te:TE} {lo hi:Option Expr} {tl th:TO} {pos p2:Pos}
theorem Znq:PO X none ZhZ:=by
 intro pins s σ H Q I h
 rw [evalPart_none]
 exact wpAny_pure ⟨none,H,I,.none,h⟩
theorem Zma (h:PE X e te):PO X (some e) (Zmy te):=by
 intro pins s σ H Q I hw
 rw [evalPart_some]
 refine thn (h pins s σ H _ I hw) fun u s1 ⟨x,H1,I1,r1,q1⟩ => ?_
 obtain ⟨i,rfl,q⟩:=q1
 obtain ⟨t,rfl⟩:=r1
 exact ⟨some i,H1,I1,.int i t,q⟩
noncomputable def SlR (X:Cx) (r:V→Option Int→Option Int→Hp→VK→Prop):Prop :=
 ∀ (pins:List (Addr×Obj)) (s:Shared) (σ:St) (H:Hp) (x:V) (v vl vu:Value) (lo hi:Option Int) (sl:Addr) (Q:VK),Inv X pins σ H s→RelV x v→s.heap.IsSliceOf sl vl vu .none→IsPart vl lo→IsPart vu hi→r x lo hi H Q →
  ∃ T id, typeLookup (.type T) "__getitem__" = pure (some (.builtin id)) ∧ s.TypeIs v T ∧ wpAny (model X.prog X.w) X.A (getItem v (.ref sl)) (EP X pins σ Q) X.xe s
noncomputable def tSl (r:V→Option Int→Option Int→Hp→VK→Prop) (te:TE) (tl th:TO):TE:=fun σ H Q=>te σ H fun x H1=>tl σ H1 fun l H2=>th σ H2 fun u H3=>r x l u H3 Q
theorem Zdx {r:V→Option Int→Option Int→Hp→VK→Prop} (hr:SlR X r) (he:PE X e te) (hl:PO X lo tl) (hu:PO X hi th):PE X (.Subscript e (.Slice lo hi none p2) pos) (tSl r te tl th):=by
 intro pins s σ H Q I h
 refine Subscript_ (thn (he pins s σ H _ I h) fun v s1 ⟨x,H1,I1,r1,q1⟩ => ?_)
 refine wpAny_Slice (thn (hl pins s1 σ H1 _ I1 q1) fun vl s2 ⟨l,H2,I2,pl,q2⟩=>thn (hu pins s2 σ H2 _ I2 q2) fun vu s3 ⟨u,H3,I3,pu,q3⟩ => ?_)
 rw [evalPart_none]
 refine wpAny_pure ?_
 have I4 : Inv X pins σ H3 { s3 with heap := s3.heap.push { cls := .type "slice", data := .fields #[vl, vu, .none] } } := I3.kept (t' := s3.toks) fun b ob q => Heap.get?_push_of_some _ q
 obtain ⟨T, id, hT, ht, hg⟩ := hr pins { s3 with heap := s3.heap.push { cls := .type "slice", data := .fields #[vl, vu, .none] } } σ H3 x v vl vu l u s3.heap.objs.size Q I4 r1 (Heap.IsSliceOf.new ..) pl pu q3
 show wpAny (model X.prog X.w) X.A (subscriptTail e (.Slice lo hi none p2) v (.ref s3.heap.objs.size)) (EP X pins σ Q) X.xe { s3 with heap := s3.heap.push { cls := .type "slice", data := .fields #[vl, vu, .none] } }
 exact tail_any (ops:=[.ref s3.heap.objs.size,v]) ht hT hg (by with_unfolding_all rfl)
noncomputable def WG (xs:List V) (lo hi:Option Int):List V:=(xs.drop (HT.sIx xs.length 0 lo)).take (HT.sIx xs.length xs.length hi - HT.sIx xs.length 0 lo)
theorem ZeS (xs:List V) (lo hi:Option Int):(WG xs lo hi).length≤xs.length:=by
 unfold WG
 rw [List.length_take,List.length_drop]
 omega
noncomputable def Zhi (K:PySem.W.Frag):V→Option Int→Option Int→Hp→VK→Prop:=fun x lo hi H Q => ∃ a xs,x = .ref a∧SqT K H a xs ∧
 ¬ (HT.sIx xs.length 0 lo=0∧HT.sIx xs.length xs.length hi=xs.length)∧∀ p,H p=none→Q (.ref p) (upd H p (.tup (WG xs lo hi)))
theorem Zli:SlR X (Zhi X.K):=by
 intro pins s σ H x v vl vu lo hi sl Q I rx hs pl pu h
 obtain ⟨a,xs,rfl,hx,hw,q⟩:=h
 cases rx
 obtain ⟨its,r,ht,hz⟩:=I.tuple hx
 have hlen:its.toArray.size=xs.length:=by rw [List.size_toArray]; exact r.length.symm
 refine ⟨"tuple", _, PyProof.Rows.slot_tuple_getitem.lookup, ht.typeIs, ?_⟩
 refine HT.getItem_tuple_cut ht hs pl pu (by rw [hlen]; exact hw) ?_ (by rw [hlen]; exact hz)
 rw [hlen]
 refine ⟨.ref s.heap.objs.size,_,I.laid (t':=s.toks) (o:=.tup (WG xs lo hi)) (fun b ob q=>Heap.get?_push_of_some _ q) (Nat.le_refl _) ?_,rfl,q _ (I.hok.fresh (Nat.le_refl _))⟩
 exact ⟨Nat.le_trans (ZeS xs lo hi) hz,_,(r.drop (HT.sIx xs.length 0 lo)).take (HT.sIx xs.length xs.length hi - HT.sIx xs.length 0 lo),IsTup.new _ _,fun o2 e2=>by rw [Heap.get?_push_size _ rfl] at e2; cases e2; rfl⟩
noncomputable def ZiU (K:PySem.W.Frag):R2:=fun x y H Q => ∃ a b xs ys,x = .ref a∧y = .ref b∧SqT K H a xs∧SqT K H b ys∧xs≠[]∧xs.length+ys.length≤sizeLine ∧
 (ys=[]→Q (.ref a) H)∧(ys≠[]→∀ p,H p=none→Q (.ref p) (upd H p (.tup (xs++ys))))
theorem Vals.nil_iff {xs:List V} {us:List Value} (r:Vals xs us):us=[] ↔ xs=[]:=by
 cases r with
 | nil=>simp
 | cons _ _=>simp
theorem Zi6:OpR X (binaryOp .Add) (ZiU X.K):=by
 intro pins s σ H x y v u Q I rx ry h
 obtain ⟨a,b,xs,ys,rfl,rfl,ha,hb,hx,hz,q1,q2⟩:=h
 cases rx
 cases ry
 obtain ⟨its,r1,p1,_⟩:=I.tuple ha
 obtain ⟨its2,r2,p2,_⟩:=I.tuple hb
 refine HT.cat_tup p1 p2 (fun z=>hx (r1.nil_iff.mp z)) (fun z=>⟨.ref a,H,I,rfl,q1 (r2.nil_iff.mp z)⟩) (fun z => ?_) (by rw [← r1.length,← r2.length]; exact hz)
 refine ⟨.ref s.heap.objs.size,_,I.laid (t':=s.toks) (o:=.tup (xs++ys)) (fun b ob q=>Heap.get?_push_of_some _ q) (Nat.le_refl _) ?_,rfl,q2 (fun w=>z (r2.nil_iff.mpr w)) _ (I.hok.fresh (Nat.le_refl _))⟩
 exact ⟨by rw [List.length_append]; exact hz,_,r1.append r2,IsTup.new _ _,fun o2 e2=>by rw [Heap.get?_push_size _ rfl] at e2; cases e2; rfl⟩
end
end L2
namespace L2
open PySem PySem.Spec PyProof.Rows
noncomputable def ixN (n:Nat) (i:Int):Option Nat:=if 0≤i then (if i<n then some i.toNat else none) else if -(n:Int)≤i then some (i+n).toNat else none
noncomputable def atI {α:Type} (xs:List α) (i:Int):Option α:=(ixN xs.length i).bind fun j=>xs[j]?
theorem ZiP {n:Nat} {i:Int} {j:Nat} (h:ixN n i=some j):seqIndex? i n=some j∧j<n∧-(n:Int)≤i∧i<n:=by
 unfold ixN at h
 by_cases h0:0≤i
 ·rw [if_pos h0] at h
  by_cases h1:i<n
  ·rw [if_pos h1] at h
   have e:i.toNat=j:=Option.some.inj h
   exact ⟨by rw [seqIndex_of h0 h1,e],by omega,by omega,h1⟩
  ·rw [if_neg h1] at h; cases h
 ·rw [if_neg h0] at h
  by_cases h1 : -(n:Int)≤i
  ·rw [if_pos h1] at h
   have e:(i+n).toNat=j:=Option.some.inj h
   exact ⟨by rw [seqIndex_neg (by omega) h1,e],by omega,h1,by omega⟩
  ·rw [if_neg h1] at h; cases h
theorem Zc9 {α:Type} {xs:List α} {i:Int} {v:α} (h:atI xs i=some v):∃ j,seqIndex? i xs.length=some j∧xs[j]?=some v∧j<xs.length∧-(xs.length:Int)≤i∧i<xs.length:=by
 unfold atI at h
 cases e:ixN xs.length i with
 | none=>rw [e] at h; cases h
 | some j =>
  rw [e] at h
  obtain ⟨h1,h2,h3,h4⟩:=ZiP e
  exact ⟨j,h1,h,h2,h3,h4⟩
theorem ZmX {α:Type} {xs:List α} {j:Nat} {v:α} (h:xs[j]?=some v):atI xs (j:Int)=some v:=by
 have hj:j<xs.length:=(List.getElem?_eq_some_iff.mp h).1
 have e:ixN xs.length (j:Int)=some j:=by
  unfold ixN
  rw [if_pos (by omega),if_pos (by omega)]; simp
 unfold atI; rw [e]; exact h
noncomputable def Zdr (b:Expr):Prop:=∀ o i,subscripted b false o i=operate [o,i] (getItem o i)
noncomputable def IxR (X:Cx) (r:R2):Prop :=
 ∀ (value slice:Expr) (pins:List (Addr×Obj)) (s:Shared) (σ:St) (H:Hp) (x y:V) (v u:Value) (Q:VK),Inv X pins σ H s→RelV x v→RelV y u→r x y H Q →
  subscripted slice false v u=operate [v,u] (getItem v u)→wpAny (model X.prog X.w) X.A (subscriptTail value slice v u) (EP X pins σ Q) X.xe s
noncomputable def MtR (X:Cx) (id:String) (r:V→List V→Hp→VK→Prop):Prop :=
 ∀ (pins:List (Addr×Obj)) (s:Shared) (σ:St) (H:Hp) (x:V) (xs:List V) (v:Value) (us:List Value) (Q:VK),Inv X pins σ H s→RelV x v→Vals xs us→r x xs H Q →
  wpAny (model X.prog X.w) X.A (call (.builtin id) (v :: us)) (EP X pins σ Q) X.xe s
section
variable {X:Cx} {a b:Expr} {ta tb:TE} {pos:Pos}
theorem Zlw {r:R2} (hr:IxR X r) (ha:PE X a ta) (hb:PE X b tb) (hs:Zdr b):PE X (.Subscript a b pos) (tOp r ta tb):=by
 intro pins s σ H Q I h
 exact Subscript_ (ZcX ha hb I h fun v u s2 x y H2 I2 rx ry q=>hr a b pins s2 σ H2 x y v u Q I2 rx ry q (hs _ _))
noncomputable def Zmb (K:PySem.W.Frag):R2:=fun x y H Q => ∃ p xs i v,x = .ref p∧y = .int i∧SqL K H p xs∧atI xs i=some v∧Q v H
noncomputable def ZmJ (K:PySem.W.Frag):R2:=fun x y H Q => ∃ p xs i v,x = .ref p∧y = .int i∧SqT K H p xs∧atI xs i=some v∧Q v H
noncomputable def Zm2:R2:=fun x y H Q => ∃ z i c,x = .str z∧y = .int i∧z.length≤sizeLine∧atI z.cps.toList i=some c∧Q (.str ⟨#[c]⟩) H
theorem ZkG:IxR X (Zmb X.K):=by
 intro value slice pins s σ H x y v u Q I rx ry h hs
 obtain ⟨p,xs,i,z,rfl,rfl,hq,he,q⟩:=h
 cases rx
 obtain ⟨t,rfl⟩:=ry
 obtain ⟨its,r,pl,hz⟩:=I.list hq
 obtain ⟨j,h1,h2,h3,h4,h5⟩:=Zc9 he
 obtain ⟨w,ew,rw'⟩:=r.get h2
 have hl:=r.length
 have hn:=Zao
 have fin:EP X pins σ Q w s:=⟨z,H,I,rw',q⟩
 by_cases h0:0≤i
 ·have hj:i.toNat=j:=by
   rw [seqIndex_of h0 h5] at h1
   exact Option.some.inj h1
  exact item_listR pl.isList h0 (by omega) (by rw [hj]; simpa using ew) fin hs
 ·have hj:(i+(its.toArray.size:Int)).toNat=j:=by
   rw [seqIndex_neg (by omega) h4] at h1
   rw [List.size_toArray,← hl]
   exact Option.some.inj h1
  exact subscriptTail_builtinR (x:=w) pl.isList.typeIs slot_list_getitem.lookup
   (wpAny_getItem_list_neg (Q:=fun r s'=>r=w∧EP X pins σ Q r s') pl.isList (by omega) (by rw [List.size_toArray] <;> omega) (by omega) (by rw [hj]; simpa using ew) ⟨rfl,fin⟩) hs
theorem ZgS:IxR X (ZmJ X.K):=by
 intro value slice pins s σ H x y v u Q I rx ry h hs
 obtain ⟨p,xs,i,z,rfl,rfl,hq,he,q⟩:=h
 cases rx
 obtain ⟨t,rfl⟩:=ry
 obtain ⟨its,r,pl,hz⟩:=I.tuple hq
 obtain ⟨j,h1,h2,h3,h4,h5⟩:=Zc9 he
 obtain ⟨w,ew,rw'⟩:=r.get h2
 have hl:=r.length
 have hn:=Zao
 have fin:EP X pins σ Q w s:=⟨z,H,I,rw',q⟩
 exact subscriptTail_builtinR (x:=w) pl.typeIs slot_tuple_getitem.lookup
  (getItem_tuple (j:=j) (Q:=fun r s'=>r=w∧EP X pins σ Q r s') pl (by omega) (by omega) (by rw [List.size_toArray,← hl]; exact h1) (by simpa using ew) ⟨rfl,fin⟩) hs
theorem Zki:IxR X Zm2:=by
 intro value slice pins s σ H x y v u Q I rx ry h hs
 obtain ⟨z,i,c,rfl,rfl,hz,he,q⟩:=h
 obtain ⟨t,rfl⟩:=rx
 obtain ⟨t',rfl⟩:=ry
 obtain ⟨j,h1,h2,h3,h4,h5⟩:=Zc9 he
 have hl:z.cps.toList.length=z.length:=by simp [Str.length]
 rw [hl] at h1 h4 h5
 have hn:=Zao
 exact tail_any (typeIs_str s z t) slot_str_getitem.lookup (getItem_str (c:=c) (by
  have e1:decide (i < -(2 ^ 63:Int))=false:=decide_eq_false (by omega)
  have e2:decide (i ≥ 2 ^ 63)=false:=decide_eq_false (by omega)
  rw [e1,e2,Bool.or_false]) (by rw [h1]; simpa using h2) ⟨.str ⟨#[c]⟩,H,I.tok _,⟨_,rfl⟩,q⟩) hs
theorem Zlx (lo hi:Option Int) (n:Nat):(sliceBounds lo hi none n).1=((HT.sIx n 0 lo:Nat):Int)∧(sliceBounds lo hi none n).2.1=((HT.sIx n n hi:Nat):Int)∧(sliceBounds lo hi none n).2.2=1:=by
 refine ⟨?_,?_,rfl⟩
 ·cases lo with
  | none=>simp [sliceBounds,HT.sIx]
  | some i =>
   simp only [sliceBounds,HT.sIx,Option.getD_none,show (1:Int) > 0 by decide,if_true]
   by_cases h:i<0
   ·simp only [h,if_true] <;> omega
   ·simp only [h,if_false] <;> omega
 ·cases hi with
  | none=>simp [sliceBounds,HT.sIx]
  | some i =>
   simp only [sliceBounds,HT.sIx,Option.getD_none,show (1:Int) > 0 by decide,if_true]
   by_cases h:i<0
   ·simp only [h,if_true] <;> omega
   ·simp only [h,if_false] <;> omega
theorem Zjo (its:List Value) (lo hi:Option Int):slicePick its.toArray lo hi none=((its.drop (HT.sIx its.length 0 lo)).take (HT.sIx its.length its.length hi - HT.sIx its.length 0 lo)).toArray:=by
 obtain ⟨h1,h2,h3⟩:=Zlx lo hi its.toArray.size
 unfold slicePick
 rw [h1,h2,h3]
 simp only [sliceRange_one,pick_run,List.size_toArray] <;> rfl
noncomputable def Zhq (K:PySem.W.Frag):V→Option Int→Option Int→Hp→VK→Prop:=fun x lo hi H Q => ∃ a xs,x = .ref a∧SqL K H a xs∧∀ p,H p=none→Q (.ref p) (upd H p (.lst (WG xs lo hi)))
theorem ZlO:SlR X (Zhq X.K):=by
 intro pins s σ H x v vl vu lo hi sl Q I rx hs pl pu h
 obtain ⟨a,xs,rfl,hx,q⟩:=h
 cases rx
 obtain ⟨its,r,ht,hz⟩:=I.list hx
 have hlen:=r.length
 refine ⟨"list", _, slot_list_getitem.lookup, ht.isList.typeIs, ?_⟩
 refine wpAny_getItem_list_slice ht.isList hs pl pu .none (by simp) ?_ (by rw [List.size_toArray] <;> omega)
 rw [Zjo,← hlen]
 refine ⟨.ref s.heap.objs.size,_,I.laid (t':=s.toks) (o:=.lst (WG xs lo hi)) (fun b ob q=>Heap.get?_push_of_some _ q) (Nat.le_refl _) ?_,rfl,q _ (I.hok.fresh (Nat.le_refl _))⟩
 exact ⟨Nat.le_trans (ZeS xs lo hi) hz,_,0,(r.drop (HT.sIx xs.length 0 lo)).take (HT.sIx xs.length xs.length hi - HT.sIx xs.length 0 lo),Heap.get?_push_size _ rfl⟩
theorem ZkC : YW X (.builtin "len") (fun xs H Q => ∃ p ys, xs = [.ref p] ∧ (SqL X.K H p ys ∨ SqT X.K H p ys) ∧ Q (.int ys.length) H) := by
 intro pins s σ H xs us Q I r h
 obtain ⟨p,ys,rfl,hq,q⟩:=h
 obtain ⟨u,rfl,rx⟩:=vals1 r
 cases rx
 have hn:=Zao
 rcases hq with hq | hq
 ·obtain ⟨its,r',pl,hz⟩:=I.list hq
  have hlen:=r'.length
  exact Calls.call_len_list pl.isList (by simp only [List.size_toArray] <;> omega) ⟨.int ys.length,H,I.tok _,⟨s.toks+1,by rw [List.size_toArray,hlen]⟩,q⟩
 ·obtain ⟨its,r',pl,hz⟩:=I.tuple hq
  have hlen:=r'.length
  exact len_tuple pl (by simp only [List.size_toArray] <;> omega) ⟨.int ys.length,H,I.tok _,⟨s.toks+1,by rw [List.size_toArray,hlen]⟩,q⟩
theorem Zl4 : YW X (.builtin "len") (fun xs H Q => ∃ z, xs = [.str z] ∧ z.length ≤ sizeLine ∧ Q (.int z.length) H) := by
 intro pins s σ H xs us Q I r h
 obtain ⟨z,rfl,hz,q⟩:=h
 obtain ⟨u,rfl,t,rfl⟩:=vals1 r
 have hn:=Zao
 exact len_str (by omega) ⟨.int z.length,H,I.tok _,⟨_,rfl⟩,q⟩
theorem ZgR : YW X (.type "list") (fun xs H Q => ∃ p ys, xs = [.ref p] ∧ (SqL X.K H p ys ∨ SqT X.K H p ys) ∧ ∀ l, H l = none → Q (.ref l) (upd H l (.lst ys))) := by
 intro pins s σ H xs us Q I r h
 obtain ⟨p,ys,rfl,hq,q⟩:=h
 obtain ⟨u,rfl,rx⟩:=vals1 r
 cases rx
 have fin:∀ (its:List Value),Vals ys its→ys.length≤sizeLine→∀ (h':Heap) (c':Nat),(∀ b o',s.heap.get? b=some o'→h'.get? b=some o') →
   h'.get? s.heap.objs.size = some { cls := .type "list", dict := none, data := .seq its.toArray c', slots := #[] } → EP X pins σ Q (.ref s.heap.objs.size) { s with heap := h' } := fun its r' hz h' c' kp e =>
  ⟨.ref s.heap.objs.size,_,I.laid (t':=s.toks) kp (Nat.le_refl _) (show ObjOk X.prog X.w _ h' _ (.lst ys) from ⟨hz,its,c',r',e⟩),rfl,q _ (I.hok.fresh (Nat.le_refl _))⟩
 rcases hq with hq | hq
 ·obtain ⟨its,r',pl,hz⟩:=I.list hq
  have hlen:=r'.length
  obtain ⟨o,ho,hc,n,hd⟩:=pl.isList
  exact call_list_seq p (.inl rfl) ho hc hd (fun h' c' kp e=>fin its r' hz h' c' kp e) (by simp only [List.size_toArray] <;> omega)
 ·obtain ⟨its,r',pl,hz⟩:=I.tuple hq
  have hlen:=r'.length
  obtain ⟨o,ho,hc,n,hd⟩:=pl
  exact call_list_seq p (.inr rfl) ho hc hd (fun h' c' kp e=>fin its r' hz h' c' kp e) (by simp only [List.size_toArray] <;> omega)
theorem Zd6 : YW X (.type "tuple") (fun xs H Q => ∃ p ys, xs = [.ref p] ∧ ((SqL X.K H p ys ∧ ∀ l, H l = none → Q (.ref l) (upd H l (.tup ys))) ∨ (SqT X.K H p ys ∧ Q (.ref p) H))) := by
 intro pins s σ H xs us Q I r h
 obtain ⟨p,ys,rfl,h⟩:=h
 obtain ⟨u,rfl,rx⟩:=vals1 r
 cases rx
 rcases h with ⟨hq,q⟩ | ⟨hq,q⟩
 ·obtain ⟨its,r',pl,hz⟩:=I.list hq
  have hlen:=r'.length
  refine call_tuple_list pl.isList (fun h' kp => ?_) (by simp only [List.size_toArray] <;> omega)
  have I1:Inv X pins σ H { s with heap:=h' }:=I.kept (t':=s.toks) kp
  have I2 : Inv X pins σ (upd H h'.objs.size (.tup ys)) { s with heap := h'.push { cls := .type "tuple", data := .seq its.toArray } } :=
   I1.laid (t':=s.toks) (fun b o e=>Heap.get?_push_of_some _ e) (Nat.le_refl _) (show ObjOk X.prog X.w _ _ _ (.tup ys) from ⟨hz,its,r',IsTup.new _ _,fun o2 e2=>by rw [Heap.get?_push_size _ rfl] at e2; cases e2; rfl⟩)
  exact ⟨.ref h'.objs.size,_,I2,rfl,q _ (I1.hok.fresh (Nat.le_refl _))⟩
 ·obtain ⟨its,r',pl,hz⟩:=I.tuple hq
  exact call_tuple_same pl ⟨.ref p,H,I,rfl,q⟩
noncomputable def tyV (K:PySem.W.Frag) (T:String) (x:V) (H:Hp):Prop:=match x with
 | .str _ => T = "str"
 | .int _ => T = "int"
 | .ref p => (T = "list" ∧ ∃ xs, SqL K H p xs) ∨ (T = "tuple" ∧ ∃ o, K.lookup p = some o ∧ o.cls = .type "tuple" ∧ o.dict = none) ∨
   (T = "dict" ∧ ((∃ kvs, H p = some (.dK kvs)) ∨ ∃ kvs, H p = some (.dT kvs))) ∨ (T = "set" ∧ ∃ S n, H p = some (.set S n))
 | _=>False
theorem Zgc {pins:List (Addr×Obj)} {σ:St} {H:Hp} {s:Shared} {T:String} {x:V} {v:Value} (I:Inv X pins σ H s) (r:RelV x v) (ty:tyV X.K T x H) :
  s.TypeIs v T∧∀ a,v = .ref a→∃ ob,s.heap.get? a=some ob∧ob.dict=none:=by
 cases x with
 | str z =>
  obtain ⟨t,rfl⟩:=r
  cases (show T = "str" from ty)
  exact ⟨typeIs_str s z t,fun _ e=>nomatch e⟩
 | int i =>
  obtain ⟨t,rfl⟩:=r
  cases (show T = "int" from ty)
  exact ⟨typeIs_int s i t,fun _ e=>nomatch e⟩
 | ref p =>
  cases r
  rcases ty with ⟨rfl,xs,hq⟩ | ⟨rfl,o,hk,hc,hd⟩ | ⟨rfl,hk⟩ | ⟨rfl,S,n,hk⟩
  ·obtain ⟨its,_,pl,_⟩:=I.list hq
   refine ⟨pl.isList.typeIs,fun a e => ?_⟩
   cases e
   obtain ⟨o,n,e,c,hd,_⟩:=pl
   exact ⟨o,e,hd⟩
  ·refine ⟨⟨o,I.kIn p o hk,hc⟩,fun a e => ?_⟩
   cases e
   exact ⟨o,I.kIn _ o hk,hd⟩
  ·have z:∃ o,s.heap.get? p=some o∧o.ExactDict:=by
    rcases hk with ⟨kvs,hk⟩ | ⟨kvs,hk⟩
    ·obtain ⟨_,_,_,_,o,_,_,e,ex,_⟩:=I.hok p _ hk
     exact ⟨o,e,ex⟩
    ·obtain ⟨_,_,_,_,o,_,_,e,ex,_⟩:=I.hok p _ hk
     exact ⟨o,e,ex⟩
   obtain ⟨o,e,ex⟩:=z
   refine ⟨⟨o,e,ex.1⟩,fun a e2 => ?_⟩
   cases e2
   exact ⟨o,e,ex.2.1⟩
  ·obtain ⟨o,_,_,_,e,ex,_⟩:=I.hok p _ hk
   refine ⟨⟨o,e,ex.1⟩,fun a e2 => ?_⟩
   cases e2
   exact ⟨o,e,ex.2.1⟩
 | _=>exact False.elim ty
noncomputable def ZgZ (K:PySem.W.Frag) (T:String) (r:V→List V→Hp→VK→Prop) (to:TE):TE:=fun σ H Q=>to σ H fun x H1=>tyV K T x H1∧r x [] H1 Q
noncomputable def tBM (K:PySem.W.Frag) (T:String) (r:V→List V→Hp→VK→Prop) (to:TE) (t:TA):TE:=fun σ H Q=>to σ H fun x H1=>tyV K T x H1∧t σ H1 fun xs H2=>r x xs H2 Q
variable {o e:Expr} {es:List Expr} {to:TE} {t:TA} {name:Str} {apos cpos:Pos} {T id:String} {r:V→List V→Hp→VK→Prop}
theorem Znl (pa : PlainAttrs T) (slot : Slot T name id) (hty : typeOf (.builtin id) = pure (.type "method_descriptor")) (hm : MtR X id r) (ho : PE X o to)
  (hbase:attributeBase o name X.env (eval o X.env)=eval o X.env:=by rfl) (hline:(apos.endLine == cpos.line)=true:=by rfl):PE X (.Call (.Attribute o name apos) [] [] cpos) (ZgZ X.K T r to):=by
 intro pins s σ H Q I h
 refine wpAny_Call_method0_late hbase hline (thn (ho pins s σ H _ I h) fun v s1 ⟨x,H1,I1,r1,ty,q1⟩ => ?_)
 obtain ⟨h1,h2⟩:=Zgc I1 r1 ty
 exact ⟨T,id,pa,slot,hty,h1,h2,Calls.callWith_builtin rfl (PySem.evalArgs_none (hm pins s1 σ H1 x [] v [] Q I1 r1 .nil q1))⟩
theorem Zkc (pa : PlainAttrs T) (slot : Slot T name id) (hty : typeOf (.builtin id) = pure (.type "method_descriptor")) (hm : MtR X id r) (ho : PE X o to) (ha : PA X (e :: es) t)
  (hbase:attributeBase o name X.env (eval o X.env)=eval o X.env:=by rfl)
  (hfew:((backTo cpos (starEach (e :: es) X.env)).all (fun x => !x.1) && (backToKw cpos (keywordEach [] X.env)).all (fun x=>x.1.isSome)
   && decide ((e :: es).length+([]:List Keyword).length+(if ([]:List Keyword).isEmpty then 0 else 1)<30))=true:=by rfl)
  (hline:(apos.endLine == cpos.line)=true:=by rfl) (hs:starEach (e :: es) X.env=(false,eval e X.env) :: starEach es X.env:=by rfl) (hplain:(backTo cpos (starEach es X.env)).any (·.1)=false:=by rfl) :
  PE X (.Call (.Attribute o name apos) (e :: es) [] cpos) (tBM X.K T r to t):=by
 intro pins s σ H Q I h
 refine wpAny_Call_method_late hbase hfew hline rfl (thn (ho pins s σ H _ I h) fun v s1 ⟨x,H1,I1,r1,ty,q1⟩ => ?_)
 obtain ⟨h1,h2⟩:=Zgc I1 r1 ty
 refine ⟨T,id,pa,slot,hty,h1,h2,?_⟩
 have hA:=ha cpos pins s1 σ H1 _ I1 q1
 rw [hs] at hA ⊢
 refine Calls.callWith_builtin (by show (false || (backTo cpos (starEach es X.env)).any (·.1))=false; rw [hplain] <;> rfl) (Calls.evalArgs_plain ?_)
 exact thn hA fun us s2 ⟨vs,H2,I2,r2,q2⟩=>hm pins s2 σ H2 x vs v us Q I2 r1 r2 q2
/- xs.append(e), list.index on a module's tuple .. are MtR facts of 06m -/
end
end L2
namespace L2
open PySem PySem.Spec PyProof.Rows
noncomputable def MtM (X:Cx) (id:String) (r:V→List V→Hp→VK→Prop):Prop :=
 ∀ (pins:List (Addr×Obj)) (s:Shared) (σ:St) (H:Hp) (x:V) (xs:List V) (v:Value) (us:List Value) (Q:VK),Inv X pins σ H s→RelV x v→Vals xs us→r x xs H Q →
  wpAny (model X.prog X.w) X.A (call (.builtin id) (v :: us)) (EP X pins σ Q) X.xe s
theorem Vals.one:∀ {x:V} {us:List Value},Vals [x] us→∃ u,us=[u]∧RelV x u
 | _,_,.cons r .nil=>⟨_,rfl,r⟩
theorem Vals.zero:∀ {us:List Value},Vals [] us→us=[]
 | _,.nil=>rfl
theorem Vals.dropLast {xs:List V} {us:List Value} (h:Vals xs us):Vals xs.dropLast us.dropLast:=by
 induction h with
 | nil=>exact .nil
 | cons r t ih =>
  cases t with
  | nil=>exact .nil
  | cons q t'=>exact .cons r ih
theorem Vals.rep {xs:List V} {us:List Value} (h:Vals xs us):∀ k:Nat,Vals (List.replicate k xs).flatten (List.replicate k us).flatten
 | 0 => .nil
 | k+1=>by
  rw [List.replicate_succ,List.replicate_succ,List.flatten_cons,List.flatten_cons]
  exact Vals.append h (Vals.rep h k)
theorem ZlL {α:Type} (l:List α):l.eraseIdx (l.length - 1)=l.dropLast:=by
 induction l with
 | nil=>rfl
 | cons a r ih =>
  cases r with
  | nil=>rfl
  | cons b r =>
   have e:(a :: b :: r).length - 1=((b :: r).length - 1)+1:=by
    have h1:(a :: b :: r).length=r.length+2:=rfl
    have h2:(b :: r).length=r.length+1:=rfl
    omega
   rw [e,List.eraseIdx_cons_succ,ih]
   all_goals rfl
theorem foldl_rep (its:List Value):∀ (k:Nat) (acc:List Value),
  List.foldl (fun x1 x2=>x1++x2) acc.toArray (List.replicate k its.toArray)=(acc++(List.replicate k its).flatten).toArray
 | 0,acc=>by simp
 | k+1,acc=>by
  have e:acc.toArray++its.toArray=(acc++its).toArray:=by simp
  have e2:(acc++its)++(List.replicate k its).flatten=acc++(List.replicate (k+1) its).flatten:=by
   rw [List.replicate_succ,List.flatten_cons,List.append_assoc]
  rw [← e2,← foldl_rep its k (acc++its),← e,List.replicate_succ,List.foldl_cons]
section
variable {X:Cx} {pins:List (Addr×Obj)} {σ:St} {H:Hp} {s:Shared} {l b:Addr} {xs ys zs:List V}
theorem Inv.lset {its its':List Value} {n:Nat} {f:Array Value→Array Value} {t':Nat} (I:Inv X pins σ H s) (hH:H l=some (.lst xs))
  (e : s.heap.get? l = some { cls := .type "list", data := .seq its.toArray n }) (hf : f its.toArray = its'.toArray) (hv : Vals ys its') (hz : ys.length ≤ sizeLine) :
  Inv X pins σ (upd H l (.lst ys)) { s with heap:=s.heap.update l (Obj.mapSeq f),toks:=t' }:=by
 have q:=PySem.IsL.update e f
 rw [hf] at q
 refine I.write (x:=l) (e:=l) (by rw [hH]; exact trivial) (.inl rfl) (fun b' u hb hu=>(Heap.get?_update_other s.heap (Obj.mapSeq f) (Ne.symm hb)).trans hu) ⟨_,q⟩ ?_
 exact ⟨hz,its',_,hv,q⟩
theorem Inv.lnew {its:List Value} {t':Nat} (I:Inv X pins σ H s) (hv:Vals ys its) (hz:ys.length≤sizeLine) :
  Inv X pins σ (upd H s.heap.objs.size (.lst ys)) { s with heap := s.heap.push { cls := .type "list", data := .seq its.toArray }, toks := t' } :=
 I.laid (fun _ _ q=>Heap.get?_push_of_some _ q) (Nat.le_refl _) ⟨hz,its,0,hv,Heap.get?_push_size _ rfl⟩
theorem Inv.fresh (I:Inv X pins σ H s):H s.heap.objs.size=none:=I.hok.fresh (Nat.le_refl _)
theorem Inv.lstM (I : Inv X pins σ H s) (hH : H l = some (.lst xs)) : xs.length ≤ sizeLine ∧ ∃ (its : List Value) (n : Nat), Vals xs its ∧ xs.length = its.length ∧ s.heap.get? l = some { cls := .type "list", data := .seq its.toArray n } := by
 obtain ⟨z,its,n,r,e⟩:=I.hok l _ hH
 exact ⟨z,its,n,r,r.length,e⟩
end
section
variable {X:Cx}
noncomputable def ZiK:V→List V→Hp→VK→Prop:=fun x vs H Q => ∃ l xs y,x = .ref l∧vs=[y]∧H l=some (.lst xs)∧xs.length<sizeLine∧Q .non (upd H l (.lst (xs++[y])))
theorem ZlX : MtM X "list.append" ZiK := by
 intro pins s σ H x vs v us Q I rx rv h
 obtain ⟨l,xs,y,rfl,rfl,hH,hz,q⟩:=h
 cases rx
 obtain ⟨u,rfl,ru⟩:=rv.one
 obtain ⟨z,its,n,r,hl,e⟩:=I.lstM hH
 refine call_meets F.slot_list_append ⟨_,e,rfl⟩ F.entry_list_append (F.args_list_append_2 _ _) (PySem.list_append l its.toArray n u (by rw [List.size_toArray]; omega)) ⟨e,?_⟩
 refine ⟨.non,_,I.lset (its':=its++[u]) hH e (by simp) (r.append (.cons ru .nil)) ?_,rfl,q⟩
 rw [List.length_append,List.length_singleton]
 omega
noncomputable def ZkK:V→List V→Hp→VK→Prop:=fun x vs H Q => ∃ l xs y,x = .ref l∧vs=[]∧H l=some (.lst xs)∧xs[xs.length - 1]?=some y∧Q y (upd H l (.lst xs.dropLast))
theorem ZjU : MtM X "list.pop" ZkK := by
 intro pins s σ H x vs v us Q I rx rv h
 obtain ⟨l,xs,y,rfl,rfl,hH,hy,q⟩:=h
 cases rx
 have hus:=rv.zero
 subst hus
 obtain ⟨z,its,n,r,hl,e⟩:=I.lstM hH
 obtain ⟨u,hu,ru⟩:=r.get hy
 have hy':its.toArray[its.toArray.size - 1]?=some u:=by
  show its.toArray[its.length - 1]?=some u
  rw [← Array.getElem?_toList,← hl]
  exact hu
 refine call_meets F.slot_list_pop ⟨_,e,rfl⟩ F.entry_list_pop (F.args_list_pop_1 _) (MeetsSeq.list_pop_last l its.toArray n u hy' (by rw [List.size_toArray]; omega)) ⟨e,?_⟩
 refine ⟨y,_,I.lset (its':=its.dropLast) hH e ?_ r.dropLast ?_,ru,q⟩
 ·show its.toArray.eraseIdxIfInBounds (its.toArray.size - 1)=its.dropLast.toArray
  rw [List.size_toArray,List.eraseIdxIfInBounds_toArray,ZlL]
 ·rw [List.length_dropLast]
  omega
noncomputable def ZlB:R2:=fun x y H Q => ∃ l b xs zs,x = .ref l∧y = .ref b∧H l=some (.lst xs)∧H b=some (.lst zs)∧xs.length+zs.length≤sizeLine∧∀ p,H p=none→Q (.ref p) (upd H p (.lst (xs++zs)))
theorem ZmV:OpR X (binaryOp .Add) ZlB:=by
 intro pins s σ H x y v u Q I rx ry h
 obtain ⟨l,b,xs,zs,rfl,rfl,hH,hB,hz,q⟩:=h
 cases rx
 cases ry
 obtain ⟨z,its,n,r,hl,e⟩:=I.lstM hH
 obtain ⟨z2,its2,n2,r2,hl2,e2⟩:=I.lstM hB
 refine PySem.P.add_list e e2 ?_ (by rw [List.size_toArray,List.size_toArray]; omega)
 have ea:its.toArray++its2.toArray=(its++its2).toArray:=by simp
 rw [ea]
 exact ⟨.ref _,_,I.lnew (t':=s.toks) (r.append r2) (by rw [List.length_append]; omega),rfl,q _ I.fresh⟩
theorem len_rep {α:Type} (xs:List α) (k:Nat):(List.replicate k xs).flatten.length=k * xs.length:=by
 induction k with
 | zero=>simp
 | succ k ih=>rw [List.replicate_succ,List.flatten_cons,List.length_append,ih,Nat.succ_mul,Nat.add_comm]
end
end L2
namespace Att
open PySem PySem.W PySem.Calls PyProof.Rows
theorem ZjZ {P:Params} {h:Heap}:∀ (ns:List Int) (vs:List Value),WellAll P h vs (ns.map WData.int)→IntsAre vs ns:=by
 intro ns
 induction ns with
 | nil =>
  intro vs w
  rw [List.map_nil] at w
  cases w
  exact .nil
 | cons n ns ih =>
  intro vs w
  rw [List.map_cons] at w
  cases w with
  | cons a b =>
   cases a
   exact .cons _ _ (ih _ b)
theorem Zju {l:OpenLaw} {n:Nat} (hn:l.most=some n) {P:Params} {h:Heap} {args:List WData} {vals:List Value}
  (hpre:l.row.toRowW.claim.pre args=true) (hwl:WellAll P h vals args) :
  ∃ a vs ns, vals = [Value.ref a] ∧ args = [WData.list (ns.map WData.int)] ∧ h.get? a = some { cls := .type "list", data := .seq vs.toArray } ∧ IntsAre vs ns ∧ ns.length ≤ n := by
 have hsh:WShape.hasAll [] args [.list .int]=true:=(pre_splitW hpre).1
 have hc:l.pre.holds [] { args:=args }=true:=(pre_splitW hpre).2
 obtain ⟨d,r,rfl,h1,h2⟩:=hasAllW_cons hsh
 obtain rfl:=hasAllW_nil h2
 obtain ⟨xs,rfl,h3⟩:=hasW_list h1
 obtain ⟨ns,rfl⟩:=items_int h3
 have hlen:ns.length≤n:=by
  unfold OpenLaw.pre at hc
  have h4:(WTm.not (.lt (.lit (.int (n:Int))) (.len (.arg 0)))).holds [] { args:=[.list (ns.map .int)] }=true:=by
   have h4:=(holds_andW hc).1
   rw [hn] at h4
   exact h4
  have h5:=condW_of h4 (w_not (w_lt w_lit (w_len_list (w_arg rfl))))
  rw [List.length_map] at h5
  refine Nat.le_of_not_lt fun q => ?_
  have q':(n:Int)<((ns.length:Nat):Int):=by omega
  first
   | (rw [decide_eq_true q'] at h5; exact absurd h5 (by decide))
   | (simp at h5; omega)
 cases hwl with
 | cons w1 w2 =>
  cases w2
  cases w1 with
  | list ho hall=>exact ⟨_,_,ns,rfl,rfl,ho,ZjZ ns _ hall,hlen⟩
theorem Zne (l:OpenLaw) (args:List WData):l.row.toRowW.claim.post args (.bool true) args=true :=
 postW_of (r:=l.row.toRowW) (X:=(true == true))
  (show WShape.has [] (.bool true) .bool=true by first | rfl | decide | simp [WShape.has,WShape.arms,WShape.armsAll])
  (show (WTm.eq .res (.lit (.bool true))).value [] { args:=args,res:=some (.bool true),after:=args }=some (.bool (true == true)) from w_eq_bool (w_res rfl) w_lit) rfl
theorem attach_call {l:OpenLaw} {n:Nat} {q:Program} {loose:List Str} {XP:(Str→Option Value)→Heap→Prop} {YP:World→Heap→Prop} {d:DefRec}
  (hn:l.most=some n) (hdf:d.params.defaults=[])
  (call:∀ (w:World) (s₀ s₁:Shared) (mg mb:Str→Option Value) (fa:Addr) (o:Obj) (pm cd doc:Value) (a:Addr) (vs:List Value) (ns:List Int),
   Ground q loose [] XP w s₀ mg mb s₁.heap→YP w s₁.heap →
   s₁.heap.get? fa=some o→o.data = .func (docDef d.name d.params d.body d.scope pm cd doc)→s₁.heap.CodeRec cd d.name→mg d.name=some (.ref fa) →
   s₁.heap.get? a = some { cls := .type "list", data := .seq vs.toArray } → IntsAre vs ns → ns.length ≤ n → s₁.gens = #[] →
   codeAny (model l.prog w) callerA (.call (.ref fa) ⟨[.ref a],[]⟩) (fun r s'=>r = .ok (.ret (.bool true))∧OldK s₁.heap s'.heap∧s'.os=s₁.os∧AllBare s'.gens) s₁) :
  WalkO q loose XP YP l.row.toRowW d [] (fun f vs=>PySem.call f vs):=by
 intro w s₀ s₁ mg mb G Y fa o pm cd doc dV kV ho hd hcd hD hmg hg args vals as hpre hlay hrd hwl hlo
 obtain rfl:dV = .none:=Dflts.none hD hdf
 obtain rfl:kV = .none:=Dflts.noKw hD
 obtain ⟨a,vs,ns,rfl,rfl,hobj,hints,hlen⟩:=Zju hn hpre hwl
 refine enter_call (codeAny_mono (call w s₀ s₁ mg mb fa o pm cd doc a vs ns G Y ho (fd_plain hd) hcd hmg hobj hints hlen hg) fun r s' hq => ?_)
 obtain ⟨rfl,h2,h3,h4⟩:=hq
 exact ⟨.inl ⟨.bool true,.bool true,[],rfl,fun _=>rfl,.bool true,Zne l _,fun _=>⟨List.Pairwise.nil,fun _ hm=>(nomatch hm)⟩⟩,h2,h3,h4⟩
end Att
namespace L2
open PySem PySem.Spec PyProof.Rows
theorem Zdp:∀ {vs:List Value} {ns:List Int},IntsAre vs ns→Vals (ns.map V.int) vs
 | _,_,.nil => .nil
 | _,_,.cons n t h => .cons ⟨t,rfl⟩ (Zdp h)
noncomputable def ZbK (H:Hp):Prop:=∀ b,H b=none∨∃ o xs,H b=some (.frz o (.lst xs))
theorem ZlF {P:Program} {w:World} {K:PySem.W.Frag} {mg mb:Str→Option Value} {CX:CXT} {k:Nat} {fa a:Addr} {fd:FuncData} {x:Str} {sp:Sp} {s₁:Shared} {vs:List Value} {ns:List Int}
  (KX : K.In s₁.heap) (hns : s₁.heap.Ns mainGlobals mg) (hb : s₁.heap.Ns builtinsNs mb) (hbb : ∀ x : Str, x ≠ "__name__" → mb x = bootBuiltins x) (hlim : s₁.heap.NoLimit) (hg : s₁.gens = #[])
  (ha : s₁.heap.get? a = some { cls := .type "list", data := .seq vs.toArray }) (hi : IntsAre vs ns) (hl : ns.length ≤ sizeLine) (hr : Room k callerA)
  (F:∀ base:Heap,K.In base→base.Ns mainGlobals mg→FnOk P w K mg base CX k fa fd [x] sp) (hbind:∀ (s:Shared) (u:Value),BindsTo s fd ⟨[u],[]⟩ [(x,u)])
  (hsp:∀ H:Hp,ZbK H→SqL K H a (ns.map V.int)→sp [.ref a] H (fun v _=>v = .bl true) fun _ _ _=>False)
  (hCX:∀ H e s',CX [] H s₁ (fun _ _ _=>False) e s'→False) :
  codeAny (model P w) callerA (.call (.ref fa) ⟨[.ref a],[]⟩) (fun r s'=>r = .ok (.ret (.bool true))∧OldK s₁.heap s'.heap∧s'.os=s₁.os∧AllBare s'.gens) s₁:=by
 have rv:=Zdp hi
 have lenV:=hi.length
 have core:∀ H:Hp,ZbK H→SqL K H a (ns.map V.int)→HOk P w H s₁.heap→(∀ b,H b≠none→b=a)→(H a≠none→K.lookup a=none) →
   codeAny (model P w) callerA (.call (.ref fa) ⟨[.ref a],[]⟩) (fun r s'=>r = .ok (.ret (.bool true))∧OldK s₁.heap s'.heap∧s'.os=s₁.os∧AllBare s'.gens) s₁:=by
  intro H hO hS hok hA hK
  have base_of:∀ {b:Addr} {o:Obj},s₁.heap.get? b=some o→H b=none→(Wo s₁.heap H).get? b=some o:=fun e n=>Zmk e n
  have noA:∀ {b:Addr} {o:Obj} {es:Array DictEntry} {ep:Nat},s₁.heap.get? b=some o→o.data = .dict es ep→H b=none:=fun {b o es ep} e d=>by
   cases q:H b with
   | none=>rfl
   | some u =>
    have e':b=a:=hA b (by rw [q]; simp)
    subst e'
    rw [ha] at e; cases e
    have d':Data.seq vs.toArray _=Data.dict es ep:=d
    cases d'
  have nsK:∀ {b:Addr} {m:Str→Option Value},s₁.heap.Ns b m→(Wo s₁.heap H).Ns b m:=fun {b m} ⟨o,es,ep,e,d,r⟩=>⟨o,es,ep,base_of e (noA e d),d,r⟩
  have hKb:K.In (Wo s₁.heap H):=fun b o e=>base_of (KX b o e) (by
   cases q:H b with
   | none=>rfl
   | some u =>
    have e':b=a:=hA b (by rw [q]; simp)
    subst e'
    rw [hK (by rw [q]; simp)] at e; cases e)
  have hM:Mod K mg (Wo s₁.heap H):=⟨hKb,nsK hns,⟨mb,nsK hb,hbb⟩,let ⟨mc,h1,h2⟩:=hlim; ⟨mc,nsK h1,h2⟩⟩
  have e0:Env0 P w K mg (Wo s₁.heap H) callerA [] s₁ H:=⟨rfl,hM,fun b o e=>ZkT e,Nat.le_of_eq (Zmd _ _),trivial,fun b hb=>absurd (show b∈([]:List Addr) from hb) (by simp),hok,.of_eq hg⟩
  refine codeAny_mono ((F _ hKb (nsK hns)).run callerA [] s₁ H ⟨[.ref a],[]⟩ [.ref a] [.ref a] _ _ hr e0 (hbind s₁ (.ref a)) (.cons rfl .nil) (hsp H hO hS)) fun r s' h => ?_
  cases r with
  | error e=>exact (hCX H e s' h).elim
  | ok fl =>
   cases fl with
   | next=>exact False.elim h
   | brk=>exact False.elim h
   | cont=>exact False.elim h
   | ret u =>
    obtain ⟨v,H',os,bare,un,hok',r',q⟩:=h
    have q':v = .bl true:=q
    subst q'
    obtain rfl:u=Value.bool true:=r'
    refine ⟨rfl,OldK.of_keep fun b o e => ?_,os,bare⟩
    cases q:H b with
    | none=>exact un.keep b o e q (by intro z; exact absurd (show b∈([]:List Addr) from z) (by simp)) (by simp)
    | some u =>
     rcases hO b with z | ⟨ob,xs,z⟩
     ·rw [q] at z; cases z
     ·have z2:=un.frzs b ob _ z
      obtain ⟨e1,_⟩:=hok b _ z
      obtain ⟨e2,_⟩:=hok' b _ z2
      rw [e] at e1; cases e1
      exact e2
 cases hk:K.lookup a with
 | some o =>
  have e:=KX a o hk
  rw [ha] at e
  cases e
  refine core (fun _=>none) (fun _ => .inl rfl) (.inr ⟨_,vs.toArray,_,hk,rfl,rfl,rfl,by rw [List.size_toArray,lenV]; exact hl,by simpa using rv⟩) (fun b u z=>by have z':(none:Option HO)=some u:=z; cases z') (fun b z=>absurd rfl z) fun z=>absurd rfl z
 | none =>
  refine core (fun b => if b = a then some (.frz { cls := .type "list", data := .seq vs.toArray } (.lst (ns.map V.int))) else none) (fun b => ?_) (.inl (.inr ⟨{ cls := .type "list", data := .seq vs.toArray }, if_pos rfl⟩)) (fun b u z => ?_) (fun b z => ?_) fun _ => hk
  ·by_cases hb:b=a
   ·exact .inr ⟨_,_,if_pos hb⟩
   ·exact .inl (if_neg hb)
  ·by_cases hb:b=a
   ·have z':=(if_pos hb).symm.trans z
    cases z'
    subst hb
    exact ⟨ha,by rw [List.length_map]; exact hl,vs,_,rv,ha⟩
   ·have z':=(if_neg hb).symm.trans z
    cases z'
  ·by_cases hb:b=a
   ·exact hb
   ·exact absurd (if_neg hb) z
end L2
namespace L2
open PySem PySem.Spec PyProof.Rows
theorem walk_of {l:PySem.W.OpenLaw} {n k:Nat} {q:Program} {loose:List Str} {XP:(Str→Option Value)→Heap→Prop} {YP:World→Heap→Prop} {d:DefRec} {K:Params→PySem.W.Frag} {CX:World→CXT} {sp:World→Sp} {x:Str}
  (hn:l.most=some n) (hn2:n≤sizeLine) (hdf:d.params.defaults=[]) (hr:Room k callerA)
  (hY:∀ (w:World) (h:Heap),YP w h→(K w.params).In h)
  (F:∀ (w:World) (mg:Str→Option Value) (fa:Addr) (h:Heap),(K w.params).In h→h.Ns mainGlobals mg→mg d.name=some (.ref fa) →
   ∃ fd:FuncData,(∀ (s:Shared) (u:Value),BindsTo s fd ⟨[u],[]⟩ [(x,u)]) ∧
    ∀ base:Heap,(K w.params).In base→base.Ns mainGlobals mg→FnOk l.prog w (K w.params) mg base (CX w) k fa fd [x] (sp w))
  (hsp:∀ (w:World) (H:Hp) (a:Addr) (ns:List Int),ns.length≤n→ZbK H→SqL (K w.params) H a (ns.map V.int)→sp w [.ref a] H (fun v _=>v = .bl true) fun _ _ _=>False)
  (hCX:∀ (w:World) (H:Hp) (s:Shared) (e:Value) (s':Shared),CX w [] H s (fun _ _ _=>False) e s'→False) :
  PySem.W.WalkO q loose XP YP l.row.toRowW d [] (fun f vs=>PySem.call f vs):=by
 refine Att.attach_call hn hdf fun w s₀ s₁ mg mb fa o pm cd doc a vs ns G Y ho hd hcd hmg hobj hints hlen hg => ?_
 have KX:=hY w _ Y
 obtain ⟨fd,hb,hF⟩:=F w mg fa _ KX G.T.g hmg
 exact ZlF KX G.T.g G.T.b G.T.builtins G.T.nolimit hg hobj hints (Nat.le_trans hlen hn2) hr hF hb (fun H hO hS=>hsp w H a ns hlen hO hS) fun H e s'=>hCX w H s₁ e s'
end L2
/- THE LAST THEOREM (shape; LID, My.* are yours):
   My.Adr: a structure of the addresses that your layer names (classes,functions); My.Txt K t: a structure (Prop) of the equations over K;
   My.txt_mk : {K} {implicit addresses ..} (e1 : nsIn K mainGlobals "law" = some (some (.ref f))) (e2 : K.lookup f = some ⟨oc, od, .func (fnOf "law" "law" params body scope dV kV doc pm an cdv ct), sl⟩) (e3 : codeIn K cdv "law" = true) .. : ∃ t, My.Txt K t
set_option maxRecDepth 100000 in
set_option maxHeartbeats 0 in
theorem PySem.Challenge.cw_LID_holds : PySem.Challenge.rw_LID.Holds := by
 w_on; o_law; k_head; (case hw=>w_witness2)
 k_fill
 refine L2.walk_of (l := PySem.Challenge.rw_LID) (n := 63) (k := 40) (x := "script") (CX := fun w => ..) (sp := fun _ => My.sp_law) rfl (by decide) rfl ⟨rfl, by decide, by decide⟩ (fun w h Y => PySem.W.kIn_of Y) ?F ?S ?C
 case F =>
  intro w mg fa h KX G hmg
  have T:∃ t,My.Txt (L2.KOf KX) t:=by
   dsimp only [L2.KOf]                          -- K must stand as «<heap const> w.params» for k_is
   refine' My.txt_mk ?e1 ?e2 ?e3 ..
   (case e1 => PySem.W.k_is)                    -- in the order: a name -> its address -> its object -> its parts
   (case e2=>PySem.W.k_is)
   ..
  obtain ⟨t,T⟩:=T
  have e0:=hmg.symm.trans (PySem.W.mg_of KX G T.law)
  cases e0                                       -- fa is the law's own address
  exact ⟨_, fun s u => .of_eq rfl, fun base kb nb => My.law_fn T kb nb⟩     -- if «.of_eq rfl» comes too early: refine' ⟨_, ?b, fun base kb nb => My.law_fn T kb nb⟩; exact fun s u => .of_eq rfl
 case S=>exact fun w H a ns hl hO hS => ..
 case C=>exact ..
(the tactic k_is has no namespace: write k_is) -/
namespace L2
open PySem PySem.Spec PyProof.Rows
noncomputable def ZT (s:Stmt):Arguments:=match s with
 | .FunctionDef _ a _ _ _ _ _ _ _ _=>a
 | _ => { posonlyargs:=[],args:=[],vararg:=none,kwonlyargs:=[],kw_defaults:=[],kwarg:=none,defaults:=[] }
noncomputable def Zv (s:Stmt):List Stmt:=match s with
 | .FunctionDef _ _ b _ _ _ _ _ _ _=>b
 | _=>[]
noncomputable def Zi (s:Stmt):Scope:=match s with
 | .FunctionDef _ _ _ _ _ _ sc _ _ _=>sc
 | _ => { kind:=.function,names:=[],isGenerator:=false,isCoroutine:=false }
noncomputable abbrev CX0:CXT:=fun _ _ _ _ _ _=>False
structure Fun (K:PySem.W.Frag) (x qual:Str) (st:Stmt) (f:Addr) (fd:FuncData):Prop where
 ex:∃ (oc:Value) (od:Option Addr) (kV doc pm:Value) (an:Option Addr) (cdv ct:Value) (osl:Array (Option Value)),
  fd=PySem.W.fnOf x qual (ZT st) (Zv st) (Zi st) .none kV doc pm an cdv ct∧K.lookup f=some ⟨oc,od,.func fd,osl⟩∧PySem.W.codeIn K cdv qual=true
 kp:PySem.W.keepIn K (.ref f)=true
section
variable {P:Program} {w:World} {K:PySem.W.Frag} {mg:Str→Option Value} {base:Heap}
theorem Fun.ok {x qual:Str} {st:Stmt} {f:Addr} {fd:FuncData} {N ps:List Str} {k:Nat} {sp:Sp} (F:Fun K x qual st f fd) (S:FnScope N ps (Zi st)) (len:∀ vs H Q E,sp vs H Q E→vs.length=ps.length)
  (hbody:∀ (cdv:Value) (A:Around) (outer:List Env) (s:Shared) (H:Hp) (vs:List V) (Q:VK) (E:XK),Room k (A.deeper (envOfC qual (Zi st) s.heap.objs.size f cdv))→sp vs H Q E →
   ∃ t,PSs (Z1 CX0 P w K mg base N qual (Zi st) f cdv A outer s H E).nox (Zv st) t∧t { nx:=fun _ H'=>Q .non H',rt:=Q } (start N vs) H):FnOk P w K mg base CX0 (k+1) f fd ps sp:=by
 obtain ⟨oc,od,kV,doc,pm,an,cdv,ct,osl,rfl,lk,hcd⟩:=F.ex
 refine Zmt lk hcd S len fun A outer s H vs Q E hr hsp => ?_
 obtain ⟨t,h,q⟩:=hbody cdv A outer s H vs Q E hr hsp
 exact ⟨t,h.nox,q⟩
theorem Fun.binds {x qual:Str} {st:Stmt} {f:Addr} {fd:FuncData} {ps:List Str} (F:Fun K x qual st f fd)
  (h:∀ (kV doc pm:Value) (an:Option Addr) (cdv ct:Value) (us:List Value),us.length=ps.length→bindArgs (PySem.W.fnOf x qual (ZT st) (Zv st) (Zi st) .none kV doc pm an cdv ct) ⟨us,[]⟩=pure (ps.zip us)):Binds K fd ps []:=by
 obtain ⟨oc,od,kV,doc,pm,an,cdv,ct,osl,rfl,lk,hcd⟩:=F.ex
 exact .all (h kV doc pm an cdv ct)
theorem Z3 {x qual:Str} {st:Stmt} {f:Addr} {oc:Value} {od an:Option Addr} {osl:Array (Option Value)} {kV doc pm cdv ct:Value} (l:K.lookup f=some ⟨oc,od,.func (PySem.W.fnOf x qual (ZT st) (Zv st) (Zi st) .none kV doc pm an cdv ct),osl⟩)
  (c:PySem.W.codeIn K cdv qual=true) (k:PySem.W.keepIn K (.ref f)=true):Fun K x qual st f (PySem.W.fnOf x qual (ZT st) (Zv st) (Zi st) .none kV doc pm an cdv ct):=⟨⟨oc,od,kV,doc,pm,an,cdv,ct,osl,rfl,l,c⟩,k⟩
end
end L2
section
namespace DL
open PySem PySem.Spec PyProof.Rows L2
inductive D where
 | non | bl (b:Bool) | int (i:Int) | str (x:Str) | tup (xs:List D) | lst (xs:List D) | scr (xs:List D) | res (i:Nat) | exv (C:Addr)
inductive S where
 | lst (xs:List D)
 | ins (C:Addr) (fs:List (Str×D))
 | dct (kvs:List (D×D))
 | dtt (kvs:List (D×D))
 | fdc (kvs:List (D×D))
noncomputable abbrev Sto:=List S
noncomputable abbrev Ev:=List (Option D)
inductive Out (α:Type) where
 | ok (a:α) (st:Sto)
 | exc (c:Addr) (st:Sto)
 | bad
noncomputable def Out.bind {α β:Type} (r:Out α) (k:α→Sto→Out β):Out β:=match r with
 | .ok a st=>k a st
 | .exc c st => .exc c st
 | .bad => .bad
theorem ZdB {α:Type} {l:List α} (hl:l.Nodup) {i j:Nat} {x:α} (a:l[i]?=some x) (b:l[j]?=some x):i=j:=by
 obtain ⟨h1,e1⟩:=List.getElem?_eq_some_iff.mp a
 obtain ⟨h2,e2⟩:=List.getElem?_eq_some_iff.mp b
 have hp:=List.pairwise_iff_getElem.mp hl
 rcases Nat.lt_trichotomy i j with h | h | h
 ·exact absurd (e1.trans e2.symm) (hp i j h1 h2 h)
 ·exact h
 ·exact absurd (e2.trans e1.symm) (hp j i h2 h1 h)
noncomputable def ExcO (a C:Addr):Heap→Prop:=fun h => ∃ o vs,h.get? a=some o∧o.cls = .ref C∧o.data = .fields vs
theorem ExcO.inj {a C C':Addr} {h:Heap} (x:ExcO a C h) (y:ExcO a C' h):C=C':=by
 obtain ⟨o,_,e,c,_⟩:=x
 obtain ⟨o',_,e',c',_⟩:=y
 rw [e] at e'
 cases e'
 rw [c] at c'
 exact Value.ref.inj c'
section
variable (K:PySem.W.Frag)
noncomputable def SqF (H:Hp) (a:Addr) (vs:List V):Prop :=
 (∃ o, H a = some (.frz o (.lst vs))) ∨ ∃ (o : Obj) (its : Array Value) (n : Nat), K.lookup a = some o ∧ o.cls = .type "list" ∧ o.dict = none ∧ o.data = .seq its n ∧ its.size ≤ sizeLine ∧ Vals vs its.toList
mutual
noncomputable def Rep (O:List Addr) (H:Hp):D→V→Prop
 | .non,v=>v = .non
 | .bl b,v=>v = .bl b
 | .int i,v=>v = .int i
 | .str x,v=>v = .str x
 | .tup ds,v => ∃ a vs,v = .ref a∧H a=some (.tup vs)∧Reps O H ds vs
 | .lst ds,v => ∃ a vs,v = .ref a∧a ∉ O∧H a=some (.lst vs)∧Reps O H ds vs
 | .scr ds,v => ∃ a vs,v = .ref a∧SqF K H a vs∧Reps O H ds vs
 | .res i,v => ∃ a,v = .ref a∧O[i]?=some a
 | .exv C,v => ∃ a,v = .ref a∧H a=some (.ext (ExcO a C))
noncomputable def Reps (O:List Addr) (H:Hp):List D→List V→Prop
 | [],vs=>vs=[]
 | d :: ds,vs => ∃ v r,vs=v :: r∧Rep O H d v∧Reps O H ds r
end
noncomputable def Flds (O:List Addr) (H:Hp):List (Str×D)→List (Str×V)→Prop
 | [],vs=>vs=[]
 | (x,d) :: ds,vs => ∃ v r,vs=(x,v) :: r∧Rep K O H d v∧Flds O H ds r
noncomputable def Yn:D→Option Key
 | .int i=>some (.inl i)
 | .str x=>some (.inr x)
 | _=>none
noncomputable def Wa:List D→Option (List Key)
 | []=>some []
 | d :: ds=>match Yn d,Wa ds with
  | some k,some ks=>some (k :: ks)
  | _,_=>none
noncomputable def ZK:D→Option (List Key)
 | .tup ds=>Wa ds
 | _=>none
noncomputable def Kvs {κ:Type} (f:D→Option κ) (O:List Addr) (H:Hp):List (D×D)→List (κ×V)→Prop
 | [],vs=>vs=[]
 | (k,d) :: ds,vs => ∃ q v r,vs=(q,v) :: r∧f k=some q∧Rep K O H d v∧Kvs f O H ds r
noncomputable def RepS (O:List Addr) (H:Hp) (a:Addr):S→Prop
 | .dct ds => ∃ vs,H a=some (.dK vs)∧Kvs K Yn O H ds vs
 | .dtt ds => ∃ vs,H a=some (.dT vs)∧Kvs K ZK O H ds vs
 | .fdc ds => ∃ o vs,H a=some (.frz o (.dK vs))∧Kvs K Yn O H ds vs
 | .lst ds => ∃ vs,H a=some (.lst vs)∧Reps K O H ds vs
 | .ins C fs => ∃ dx vfs,H a=some (.ins C dx vfs)∧Flds K O H fs vfs
structure WR (O:List Addr) (H:Hp) (st:Sto):Prop where
 len:O.length=st.length
 nd:O.Nodup
 at_:∀ (i:Nat) (a:Addr) (s:S),O[i]?=some a→st[i]?=some s→RepS K O H a s
structure Keep (O:List Addr) (H:Hp) (O':List Addr) (H':Hp):Prop where
 tup:∀ a vs,H a=some (.tup vs)→H' a=some (.tup vs)
 lst:∀ a vs,a ∉ O→H a=some (.lst vs)→a ∉ O'∧H' a=some (.lst vs)
 frz:∀ a vs,SqF K H a vs→SqF K H' a vs
 pre:∀ (i:Nat) (a:Addr),O[i]?=some a→O'[i]?=some a
 exv:∀ a C,H a=some (.ext (ExcO a C))→H' a=some (.ext (ExcO a C))
end
section
variable {K:PySem.W.Frag} {O O1 O2 O':List Addr} {H H1 H2 H':Hp} {st st':Sto}
theorem SqF.sq {a:Addr} {vs:List V} (h:SqF K H a vs):SqL K H a vs:=by
 rcases h with ⟨o,h⟩ | h
 ·exact .inl (.inr ⟨o,h⟩)
 ·exact .inr h
theorem SqF.of {a:Addr} {vs:List V} (h:SqL K H a vs) (hn:H a≠some (.lst vs)):SqF K H a vs:=by
 rcases h with (h | ⟨o,h⟩) | h
 ·exact absurd h hn
 ·exact .inl ⟨o,h⟩
 ·exact .inr h
theorem Keep.refl:Keep K O H O H:=⟨fun _ _ h=>h,fun _ _ n h=>⟨n,h⟩,fun _ _ h=>h,fun _ _ h=>h,fun _ _ h=>h⟩
theorem Keep.trans (a:Keep K O H O1 H1) (b:Keep K O1 H1 O2 H2):Keep K O H O2 H2 :=
 ⟨fun x vs h=>b.tup x vs (a.tup x vs h),fun x vs n h=>let ⟨n1,h1⟩:=a.lst x vs n h; b.lst x vs n1 h1,fun x vs h=>b.frz x vs (a.frz x vs h),fun i x h=>b.pre i x (a.pre i x h),fun x C h=>b.exv x C (a.exv x C h)⟩
mutual
theorem Rep.mono (k:Keep K O H O' H'):∀ (d:D) (v:V),Rep K O H d v→Rep K O' H' d v
 | .non,_,h=>by unfold Rep at h ⊢; exact h
 | .bl _,_,h=>by unfold Rep at h ⊢; exact h
 | .int _,_,h=>by unfold Rep at h ⊢; exact h
 | .str _,_,h=>by unfold Rep at h ⊢; exact h
 | .tup ds,v,h=>by
  unfold Rep at h ⊢
  obtain ⟨a,vs,e,q,r⟩:=h
  exact ⟨a,vs,e,k.tup _ _ q,Reps.mono k ds vs r⟩
 | .lst ds,v,h=>by
  unfold Rep at h ⊢
  obtain ⟨a,vs,e,n,q,r⟩:=h
  exact ⟨a,vs,e,(k.lst _ _ n q).1,(k.lst _ _ n q).2,Reps.mono k ds vs r⟩
 | .scr ds,v,h=>by
  unfold Rep at h ⊢
  obtain ⟨a,vs,e,q,r⟩:=h
  exact ⟨a,vs,e,k.frz _ _ q,Reps.mono k ds vs r⟩
 | .res i,v,h=>by
  unfold Rep at h ⊢
  obtain ⟨a,e,q⟩:=h
  exact ⟨a,e,k.pre _ _ q⟩
 | .exv C,v,h=>by
  unfold Rep at h ⊢
  obtain ⟨a,e,q⟩:=h
  exact ⟨a,e,k.exv _ _ q⟩
theorem Reps.mono (k:Keep K O H O' H'):∀ (ds:List D) (vs:List V),Reps K O H ds vs→Reps K O' H' ds vs
 | [],_,h=>by unfold Reps at h ⊢; exact h
 | d :: ds,vs,h=>by
  unfold Reps at h ⊢
  obtain ⟨v,r,e,q,t⟩:=h
  exact ⟨v,r,e,Rep.mono k d v q,Reps.mono k ds r t⟩
end
theorem Kvs.mono {κ:Type} {f:D→Option κ} (k:Keep K O H O' H'):∀ (ds:List (D×D)) (vs:List (κ×V)),Kvs K f O H ds vs→Kvs K f O' H' ds vs
 | [],_,h=>by unfold Kvs at h ⊢; exact h
 | (x,d) :: ds,vs,h=>by
  unfold Kvs at h ⊢
  obtain ⟨q,v,r,e,z,y,t⟩:=h
  exact ⟨q,v,r,e,z,Rep.mono k d v y,Kvs.mono k ds r t⟩
theorem Flds.mono (k:Keep K O H O' H'):∀ (ds:List (Str×D)) (vs:List (Str×V)),Flds K O H ds vs→Flds K O' H' ds vs
 | [],_,h=>by unfold Flds at h ⊢; exact h
 | (x,d) :: ds,vs,h=>by
  unfold Flds at h ⊢
  obtain ⟨v,r,e,q,t⟩:=h
  exact ⟨v,r,e,Rep.mono k d v q,Flds.mono k ds r t⟩
theorem Rep.non_i {v:V}:Rep K O H .non v ↔ v = .non:=by unfold Rep; exact Iff.rfl
theorem Rep.bl_i {b:Bool} {v:V}:Rep K O H (.bl b) v ↔ v = .bl b:=by unfold Rep; exact Iff.rfl
theorem Rep.int_i {i:Int} {v:V}:Rep K O H (.int i) v ↔ v = .int i:=by unfold Rep; exact Iff.rfl
theorem Rep.str_i {x:Str} {v:V}:Rep K O H (.str x) v ↔ v = .str x:=by unfold Rep; exact Iff.rfl
theorem Rep.tup_i {ds:List D} {v:V}:Rep K O H (.tup ds) v ↔ ∃ a vs,v = .ref a∧H a=some (.tup vs)∧Reps K O H ds vs:=by unfold Rep; exact Iff.rfl
theorem Rep.lst_i {ds:List D} {v:V}:Rep K O H (.lst ds) v ↔ ∃ a vs,v = .ref a∧a ∉ O∧H a=some (.lst vs)∧Reps K O H ds vs:=by unfold Rep; exact Iff.rfl
theorem Rep.scr_i {ds:List D} {v:V}:Rep K O H (.scr ds) v ↔ ∃ a vs,v = .ref a∧SqF K H a vs∧Reps K O H ds vs:=by unfold Rep; exact Iff.rfl
theorem Rep.res_i {i:Nat} {v:V}:Rep K O H (.res i) v ↔ ∃ a,v = .ref a∧O[i]?=some a:=by unfold Rep; exact Iff.rfl
theorem Rep.exv_i {C:Addr} {v:V}:Rep K O H (.exv C) v ↔ ∃ a,v = .ref a∧H a=some (.ext (ExcO a C)):=by unfold Rep; exact Iff.rfl
theorem Reps.nil_i {vs:List V}:Reps K O H [] vs ↔ vs=[]:=by unfold Reps; exact Iff.rfl
theorem Reps.cons_i {d:D} {ds:List D} {vs:List V}:Reps K O H (d :: ds) vs ↔ ∃ v r,vs=v :: r∧Rep K O H d v∧Reps K O H ds r:=by
 constructor
 ·intro h; unfold Reps at h; exact h
 ·intro h; unfold Reps; exact h
theorem Reps.length:∀ {ds:List D} {vs:List V},Reps K O H ds vs→ds.length=vs.length
 | [],_,h=>by rw [Reps.nil_i] at h; subst h; rfl
 | d :: ds,vs,h=>by
  obtain ⟨v,r,rfl,_,t⟩:=Reps.cons_i.mp h
  rw [List.length_cons,List.length_cons,Reps.length t]
theorem Reps.get:∀ {ds:List D} {vs:List V} {i:Nat} {d:D},Reps K O H ds vs→ds[i]?=some d→∃ v,vs[i]?=some v∧Rep K O H d v
 | [],_,i,d,_,e=>by simp at e
 | x :: ds,vs,0,d,h,e=>by
  obtain ⟨v,r,rfl,q,_⟩:=Reps.cons_i.mp h
  simp at e; subst e
  exact ⟨v,rfl,q⟩
 | x :: ds,vs,i+1,d,h,e=>by
  obtain ⟨v,r,rfl,_,t⟩:=Reps.cons_i.mp h
  obtain ⟨u,e1,q⟩:=Reps.get (i:=i) (d:=d) t (by simpa using e)
  exact ⟨u,by simpa using e1,q⟩
theorem Reps.append:∀ {ds es:List D} {vs us:List V},Reps K O H ds vs→Reps K O H es us→Reps K O H (ds++es) (vs++us)
 | [],_,_,_,h,k=>by rw [Reps.nil_i] at h; subst h; exact k
 | d :: ds,es,vs,us,h,k=>by
  obtain ⟨v,r,rfl,q,t⟩:=Reps.cons_i.mp h
  exact Reps.cons_i.mpr ⟨v,r++us,rfl,q,Reps.append t k⟩
theorem Reps.take:∀ {ds:List D} {vs:List V} (n:Nat),Reps K O H ds vs→Reps K O H (ds.take n) (vs.take n)
 | ds,vs,0,_=>by rw [List.take_zero,List.take_zero]; exact Reps.nil_i.mpr rfl
 | [],vs,n+1,h=>by rw [Reps.nil_i] at h; subst h; exact Reps.nil_i.mpr rfl
 | d :: ds,vs,n+1,h=>by
  obtain ⟨v,r,rfl,q,t⟩:=Reps.cons_i.mp h
  exact Reps.cons_i.mpr ⟨v,r.take n,rfl,q,Reps.take n t⟩
theorem Reps.drop:∀ {ds:List D} {vs:List V} (n:Nat),Reps K O H ds vs→Reps K O H (ds.drop n) (vs.drop n)
 | ds,vs,0,h=>by rw [List.drop_zero,List.drop_zero]; exact h
 | [],vs,n+1,h=>by rw [Reps.nil_i] at h; subst h; exact Reps.nil_i.mpr rfl
 | d :: ds,vs,n+1,h=>by
  obtain ⟨v,r,rfl,q,t⟩:=Reps.cons_i.mp h
  exact Reps.drop n t
theorem Reps.set {d:D} {v:V} (q:Rep K O H d v):∀ {ds:List D} {vs:List V} (n:Nat),Reps K O H ds vs→Reps K O H (ds.set n d) (vs.set n v)
 | [],vs,n,h=>by rw [Reps.nil_i] at h; subst h; exact Reps.nil_i.mpr rfl
 | x :: ds,vs,0,h=>by
  obtain ⟨u,r,rfl,_,t⟩:=Reps.cons_i.mp h
  exact Reps.cons_i.mpr ⟨v,r,rfl,q,t⟩
 | x :: ds,vs,n+1,h=>by
  obtain ⟨u,r,rfl,q',t⟩:=Reps.cons_i.mp h
  exact Reps.cons_i.mpr ⟨u,r.set n v,rfl,q',Reps.set q n t⟩
theorem Reps.one {d:D} {v:V} (q:Rep K O H d v):Reps K O H [d] [v]:=Reps.cons_i.mpr ⟨v,[],rfl,q,Reps.nil_i.mpr rfl⟩
theorem Reps.rep {ds:List D} {vs:List V} (h:Reps K O H ds vs):∀ k:Nat,Reps K O H (List.replicate k ds).flatten (List.replicate k vs).flatten
 | 0=>by simp only [List.replicate_zero,List.flatten_nil]; exact Reps.nil_i.mpr rfl
 | k+1=>by simp only [List.replicate_succ,List.flatten_cons]; exact Reps.append h (Reps.rep h k)
noncomputable def isS:HO→Bool
 | .lst _=>true
 | .ins _ _ _=>true
 | .dK _=>true
 | .dT _=>true
 | .frz _ (.dK _)=>true
 | _=>false
theorem ZcT {a p:Addr} {o:HO} {vs:List V} (h:H a=some (.tup vs)) (hp:H p=none∨∃ o,H p=some o∧isS o=true):upd H p o a=some (.tup vs):=by
 rw [Zt]
 ·exact h
 ·rintro rfl
  rcases hp with q | ⟨u,q,z⟩
  ·rw [q] at h; cases h
  ·rw [q] at h; cases h; cases z
theorem Zcm {a p:Addr} {o:HO} {vs:List V} (h:SqF K H a vs) (hp:H p=none∨∃ o,H p=some o∧isS o=true):SqF K (upd H p o) a vs:=by
 rcases h with ⟨ob,h⟩ | h
 ·refine .inl ⟨ob,?_⟩
  rw [Zt]
  ·exact h
  ·rintro rfl
   rcases hp with q | ⟨u,q,z⟩
   ·rw [q] at h; cases h
   ·rw [q] at h; cases h; cases z
 ·exact .inr h
theorem Keep.laid {p:Addr} {o:HO} (hp:H p=none):Keep K O H O (upd H p o) :=
 ⟨fun _ _ h=>ZcT h (.inl hp),fun a vs n h=>⟨n,by rw [Zt (Yt h hp)]; exact h⟩,fun _ _ h=>Zcm h (.inl hp),fun _ _ h=>h,fun a C h=>by rw [Zt (Yt h hp)]; exact h⟩
theorem RepS.mono' (k:Keep K O H O' H') {a:Addr} (e:H' a=H a):∀ {s:S},RepS K O H a s→RepS K O' H' a s
 | .lst ds,h=>by
  obtain ⟨vs,q,r⟩:=h
  exact ⟨vs,by rw [e]; exact q,Reps.mono k _ _ r⟩
 | .ins C fs,h=>by
  obtain ⟨dx,vs,q,r⟩:=h
  exact ⟨dx,vs,by rw [e]; exact q,Flds.mono k _ _ r⟩
 | .dct ds,h=>by
  obtain ⟨vs,q,r⟩:=h
  exact ⟨vs,by rw [e]; exact q,Kvs.mono k _ _ r⟩
 | .dtt ds,h=>by
  obtain ⟨vs,q,r⟩:=h
  exact ⟨vs,by rw [e]; exact q,Kvs.mono k _ _ r⟩
 | .fdc ds,h=>by
  obtain ⟨o,vs,q,r⟩:=h
  exact ⟨o,vs,by rw [e]; exact q,Kvs.mono k _ _ r⟩
theorem RepS.some_of {a:Addr}:∀ {s:S},RepS K O H a s→∃ o,H a=some o∧isS o=true
 | .lst ds,⟨vs,q,_⟩=>⟨_,q,rfl⟩
 | .ins C fs,⟨dx,vs,q,_⟩=>⟨_,q,rfl⟩
 | .dct ds,⟨vs,q,_⟩=>⟨_,q,rfl⟩
 | .dtt ds,⟨vs,q,_⟩=>⟨_,q,rfl⟩
 | .fdc ds,⟨_,vs,q,_⟩=>⟨_,q,rfl⟩
theorem WR.some_of (W:WR K O H st) {i:Nat} {a:Addr} (h:O[i]?=some a):∃ o,H a=some o∧isS o=true:=by
 have hi:i<st.length:=by rw [← W.len]; exact (List.getElem?_eq_some_iff.mp h).1
 exact (W.at_ i a st[i] h (List.getElem?_eq_getElem hi)).some_of
theorem WR.ne (W:WR K O H st) {i:Nat} {a p:Addr} (h:O[i]?=some a) (hp:H p=none):a≠p:=by
 rintro rfl
 obtain ⟨_,q,_⟩:=W.some_of h
 rw [hp] at q
 cases q
theorem WR.laid (W:WR K O H st) {p:Addr} {o:HO} (hp:H p=none):WR K O (upd H p o) st :=
 ⟨W.len,W.nd,fun i a s h1 h2=>(W.at_ i a s h1 h2).mono' (Keep.laid hp) (by rw [Zt (W.ne h1 hp)])⟩
theorem Keep.push {p:Addr} {o:HO} (hp:H p=none):Keep K O H (O++[p]) (upd H p o) :=
 ⟨fun _ _ h=>ZcT h (.inl hp),fun a vs n h=>⟨fun hm=>by
   rcases List.mem_append.mp hm with q | q
   ·exact n q
   ·rw [List.mem_singleton] at q; exact Yt h hp q,by rw [Zt (Yt h hp)]; exact h⟩,
  fun _ _ h=>Zcm h (.inl hp),fun i a h=>by rw [List.getElem?_append_left (List.getElem?_eq_some_iff.mp h).1]; exact h,fun a C h=>by rw [Zt (Yt h hp)]; exact h⟩
theorem WR.push' (W:WR K O H st) {p:Addr} {o:HO} {s:S} (hp:H p=none) (hs:RepS K (O++[p]) (upd H p o) p s):WR K (O++[p]) (upd H p o) (st++[s]):=by
 refine ⟨by simp [W.len],?_,fun i a s' h1 h2 => ?_⟩
 ·refine List.nodup_append.mpr ⟨W.nd,by simp,fun a ha b hb => ?_⟩
  rw [List.mem_singleton] at hb
  subst hb
  obtain ⟨i,hi⟩:=List.mem_iff_getElem?.mp ha
  exact W.ne hi hp
 ·by_cases hi:i<O.length
  ·rw [List.getElem?_append_left hi] at h1
   rw [List.getElem?_append_left (by rw [← W.len]; exact hi)] at h2
   exact (W.at_ i a s' h1 h2).mono' (Keep.push hp) (by rw [Zt (W.ne h1 hp)])
  ·rw [List.getElem?_append_right (by omega)] at h1
   rw [List.getElem?_append_right (by rw [← W.len]; omega)] at h2
   rw [← W.len] at h2
   have e0:i - O.length=0:=by
    have:=(List.getElem?_eq_some_iff.mp h1).1
    simp at this
    omega
   rw [e0] at h1 h2
   simp at h1 h2
   subst h1 h2
   exact hs
theorem WR.push (W:WR K O H st) {p:Addr} {ds:List D} {vs:List V} (hp:H p=none) (r:Reps K O H ds vs):WR K (O++[p]) (upd H p (.lst vs)) (st++[.lst ds]) :=
 W.push' hp ⟨vs,YR,Reps.mono (Keep.push hp) _ _ r⟩
theorem ZlK {p:Addr} {st:Sto} (e:O.length=st.length):Rep K (O++[p]) H' (.res st.length) (.ref p):=by
 rw [Rep.res_i]
 exact ⟨p,rfl,by rw [← e,List.getElem?_append_right (Nat.le_refl _)]; simp⟩
theorem Keep.write (W:WR K O H st) {i:Nat} {a:Addr} {o:HO} (h:O[i]?=some a):Keep K O H O (upd H a o):=by
 have q:=W.some_of h
 refine ⟨fun _ _ z=>ZcT z (.inr q),fun b vs n z=>⟨n,?_⟩,fun _ _ z=>Zcm z (.inr q),fun _ _ z=>z,fun b C z => ?_⟩
 ·rw [Zt]
  ·exact z
  ·rintro rfl
   exact n (List.mem_of_getElem? h)
 ·rw [Zt]
  ·exact z
  ·rintro rfl
   obtain ⟨_,q,y⟩:=q
   rw [z] at q
   cases q
   cases y
theorem WR.write (W:WR K O H st) {i:Nat} {a:Addr} {o:HO} {s:S} (h:O[i]?=some a) (hs:RepS K O (upd H a o) a s):WR K O (upd H a o) (st.set i s):=by
 refine ⟨by rw [List.length_set]; exact W.len,W.nd,fun j b s' h1 h2 => ?_⟩
 by_cases hj:i=j
 ·subst hj
  rw [h] at h1
  cases h1
  have hi:i<st.length:=by rw [← W.len]; exact (List.getElem?_eq_some_iff.mp h).1
  rw [List.getElem?_set_self hi] at h2
  cases h2
  exact hs
 ·rw [List.getElem?_set_ne hj] at h2
  refine (W.at_ j b s' h1 h2).mono' (Keep.write W h) ?_
  rw [Zt]
  rintro rfl
  exact hj (ZdB W.nd h h1)
theorem WR.writeL (W:WR K O H st) {i:Nat} {a:Addr} {ds:List D} {vs:List V} (h:O[i]?=some a) (r:Reps K O H ds vs):WR K O (upd H a (.lst vs)) (st.set i (.lst ds)) :=
 W.write h ⟨vs,YR,Reps.mono (Keep.write W h) _ _ r⟩
noncomputable def ZS (st:Sto):D→Option (List D)
 | .lst xs=>some xs
 | .scr xs=>some xs
 | .res i=>match st[i]? with
  | some (.lst xs)=>some xs
  | _=>none
 | _=>none
noncomputable def Wf (st:Sto):D→Option (List D)
 | .lst xs=>some xs
 | .res i=>match st[i]? with
  | some (.lst xs)=>some xs
  | _=>none
 | _=>none
theorem rdO (W:WR K O H st) {d:D} {v:V} {ds:List D} (r:Rep K O H d v) (e:Wf st d=some ds):∃ a vs,v = .ref a∧H a=some (.lst vs)∧Reps K O H ds vs:=by
 cases d with
 | lst xs =>
  rw [Rep.lst_i] at r
  obtain ⟨a,vs,rfl,_,q,t⟩:=r
  simp only [Wf,Option.some.injEq] at e
  subst e
  exact ⟨a,vs,rfl,q,t⟩
 | res i =>
  rw [Rep.res_i] at r
  obtain ⟨a,rfl,q⟩:=r
  have hi:i<st.length:=by rw [← W.len]; exact (List.getElem?_eq_some_iff.mp q).1
  have z:=W.at_ i a st[i] q (List.getElem?_eq_getElem hi)
  simp only [Wf,List.getElem?_eq_getElem hi] at e
  cases hs:st[i] with
  | lst xs =>
   rw [hs] at e z
   simp only [Option.some.injEq] at e
   subst e
   obtain ⟨vs,z1,z2⟩:=z
   exact ⟨a,vs,rfl,z1,z2⟩
  | _=>rw [hs] at e; cases e
 | _=>cases e
theorem rdL (W:WR K O H st) {d:D} {v:V} {ds:List D} (r:Rep K O H d v) (e:ZS st d=some ds):∃ a vs,v = .ref a∧SqL K H a vs∧Reps K O H ds vs:=by
 cases d with
 | scr xs =>
  rw [Rep.scr_i] at r
  obtain ⟨a,vs,rfl,q,t⟩:=r
  simp only [ZS,Option.some.injEq] at e
  subst e
  exact ⟨a,vs,rfl,q.sq,t⟩
 | lst xs =>
  obtain ⟨a,vs,h1,h2,h3⟩:=rdO W r (show Wf st (.lst xs)=some ds from e)
  exact ⟨a,vs,h1,SqL.of h2,h3⟩
 | res i =>
  obtain ⟨a,vs,h1,h2,h3⟩:=rdO W r (show Wf st (.res i)=some ds from e)
  exact ⟨a,vs,h1,SqL.of h2,h3⟩
 | _=>cases e
section
variable {X:Cx} {pins:List (Addr×Obj)} {σ:L2.St} {s:Shared}
theorem Wh (I:Inv X pins σ H s) {a:Addr} {o:Obj} (h:X.K.lookup a=some o):H a=none:=(I.bs a o (I.ok.mod.kin a o h)).2
end
end
end DL
end
section
namespace DL
open PySem PySem.Spec PyProof.Rows L2
noncomputable def Ans (A:Around) (s:Shared) (u w:Value) (k:Bool):Prop:=SeqAt.EqAt A s u w k∧SeqAt.RcAt A s u w k∧SeqAt.RcNeAt A s u w (!k)
section
variable {A:Around} {s:Shared}
theorem Zmc:Ans A s .none .none true:=⟨SeqAt.EqAt.same _,SeqAt.RcAt.none_none,SeqAt.RcNeAt.none_none⟩
theorem ZiF {b2:Bool}:Ans A s .none (.bool b2) false:=⟨SeqAt.EqAt.none_bool _,SeqAt.RcAt.none_bool _,SeqAt.RcNeAt.none_bool _⟩
theorem ZlU {i2:Int} {t2:Tok}:Ans A s .none (.int i2 t2) false:=⟨SeqAt.EqAt.none_int _ _,SeqAt.RcAt.none_int _ _,SeqAt.RcNeAt.none_int _ _⟩
theorem ZiY {x2:Str} {t2:Tok}:Ans A s .none (.str x2 t2) false:=⟨SeqAt.EqAt.none_str _ _,SeqAt.RcAt.none_str _ _,SeqAt.RcNeAt.none_str _ _⟩
theorem Zi8 {a2:Addr} {its2:Array Value} (z2:s.heap.IsTuple a2 its2) (hu:A.units<cLine):Ans A s .none (.ref a2) false:=⟨SeqAt.EqAt.none_tuple z2 hu,SeqAt.RcAt.none_tuple z2 hu,SeqAt.RcNeAt.none_tuple z2 hu⟩
theorem ZlT {a2:Addr} {its2:Array Value} (z2:s.heap.IsList a2 its2) (hu:A.units<cLine):Ans A s .none (.ref a2) false:=⟨SeqAt.EqAt.none_list z2 hu,SeqAt.RcAt.none_list z2 hu,SeqAt.RcNeAt.none_list z2 hu⟩
theorem Zm0 {b1:Bool}:Ans A s (.bool b1) .none false:=⟨SeqAt.EqAt.bool_none _,SeqAt.RcAt.bool_none _,SeqAt.RcNeAt.bool_none _⟩
theorem Zj8 {b1:Bool} {b2:Bool}:Ans A s (.bool b1) (.bool b2) (b1 == b2):=⟨SeqAt.EqAt.bool_bool _ _,SeqAt.RcAt.bool_bool _ _,SeqAt.RcNeAt.bool_bool _ _⟩
theorem Zg7 {b1:Bool} {i2:Int} {t2:Tok}:Ans A s (.bool b1) (.int i2 t2) ((if b1 then 1 else 0) == i2):=⟨SeqAt.EqAt.bool_int _ _ _,SeqAt.RcAt.bool_int _ _ _,SeqAt.RcNeAt.bool_int _ _ _⟩
theorem ZgY {b1:Bool} {x2:Str} {t2:Tok}:Ans A s (.bool b1) (.str x2 t2) false:=⟨SeqAt.EqAt.bool_str _ _ _,SeqAt.RcAt.bool_str _ _ _,SeqAt.RcNeAt.bool_str _ _ _⟩
theorem ZiD {b1:Bool} {a2:Addr} {its2:Array Value} (z2:s.heap.IsTuple a2 its2) (hu:A.units<cLine):Ans A s (.bool b1) (.ref a2) false:=⟨SeqAt.EqAt.bool_tuple _ z2 hu,SeqAt.RcAt.bool_tuple _ z2 hu,SeqAt.RcNeAt.bool_tuple _ z2 hu⟩
theorem ZhR {b1:Bool} {a2:Addr} {its2:Array Value} (z2:s.heap.IsList a2 its2) (hu:A.units<cLine):Ans A s (.bool b1) (.ref a2) false:=⟨SeqAt.EqAt.bool_list _ z2 hu,SeqAt.RcAt.bool_list _ z2 hu,SeqAt.RcNeAt.bool_list _ z2 hu⟩
theorem Znv {i1:Int} {t1:Tok}:Ans A s (.int i1 t1) .none false:=⟨SeqAt.EqAt.int_none _ _,SeqAt.RcAt.int_none _ _,SeqAt.RcNeAt.int_none _ _⟩
theorem ZjE {i1:Int} {t1:Tok} {b2:Bool}:Ans A s (.int i1 t1) (.bool b2) (i1 == (if b2 then 1 else 0)):=⟨SeqAt.EqAt.int_bool _ _ _,SeqAt.RcAt.int_bool _ _ _,SeqAt.RcNeAt.int_bool _ _ _⟩
theorem ZjR {i1:Int} {t1:Tok} {i2:Int} {t2:Tok}:Ans A s (.int i1 t1) (.int i2 t2) (i1 == i2):=⟨SeqAt.EqAt.int_int _ _ _ _,SeqAt.RcAt.int_int _ _ _ _,SeqAt.RcNeAt.int_int _ _ _ _⟩
theorem ZjK {i1:Int} {t1:Tok} {x2:Str} {t2:Tok}:Ans A s (.int i1 t1) (.str x2 t2) false:=⟨SeqAt.EqAt.int_str _ _ _ _,SeqAt.RcAt.int_str _ _ _ _,SeqAt.RcNeAt.int_str _ _ _ _⟩
theorem ZgU {i1:Int} {t1:Tok} {a2:Addr} {its2:Array Value} (z2:s.heap.IsTuple a2 its2) (hu:A.units<cLine):Ans A s (.int i1 t1) (.ref a2) false:=⟨SeqAt.EqAt.int_tuple _ _ z2 hu,SeqAt.RcAt.int_tuple _ _ z2 hu,SeqAt.RcNeAt.int_tuple _ _ z2 hu⟩
theorem Ziu {i1:Int} {t1:Tok} {a2:Addr} {its2:Array Value} (z2:s.heap.IsList a2 its2) (hu:A.units<cLine):Ans A s (.int i1 t1) (.ref a2) false:=⟨SeqAt.EqAt.int_list _ _ z2 hu,SeqAt.RcAt.int_list _ _ z2 hu,SeqAt.RcNeAt.int_list _ _ z2 hu⟩
theorem ZmH {x1:Str} {t1:Tok}:Ans A s (.str x1 t1) .none false:=⟨SeqAt.EqAt.str_none _ _,SeqAt.RcAt.str_none _ _,SeqAt.RcNeAt.str_none _ _⟩
theorem Zl9 {x1:Str} {t1:Tok} {b2:Bool}:Ans A s (.str x1 t1) (.bool b2) false:=⟨SeqAt.EqAt.str_bool _ _ _,SeqAt.RcAt.str_bool _ _ _,SeqAt.RcNeAt.str_bool _ _ _⟩
theorem Zhs {x1:Str} {t1:Tok} {i2:Int} {t2:Tok}:Ans A s (.str x1 t1) (.int i2 t2) false:=⟨SeqAt.EqAt.str_int _ _ _ _,SeqAt.RcAt.str_int _ _ _ _,SeqAt.RcNeAt.str_int _ _ _ _⟩
theorem ZiZ {x1:Str} {t1:Tok} {x2:Str} {t2:Tok}:Ans A s (.str x1 t1) (.str x2 t2) (x1 == x2):=⟨SeqAt.EqAt.str_str _ _ _ _,SeqAt.RcAt.str_str _ _ _ _,SeqAt.RcNeAt.str_str _ _ _ _⟩
theorem Zm5 {x1:Str} {t1:Tok} {a2:Addr} {its2:Array Value} (z2:s.heap.IsTuple a2 its2) (hu:A.units<cLine):Ans A s (.str x1 t1) (.ref a2) false:=⟨SeqAt.EqAt.str_tuple _ _ z2 hu,SeqAt.RcAt.str_tuple _ _ z2 hu,SeqAt.RcNeAt.str_tuple _ _ z2 hu⟩
theorem Zin {x1:Str} {t1:Tok} {a2:Addr} {its2:Array Value} (z2:s.heap.IsList a2 its2) (hu:A.units<cLine):Ans A s (.str x1 t1) (.ref a2) false:=⟨SeqAt.EqAt.str_list _ _ z2 hu,SeqAt.RcAt.str_list _ _ z2 hu,SeqAt.RcNeAt.str_list _ _ z2 hu⟩
theorem Zkd {a1:Addr} {its1:Array Value} (z1:s.heap.IsTuple a1 its1) (hu:A.units<cLine):Ans A s (.ref a1) .none false:=⟨SeqAt.EqAt.tuple_none z1 hu,SeqAt.RcAt.tuple_none z1 hu,SeqAt.RcNeAt.tuple_none z1 hu⟩
theorem ZmB {a1:Addr} {its1:Array Value} (z1:s.heap.IsTuple a1 its1) {b2:Bool} (hu:A.units<cLine):Ans A s (.ref a1) (.bool b2) false:=⟨SeqAt.EqAt.tuple_bool _ z1 hu,SeqAt.RcAt.tuple_bool _ z1 hu,SeqAt.RcNeAt.tuple_bool _ z1 hu⟩
theorem Zmh {a1:Addr} {its1:Array Value} (z1:s.heap.IsTuple a1 its1) {i2:Int} {t2:Tok} (hu:A.units<cLine):Ans A s (.ref a1) (.int i2 t2) false:=⟨SeqAt.EqAt.tuple_int _ _ z1 hu,SeqAt.RcAt.tuple_int _ _ z1 hu,SeqAt.RcNeAt.tuple_int _ _ z1 hu⟩
theorem Zg3 {a1:Addr} {its1:Array Value} (z1:s.heap.IsTuple a1 its1) {x2:Str} {t2:Tok} (hu:A.units<cLine):Ans A s (.ref a1) (.str x2 t2) false:=⟨SeqAt.EqAt.tuple_str _ _ z1 hu,SeqAt.RcAt.tuple_str _ _ z1 hu,SeqAt.RcNeAt.tuple_str _ _ z1 hu⟩
theorem ZjB {a1:Addr} {its1:Array Value} (z1:s.heap.IsTuple a1 its1) {a2:Addr} {its2:Array Value} (z2:s.heap.IsList a2 its2) (hu:A.units<cLine):Ans A s (.ref a1) (.ref a2) false:=⟨SeqAt.EqAt.tuple_list z1 z2 hu,SeqAt.RcAt.tuple_list z1 z2 hu,SeqAt.RcNeAt.tuple_list z1 z2 hu⟩
theorem ZkH {a1:Addr} {its1:Array Value} (z1:s.heap.IsList a1 its1) (hu:A.units<cLine):Ans A s (.ref a1) .none false:=⟨SeqAt.EqAt.list_none z1 hu,SeqAt.RcAt.list_none z1 hu,SeqAt.RcNeAt.list_none z1 hu⟩
theorem Zmz {a1:Addr} {its1:Array Value} (z1:s.heap.IsList a1 its1) {b2:Bool} (hu:A.units<cLine):Ans A s (.ref a1) (.bool b2) false:=⟨SeqAt.EqAt.list_bool _ z1 hu,SeqAt.RcAt.list_bool _ z1 hu,SeqAt.RcNeAt.list_bool _ z1 hu⟩
theorem Ziv {a1:Addr} {its1:Array Value} (z1:s.heap.IsList a1 its1) {i2:Int} {t2:Tok} (hu:A.units<cLine):Ans A s (.ref a1) (.int i2 t2) false:=⟨SeqAt.EqAt.list_int _ _ z1 hu,SeqAt.RcAt.list_int _ _ z1 hu,SeqAt.RcNeAt.list_int _ _ z1 hu⟩
theorem ZmE {a1:Addr} {its1:Array Value} (z1:s.heap.IsList a1 its1) {x2:Str} {t2:Tok} (hu:A.units<cLine):Ans A s (.ref a1) (.str x2 t2) false:=⟨SeqAt.EqAt.list_str _ _ z1 hu,SeqAt.RcAt.list_str _ _ z1 hu,SeqAt.RcNeAt.list_str _ _ z1 hu⟩
theorem Zlt {a1:Addr} {its1:Array Value} (z1:s.heap.IsList a1 its1) {a2:Addr} {its2:Array Value} (z2:s.heap.IsTuple a2 its2) (hu:A.units<cLine):Ans A s (.ref a1) (.ref a2) false:=⟨SeqAt.EqAt.list_tuple z1 z2 hu,SeqAt.RcAt.list_tuple z1 z2 hu,SeqAt.RcNeAt.list_tuple z1 z2 hu⟩
end
inductive Kd where
 | non | bl (b:Bool) | int (i:Int) | str (x:Str) | tup (xs:List D) | lst (xs:List D) | no
noncomputable def kd (st:Sto):D→Kd
 | .non => .non
 | .bl b => .bl b
 | .int i => .int i
 | .str x => .str x
 | .tup xs => .tup xs
 | .lst xs => .lst xs
 | .scr xs => .lst xs
 | .res i=>match st[i]? with
  | some (.lst xs) => .lst xs
  | _ => .no
 | .exv _ => .no
noncomputable def ZZ (f:D→D→Option Bool):List D→List D→Option Bool
 | [],[]=>some true
 | [],_ :: _=>some false
 | _ :: _,[]=>some false
 | x :: xs,y :: ys=>match f x y,ZZ f xs ys with
  | some a,some b=>some (a && b)
  | _,_=>none
noncomputable def eqN (st:Sto):Nat→D→D→Option Bool
 | 0,_,_=>none
 | n+1,a,b=>match kd st a,kd st b with
  | .tup xs,.tup ys=>ZZ (eqN st n) xs ys
  | .lst xs,.lst ys=>ZZ (eqN st n) xs ys
  | .non,.non=>some true
  | .bl x,.bl y=>some (x == y)
  | .int x,.int y=>some (x == y)
  | .str x,.str y=>some (x == y)
  | .bl x,.int y=>some ((if x then 1 else 0) == y)
  | .int x,.bl y=>some (x == (if y then 1 else 0))
  | .no,_=>none
  | _,.no=>none
  | _,_=>some false
section
variable {X:Cx} {pins:List (Addr×Obj)} {σ:L2.St} {s:Shared} {O:List Addr} {H:Hp} {st:Sto}
theorem ZfU (I:Inv X pins σ H s) {a:Addr} {vs xs:List V} (h:SqT X.K H a vs) (q:H a=some (.lst xs)):False:=by
 rcases h with (h | ⟨ob,h⟩) | ⟨o,_,_,h,_⟩
 ·rw [h] at q; cases q
 ·rw [h] at q; cases q
 ·rw [Wh I h] at q; cases q
theorem Zes (I:Inv X pins σ H s) {a:Addr} {vs xs:List V} (h:SqF X.K H a vs) (q:H a=some (.lst xs)):False:=by
 rcases h with ⟨ob,h⟩ | ⟨o,_,_,h,_⟩
 ·rw [h] at q; cases q
 ·rw [Wh I h] at q; cases q
theorem ZeG (I:Inv X pins σ H s) {a:Addr} {vs xs:List V} (h:SqT X.K H a vs) (q:SqF X.K H a xs):False:=by
 rcases h with (h | ⟨ob,h⟩) | ⟨o,_,_,h,c,_⟩ <;> rcases q with ⟨ob',q⟩ | ⟨o',_,_,q,c',_⟩
 ·rw [h] at q; cases q
 ·rw [Wh I q] at h; cases h
 ·rw [h] at q; cases q
 ·rw [Wh I q] at h; cases h
 ·rw [Wh I h] at q; cases q
 ·rw [h] at q; cases q; rw [c] at c'; exact absurd (Value.type.inj c') (by decide)
theorem Zhe (I:Inv X pins σ H s) {a:Addr} {vs:List V} {o:HO} (h:SqT X.K H a vs) (q:H a=some o) (z:isS o=true):False:=by
 rcases h with (h | ⟨ob,h⟩) | ⟨_,_,_,h,_⟩
 ·rw [h] at q; cases q; cases z
 ·rw [h] at q; cases q; cases z
 ·rw [Wh I h] at q; cases q
theorem Zke (I:Inv X pins σ H s) {a:Addr} {vs:List V} {o:HO} (h:SqF X.K H a vs) (q:H a=some o) (z:isS o=true):False:=by
 rcases h with ⟨ob,h⟩ | ⟨_,_,_,h,_⟩
 ·rw [h] at q; cases q; cases z
 ·rw [Wh I h] at q; cases q
theorem ZeM (I:Inv X pins σ H s) {a:Addr} {vs:List V} {φ:Heap→Prop} (h:SqT X.K H a vs) (q:H a=some (.ext φ)):False:=by
 rcases h with (h | ⟨ob,h⟩) | ⟨_,_,_,h,_⟩
 ·rw [h] at q; cases q
 ·rw [h] at q; cases q
 ·rw [Wh I h] at q; cases q
theorem Zeu (I:Inv X pins σ H s) {a:Addr} {vs:List V} {φ:Heap→Prop} (h:SqF X.K H a vs) (q:H a=some (.ext φ)):False:=by
 rcases h with ⟨ob,h⟩ | ⟨_,_,_,h,_⟩
 ·rw [h] at q; cases q
 ·rw [Wh I h] at q; cases q
theorem ZeV (I:Inv X pins σ H s) (W:WR X.K O H st) {i:Nat} {a:Addr} {vs:List V} (h:O[i]?=some a) (q:SqT X.K H a vs):False:=by
 obtain ⟨o,z,y⟩:=W.some_of h
 exact Zhe I q z y
theorem Zdy (I:Inv X pins σ H s) (W:WR X.K O H st) {i:Nat} {a:Addr} {vs:List V} (h:O[i]?=some a) (q:SqF X.K H a vs):False:=by
 obtain ⟨o,z,y⟩:=W.some_of h
 exact Zke I q z y
theorem ZdG (W:WR X.K O H st) {i:Nat} {a:Addr} {φ:Heap→Prop} (h:O[i]?=some a) (q:H a=some (.ext φ)):False:=by
 obtain ⟨o,z,y⟩:=W.some_of h
 rw [q] at z
 cases z
 cases y
mutual
theorem Rep.inj (I:Inv X pins σ H s) (W:WR X.K O H st):∀ (d d':D) (v:V),Rep X.K O H d v→Rep X.K O H d' v→d=d'
 | .non,d',v,h,h'=>by
  rw [Rep.non_i] at h; subst h
  cases d' <;> unfold Rep at h' <;> first | rfl | (cases h'; done) | (obtain ⟨_,_,e,_⟩:=h'; cases e) | (obtain ⟨_,e,_⟩:=h'; cases e)
 | .bl b,d',v,h,h'=>by
  rw [Rep.bl_i] at h; subst h
  cases d' <;> unfold Rep at h' <;> first | (cases h'; rfl) | (cases h'; done) | (obtain ⟨_,_,e,_⟩:=h'; cases e) | (obtain ⟨_,e,_⟩:=h'; cases e)
 | .int b,d',v,h,h'=>by
  rw [Rep.int_i] at h; subst h
  cases d' <;> unfold Rep at h' <;> first | (cases h'; rfl) | (cases h'; done) | (obtain ⟨_,_,e,_⟩:=h'; cases e) | (obtain ⟨_,e,_⟩:=h'; cases e)
 | .str b,d',v,h,h'=>by
  rw [Rep.str_i] at h; subst h
  cases d' <;> unfold Rep at h' <;> first | (cases h'; rfl) | (cases h'; done) | (obtain ⟨_,_,e,_⟩:=h'; cases e) | (obtain ⟨_,e,_⟩:=h'; cases e)
 | .tup ds,d',v,h,h'=>by
  rw [Rep.tup_i] at h
  obtain ⟨a,vs,rfl,q,r⟩:=h
  cases d' with
  | tup ds' =>
   rw [Rep.tup_i] at h'
   obtain ⟨a',vs',e,q',r'⟩:=h'
   cases e
   have ev:vs=vs':=I.tuple_inj (SqT.of q) (SqT.of q')
   subst ev
   rw [Reps.inj I W ds ds' vs r r']
  | lst ds'=>rw [Rep.lst_i] at h'; obtain ⟨a',vs',e,_,q',_⟩:=h'; cases e; exact (ZfU I (SqT.of q) q').elim
  | scr ds'=>rw [Rep.scr_i] at h'; obtain ⟨a',vs',e,q',_⟩:=h'; cases e; exact (ZeG I (SqT.of q) q').elim
  | res i=>rw [Rep.res_i] at h'; obtain ⟨a',e,q'⟩:=h'; cases e; exact (ZeV I W q' (SqT.of q)).elim
  | exv C=>rw [Rep.exv_i] at h'; obtain ⟨a',e,q'⟩:=h'; cases e; exact (ZeM I (SqT.of q) q').elim
  | _=>unfold Rep at h'; cases h'
 | .lst ds,d',v,h,h'=>by
  rw [Rep.lst_i] at h
  obtain ⟨a,vs,rfl,n,q,r⟩:=h
  cases d' with
  | tup ds'=>rw [Rep.tup_i] at h'; obtain ⟨a',vs',e,q',_⟩:=h'; cases e; exact (ZfU I (SqT.of q') q).elim
  | lst ds' =>
   rw [Rep.lst_i] at h'
   obtain ⟨a',vs',e,_,q',r'⟩:=h'
   cases e
   rw [q] at q'
   cases q'
   rw [Reps.inj I W ds ds' vs r r']
  | scr ds'=>rw [Rep.scr_i] at h'; obtain ⟨a',vs',e,q',_⟩:=h'; cases e; exact (Zes I q' q).elim
  | res i=>rw [Rep.res_i] at h'; obtain ⟨a',e,q'⟩:=h'; cases e; exact (n (List.mem_of_getElem? q')).elim
  | exv C=>rw [Rep.exv_i] at h'; obtain ⟨a',e,q'⟩:=h'; cases e; rw [q] at q'; cases q'
  | _=>unfold Rep at h'; cases h'
 | .scr ds,d',v,h,h'=>by
  rw [Rep.scr_i] at h
  obtain ⟨a,vs,rfl,q,r⟩:=h
  cases d' with
  | tup ds'=>rw [Rep.tup_i] at h'; obtain ⟨a',vs',e,q',_⟩:=h'; cases e; exact (ZeG I (SqT.of q') q).elim
  | lst ds'=>rw [Rep.lst_i] at h'; obtain ⟨a',vs',e,_,q',_⟩:=h'; cases e; exact (Zes I q q').elim
  | scr ds' =>
   rw [Rep.scr_i] at h'
   obtain ⟨a',vs',e,q',r'⟩:=h'
   cases e
   have ev:vs=vs':=I.list_inj q.sq q'.sq
   subst ev
   rw [Reps.inj I W ds ds' vs r r']
  | res i=>rw [Rep.res_i] at h'; obtain ⟨a',e,q'⟩:=h'; cases e; exact (Zdy I W q' q).elim
  | exv C=>rw [Rep.exv_i] at h'; obtain ⟨a',e,q'⟩:=h'; cases e; exact (Zeu I q q').elim
  | _=>unfold Rep at h'; cases h'
 | .res i,d',v,h,h'=>by
  rw [Rep.res_i] at h
  obtain ⟨a,rfl,q⟩:=h
  cases d' with
  | tup ds'=>rw [Rep.tup_i] at h'; obtain ⟨a',vs',e,q',_⟩:=h'; cases e; exact (ZeV I W q (SqT.of q')).elim
  | lst ds'=>rw [Rep.lst_i] at h'; obtain ⟨a',vs',e,n,_,_⟩:=h'; cases e; exact (n (List.mem_of_getElem? q)).elim
  | scr ds'=>rw [Rep.scr_i] at h'; obtain ⟨a',vs',e,q',_⟩:=h'; cases e; exact (Zdy I W q q').elim
  | res j =>
   rw [Rep.res_i] at h'
   obtain ⟨a',e,q'⟩:=h'
   cases e
   rw [ZdB W.nd q q']
  | exv C=>rw [Rep.exv_i] at h'; obtain ⟨a',e,q'⟩:=h'; cases e; exact (ZdG W q q').elim
  | _=>unfold Rep at h'; cases h'
 | .exv C,d',v,h,h'=>by
  rw [Rep.exv_i] at h
  obtain ⟨a,rfl,q⟩:=h
  cases d' with
  | tup ds'=>rw [Rep.tup_i] at h'; obtain ⟨a',vs',e,q',_⟩:=h'; cases e; exact (ZeM I (SqT.of q') q).elim
  | lst ds'=>rw [Rep.lst_i] at h'; obtain ⟨a',vs',e,n,q',_⟩:=h'; cases e; rw [q] at q'; cases q'
  | scr ds'=>rw [Rep.scr_i] at h'; obtain ⟨a',vs',e,q',_⟩:=h'; cases e; exact (Zeu I q' q).elim
  | res j=>rw [Rep.res_i] at h'; obtain ⟨a',e,q'⟩:=h'; cases e; exact (ZdG W q' q).elim
  | exv C' =>
   rw [Rep.exv_i] at h'
   obtain ⟨a',e,q'⟩:=h'
   cases e
   rw [(I.hok _ _ q).1.inj (I.hok _ _ q').1]
  | _=>unfold Rep at h'; cases h'
theorem Reps.inj (I:Inv X pins σ H s) (W:WR X.K O H st):∀ (ds ds':List D) (vs:List V),Reps X.K O H ds vs→Reps X.K O H ds' vs→ds=ds'
 | [],ds',vs,h,h'=>by
  rw [Reps.nil_i] at h; subst h
  cases ds' with
  | nil=>rfl
  | cons d r=>obtain ⟨_,_,e,_⟩:=Reps.cons_i.mp h'; cases e
 | d :: ds,ds',vs,h,h'=>by
  obtain ⟨v,r,rfl,q,t⟩:=Reps.cons_i.mp h
  cases ds' with
  | nil=>rw [Reps.nil_i] at h'; cases h'
  | cons d' r' =>
   obtain ⟨v',r2,e,q',t'⟩:=Reps.cons_i.mp h'
   cases e
   rw [Rep.inj I W d d' v q q',Reps.inj I W ds r' r t t']
end
theorem QZ {f:D→D→Option Bool} (hf:∀ d k,f d d=some k→k=true):∀ (xs:List D) (k:Bool),ZZ f xs xs=some k→k=true
 | [],k,h=>by simp only [ZZ,Option.some.injEq] at h; exact h.symm
 | x :: xs,k,h=>by
  unfold ZZ at h
  cases e1:f x x with
  | none=>rw [e1] at h; cases h
  | some a =>
   cases e2:ZZ f xs xs with
   | none=>rw [e1,e2] at h; cases h
   | some b =>
    rw [e1,e2] at h
    simp only [Option.some.injEq] at h
    rw [← h,hf x a e1,QZ hf xs b e2]
    rfl
theorem Zb6:∀ (n:Nat) (d:D) (k:Bool),eqN st n d d=some k→k=true
 | 0,d,k,h=>by cases h
 | n+1,d,k,h=>by
  unfold eqN at h
  cases e:kd st d <;> rw [e] at h <;> simp only [beq_self_eq_true,Option.some.injEq] at h
  case tup xs=>exact QZ (Zb6 n) xs k h
  case lst xs=>exact QZ (Zb6 n) xs k h
  case no=>cases h
  all_goals exact h.symm
theorem Ze5 {f:D→D→Option Bool}:∀ (xs ys:List D) (k:Bool),ZZ f xs ys=some k →
  (∀ (j:Nat) (x y:D),xs[j]?=some x→ys[j]?=some y→∃ kj,f x y=some kj) ∧
  k=((List.range (min xs.length ys.length)).all (fun j=>((xs[j]?.bind fun x=>ys[j]?.bind fun y=>f x y).getD false)) && xs.length == ys.length)
 | [],[],k,h=>by
  simp only [ZZ,Option.some.injEq] at h
  subst h
  exact ⟨fun j x y e=>by simp at e,rfl⟩
 | [],y :: ys,k,h=>by
  simp only [ZZ,Option.some.injEq] at h
  subst h
  exact ⟨fun j x y e=>by simp at e,by simp⟩
 | x :: xs,[],k,h=>by
  simp only [ZZ,Option.some.injEq] at h
  subst h
  exact ⟨fun j x y _ e=>by simp at e,by simp⟩
 | x :: xs,y :: ys,k,h=>by
  unfold ZZ at h
  cases e1:f x y with
  | none=>rw [e1] at h; cases h
  | some a =>
   cases e2:ZZ f xs ys with
   | none=>rw [e1,e2] at h; cases h
   | some b =>
    rw [e1,e2] at h
    simp only [Option.some.injEq] at h
    obtain ⟨h1,h2⟩:=Ze5 xs ys b e2
    refine ⟨fun j u w eu ew => ?_,?_⟩
    ·cases j with
     | zero=>simp at eu ew; subst eu ew; exact ⟨a,e1⟩
     | succ j=>exact h1 j u w (by simpa using eu) (by simpa using ew)
    ·rw [← h,h2]
     have em:min (x :: xs).length (y :: ys).length=min xs.length ys.length+1:=by simp only [List.length_cons]; omega
     rw [em,List.range_succ_eq_map]
     simp only [List.all_cons,List.all_map,List.getElem?_cons_zero,Option.bind_some,e1,Option.getD_some,List.length_cons,Function.comp_def,List.getElem?_cons_succ,Nat.succ_eq_add_one,Bool.and_assoc]
     congr 2
     by_cases hl:xs.length=ys.length
     ·simp [hl]
     ·have:¬ (xs.length+1=ys.length+1):=by omega
      simp [hl]
noncomputable def KdV (K:PySem.W.Frag) (O:List Addr) (H:Hp) (s:Shared):Kd→Value→Prop
 | .non,u=>u = .none
 | .bl b,u=>u = .bool b
 | .int i,u => ∃ t,u = .int i t
 | .str x,u => ∃ t,u = .str x t
 | .tup xs,u => ∃ a vs its,u = .ref a∧Reps K O H xs vs∧Vals vs its∧s.heap.IsTuple a its.toArray
 | .lst xs,u => ∃ a vs its,u = .ref a∧Reps K O H xs vs∧Vals vs its∧s.heap.IsList a its.toArray
 | .no,_=>True
theorem Zb0 (I:Inv X pins σ H s) (W:WR X.K O H st) {d:D} {v:V} {u:Value} {xs:List D} (r:Rep X.K O H d v) (q:RelV v u) (e:ZS st d=some xs):KdV X.K O H s (.lst xs) u:=by
 obtain ⟨a,vs,rfl,z,t⟩:=rdL W r e
 obtain ⟨its,hv,hp,_⟩:=I.list z
 have q':u=Value.ref a:=q
 subst q'
 exact ⟨a,vs,its,rfl,t,hv,hp.isList⟩
theorem kdV (I:Inv X pins σ H s) (W:WR X.K O H st):∀ {d:D} {v:V} {u:Value},Rep X.K O H d v→RelV v u→KdV X.K O H s (kd st d) u
 | .non,v,u,r,q=>by rw [Rep.non_i] at r; subst r; exact q
 | .bl b,v,u,r,q=>by rw [Rep.bl_i] at r; subst r; exact q
 | .int b,v,u,r,q=>by rw [Rep.int_i] at r; subst r; exact q
 | .str b,v,u,r,q=>by rw [Rep.str_i] at r; subst r; exact q
 | .tup ds,v,u,r,q=>by
  rw [Rep.tup_i] at r
  obtain ⟨a,vs,rfl,z,t⟩:=r
  obtain ⟨its,hv,hp,_⟩:=I.tuple (SqT.of z)
  have q':u=Value.ref a:=q
  subst q'
  exact ⟨a,vs,its,rfl,t,hv,hp⟩
 | .lst ds,v,u,r,q=>Zb0 I W r q rfl
 | .scr ds,v,u,r,q=>Zb0 I W r q rfl
 | .res i,v,u,r,q=>by
  have e:ZS st (.res i)=match st[i]? with
   | some (.lst xs)=>some xs
   | _=>none:=rfl
  have e':kd st (.res i)=match st[i]? with
   | some (.lst xs) => .lst xs
   | _ => .no:=rfl
  rw [e']
  cases hs:st[i]? with
  | none=>exact trivial
  | some so =>
   cases so with
   | ins C fs=>exact trivial
   | dct kvs=>exact trivial
   | dtt kvs=>exact trivial
   | fdc kvs=>exact trivial
   | lst xs =>
    rw [hs] at e
    exact Zb0 I W r q e
 | .exv C,v,u,r,q=>trivial
theorem in1_units (A:Around):A.in1.units=A.units+1:=rfl
theorem ZaR (I:Inv X pins σ H s) (W:WR X.K O H st):∀ (n:Nat) (a b:D) (k:Bool),eqN st n a b=some k→∀ (A:Around) (x y:V) (u w:Value),
  Rep X.K O H a x→Rep X.K O H b y→RelV x u→RelV y w→A.units+n<cLine→Ans A s u w k
 | 0,a,b,k,h=>by cases h
 | n+1,a,b,k,h=>by
  intro A x y u w ra rb qa qb hn
  have hu:A.units<cLine:=by omega
  have same:u=w→k=true:=by
   intro e
   subst e
   have e2:x=y:=qa.inj qb
   subst e2
   have e3:=Rep.inj I W a b x ra rb
   subst e3
   exact Zb6 (n+1) a k h
  have ka:=kdV I W ra qa
  have kb:=kdV I W rb qb
  have items:∀ {xs ys:List D} {vs ws:List V} {its its2:List Value},ZZ (eqN st n) xs ys=some k→Reps X.K O H xs vs→Reps X.K O H ys ws→Vals vs its→Vals ws its2 →
    (∀ j (h1:j<its.toArray.size) (h2:j<its2.toArray.size),SeqAt.EqAt A.in1 s its.toArray[j] its2.toArray[j] ((xs[j]?.bind fun x=>ys[j]?.bind fun y=>eqN st n x y).getD false)) ∧
    k=((List.range (min its.toArray.size its2.toArray.size)).all (fun j=>((xs[j]?.bind fun x=>ys[j]?.bind fun y=>eqN st n x y).getD false)) && its.toArray.size == its2.toArray.size):=by
   intro xs ys vs ws its its2 he r1 r2 v1 v2
   obtain ⟨h1,h2⟩:=Ze5 xs ys k he
   have l1:its.toArray.size=xs.length:=by rw [List.size_toArray,← v1.length,r1.length]
   have l2:its2.toArray.size=ys.length:=by rw [List.size_toArray,← v2.length,r2.length]
   refine ⟨fun j j1 j2 => ?_,by rw [l1,l2]; exact h2⟩
   have j1':j<xs.length:=by rw [← l1]; exact j1
   have j2':j<ys.length:=by rw [← l2]; exact j2
   have ex:xs[j]?=some xs[j]:=List.getElem?_eq_getElem j1'
   have ey:ys[j]?=some ys[j]:=List.getElem?_eq_getElem j2'
   obtain ⟨kj,ek⟩:=h1 j xs[j] ys[j] ex ey
   obtain ⟨vx,e3,rx⟩:=r1.get ex
   obtain ⟨vy,e4,ry⟩:=r2.get ey
   obtain ⟨ux,e5,qx⟩:=v1.get e3
   obtain ⟨uy,e6,qy⟩:=v2.get e4
   have e7:its.toArray[j]=ux:=by
    have:=(List.getElem?_eq_some_iff.mp e5).2
    simpa using this
   have e8:its2.toArray[j]=uy:=by
    have:=(List.getElem?_eq_some_iff.mp e6).2
    simpa using this
   rw [ex,ey,e7,e8]
   simp only [Option.bind_some,ek,Option.getD_some]
   exact (ZaR I W n xs[j] ys[j] kj ek A.in1 vx vy ux uy rx ry qx qy (by rw [in1_units]; omega)).1
  unfold eqN at h
  generalize kd st a=da at h ka
  generalize kd st b=db at h kb
  cases da with
  | no=>cases db <;> cases h
  | non =>
   cases db with
   | no=>cases h
   | non =>
    have e1:u=_:=ka
    subst e1
    have e2:w=_:=kb
    subst e2
    cases h
    exact Zmc
   | bl b2 =>
    have e1:u=_:=ka
    subst e1
    have e2:w=_:=kb
    subst e2
    cases h
    exact ZiF
   | int i2 =>
    have e1:u=_:=ka
    subst e1
    obtain ⟨t2,rfl⟩:=kb
    cases h
    exact ZlU
   | str x2 =>
    have e1:u=_:=ka
    subst e1
    obtain ⟨t2,rfl⟩:=kb
    cases h
    exact ZiY
   | tup ys =>
    have e1:u=_:=ka
    subst e1
    obtain ⟨a2,vs2,its2,rfl,r2,q2,z2⟩:=kb
    cases h
    exact Zi8 z2 hu
   | lst ys =>
    have e1:u=_:=ka
    subst e1
    obtain ⟨a2,vs2,its2,rfl,r2,q2,z2⟩:=kb
    cases h
    exact ZlT z2 hu
  | bl b1 =>
   cases db with
   | no=>cases h
   | non =>
    have e1:u=_:=ka
    subst e1
    have e2:w=_:=kb
    subst e2
    cases h
    exact Zm0
   | bl b2 =>
    have e1:u=_:=ka
    subst e1
    have e2:w=_:=kb
    subst e2
    cases h
    exact Zj8
   | int i2 =>
    have e1:u=_:=ka
    subst e1
    obtain ⟨t2,rfl⟩:=kb
    cases h
    exact Zg7
   | str x2 =>
    have e1:u=_:=ka
    subst e1
    obtain ⟨t2,rfl⟩:=kb
    cases h
    exact ZgY
   | tup ys =>
    have e1:u=_:=ka
    subst e1
    obtain ⟨a2,vs2,its2,rfl,r2,q2,z2⟩:=kb
    cases h
    exact ZiD z2 hu
   | lst ys =>
    have e1:u=_:=ka
    subst e1
    obtain ⟨a2,vs2,its2,rfl,r2,q2,z2⟩:=kb
    cases h
    exact ZhR z2 hu
  | int i1 =>
   cases db with
   | no=>cases h
   | non =>
    obtain ⟨t1,rfl⟩:=ka
    have e2:w=_:=kb
    subst e2
    cases h
    exact Znv
   | bl b2 =>
    obtain ⟨t1,rfl⟩:=ka
    have e2:w=_:=kb
    subst e2
    cases h
    exact ZjE
   | int i2 =>
    obtain ⟨t1,rfl⟩:=ka
    obtain ⟨t2,rfl⟩:=kb
    cases h
    exact ZjR
   | str x2 =>
    obtain ⟨t1,rfl⟩:=ka
    obtain ⟨t2,rfl⟩:=kb
    cases h
    exact ZjK
   | tup ys =>
    obtain ⟨t1,rfl⟩:=ka
    obtain ⟨a2,vs2,its2,rfl,r2,q2,z2⟩:=kb
    cases h
    exact ZgU z2 hu
   | lst ys =>
    obtain ⟨t1,rfl⟩:=ka
    obtain ⟨a2,vs2,its2,rfl,r2,q2,z2⟩:=kb
    cases h
    exact Ziu z2 hu
  | str x1 =>
   cases db with
   | no=>cases h
   | non =>
    obtain ⟨t1,rfl⟩:=ka
    have e2:w=_:=kb
    subst e2
    cases h
    exact ZmH
   | bl b2 =>
    obtain ⟨t1,rfl⟩:=ka
    have e2:w=_:=kb
    subst e2
    cases h
    exact Zl9
   | int i2 =>
    obtain ⟨t1,rfl⟩:=ka
    obtain ⟨t2,rfl⟩:=kb
    cases h
    exact Zhs
   | str x2 =>
    obtain ⟨t1,rfl⟩:=ka
    obtain ⟨t2,rfl⟩:=kb
    cases h
    exact ZiZ
   | tup ys =>
    obtain ⟨t1,rfl⟩:=ka
    obtain ⟨a2,vs2,its2,rfl,r2,q2,z2⟩:=kb
    cases h
    exact Zm5 z2 hu
   | lst ys =>
    obtain ⟨t1,rfl⟩:=ka
    obtain ⟨a2,vs2,its2,rfl,r2,q2,z2⟩:=kb
    cases h
    exact Zin z2 hu
  | tup xs =>
   cases db with
   | no=>cases h
   | non =>
    obtain ⟨a1,vs1,its1,rfl,r1,q1,z1⟩:=ka
    have e2:w=_:=kb
    subst e2
    cases h
    exact Zkd z1 hu
   | bl b2 =>
    obtain ⟨a1,vs1,its1,rfl,r1,q1,z1⟩:=ka
    have e2:w=_:=kb
    subst e2
    cases h
    exact ZmB z1 hu
   | int i2 =>
    obtain ⟨a1,vs1,its1,rfl,r1,q1,z1⟩:=ka
    obtain ⟨t2,rfl⟩:=kb
    cases h
    exact Zmh z1 hu
   | str x2 =>
    obtain ⟨a1,vs1,its1,rfl,r1,q1,z1⟩:=ka
    obtain ⟨t2,rfl⟩:=kb
    cases h
    exact Zg3 z1 hu
   | tup ys =>
    obtain ⟨a1,vs1,its1,rfl,r1,q1,z1⟩:=ka
    obtain ⟨a2,vs2,its2,rfl,r2,q2,z2⟩:=kb
    obtain ⟨he,hk⟩:=items h r1 r2 q1 q2
    have R:=SeqAt.RcAt.tuples z1 z2 hu he
    have N:=SeqAt.RcNeAt.tuples z1 z2 hu he
    rw [← hk] at R N
    refine ⟨?_,R,N⟩
    by_cases ea:a1=a2
    ·subst ea
     rw [same rfl]
     exact SeqAt.EqAt.same _
    ·exact SeqAt.EqAt.of_refs ea R
   | lst ys =>
    obtain ⟨a1,vs1,its1,rfl,r1,q1,z1⟩:=ka
    obtain ⟨a2,vs2,its2,rfl,r2,q2,z2⟩:=kb
    cases h
    exact ZjB z1 z2 hu
  | lst xs =>
   cases db with
   | no=>cases h
   | non =>
    obtain ⟨a1,vs1,its1,rfl,r1,q1,z1⟩:=ka
    have e2:w=_:=kb
    subst e2
    cases h
    exact ZkH z1 hu
   | bl b2 =>
    obtain ⟨a1,vs1,its1,rfl,r1,q1,z1⟩:=ka
    have e2:w=_:=kb
    subst e2
    cases h
    exact Zmz z1 hu
   | int i2 =>
    obtain ⟨a1,vs1,its1,rfl,r1,q1,z1⟩:=ka
    obtain ⟨t2,rfl⟩:=kb
    cases h
    exact Ziv z1 hu
   | str x2 =>
    obtain ⟨a1,vs1,its1,rfl,r1,q1,z1⟩:=ka
    obtain ⟨t2,rfl⟩:=kb
    cases h
    exact ZmE z1 hu
   | tup ys =>
    obtain ⟨a1,vs1,its1,rfl,r1,q1,z1⟩:=ka
    obtain ⟨a2,vs2,its2,rfl,r2,q2,z2⟩:=kb
    cases h
    exact Zlt z1 z2 hu
   | lst ys =>
    obtain ⟨a1,vs1,its1,rfl,r1,q1,z1⟩:=ka
    obtain ⟨a2,vs2,its2,rfl,r2,q2,z2⟩:=kb
    obtain ⟨he,hk⟩:=items h r1 r2 q1 q2
    have RN:SeqAt.RcAt A s (.ref a1) (.ref a2) k∧SeqAt.RcNeAt A s (.ref a1) (.ref a2) (!k):=by
     by_cases hz:its1.toArray.size=its2.toArray.size
     ·have R:=SeqAt.RcAt.lists z1 z2 hz hu he
      have N:=SeqAt.RcNeAt.lists z1 z2 hz hu he
      have hk2:k=(List.range its1.toArray.size).all (fun j=>((xs[j]?.bind fun x=>ys[j]?.bind fun y=>eqN st n x y).getD false)):=by
       rw [hk,← hz,Nat.min_self]
       simp
      rw [← hk2] at R N
      exact ⟨R,N⟩
     ·have hk2:k=false:=by
       rw [hk]
       simp only [beq_eq_false_iff_ne.mpr hz,Bool.and_false]
      have hb:(its1.toArray.size != its2.toArray.size)=true:=by simpa using hz
      subst hk2
      exact ⟨SeqAt.RcAt.lists_lengths z1 z2 hb hu,SeqAt.RcNeAt.lists_lengths z1 z2 hb hu⟩
    refine ⟨?_,RN.1,RN.2⟩
    by_cases ea:a1=a2
    ·subst ea
     rw [same rfl]
     exact SeqAt.EqAt.same _
    ·exact SeqAt.EqAt.of_refs ea RN.1
end
end DL
end
section
namespace DL
open PySem PySem.Spec PyProof.Rows L2
noncomputable abbrev EXT:=Addr→Sto→List Addr→Hp→Prop
noncomputable def Run (K:PySem.W.Frag) (EX:EXT) {α:Type} (O:List Addr) (H:Hp) (r:Out α) (k:α→Sto→List Addr→Hp→Prop):Prop:=match r with
 | .ok a st => ∀ O' H',Keep K O H O' H'→WR K O' H' st→k a st O' H'
 | .exc c st => ∀ O' H',Keep K O H O' H'→WR K O' H' st→EX c st O' H'
 | .bad=>False
section
variable {K:PySem.W.Frag} {EX:EXT} {α β:Type} {O O':List Addr} {H H':Hp} {st:Sto}
theorem Run.now {a:α} {k:α→Sto→List Addr→Hp→Prop} (h:Run K EX O H (.ok a st) k) (W:WR K O H st):k a st O H:=h O H Keep.refl W
theorem Run.later {r:Out α} {k:α→Sto→List Addr→Hp→Prop} (h:Run K EX O H r k) (kp:Keep K O H O' H'):Run K EX O' H' r k:=by
 cases r with
 | ok a st=>exact fun O2 H2 k2 W2=>h O2 H2 (kp.trans k2) W2
 | exc c st=>exact fun O2 H2 k2 W2=>h O2 H2 (kp.trans k2) W2
 | bad=>exact h
theorem Run.mono {r:Out α} {k k':α→Sto→List Addr→Hp→Prop} (h:Run K EX O H r k) (f:∀ a st O' H',Keep K O H O' H'→WR K O' H' st→k a st O' H'→k' a st O' H'):Run K EX O H r k':=by
 cases r with
 | ok a st=>exact fun O' H' kp W=>f a st O' H' kp W (h O' H' kp W)
 | exc c st=>exact h
 | bad=>exact h
theorem Run.bind {r:Out α} {g:α→Sto→Out β} {k:β→Sto→List Addr→Hp→Prop} (h:Run K EX O H (r.bind g) k):Run K EX O H r (fun a st O' H'=>Run K EX O' H' (g a st) k):=by
 cases r with
 | ok a st=>exact fun O' H' kp W=>Run.later (r:=g a st) h kp
 | exc c st=>exact h
 | bad=>exact h
end
structure REnv (K:PySem.W.Frag) (O:List Addr) (H:Hp) (ρ:Ev) (σ:L2.St):Prop where
 len:ρ.length=σ.length
 at_:∀ (i:Nat) (d:D),ρ[i]?=some (some d)→∃ v,σ[i]?=some (some v)∧Rep K O H d v
section
variable {K:PySem.W.Frag} {O O':List Addr} {H H':Hp} {ρ:Ev} {σ:L2.St}
theorem REnv.mono (E:REnv K O H ρ σ) (k:Keep K O H O' H'):REnv K O' H' ρ σ :=
 ⟨E.len,fun i d e=>let ⟨v,h,r⟩:=E.at_ i d e; ⟨v,h,Rep.mono k d v r⟩⟩
theorem REnv.set (E:REnv K O H ρ σ) {i:Nat} {d:D} {v:V} (r:Rep K O H d v):REnv K O H (ρ.set i (some d)) (σ.set i (some v)):=by
 refine ⟨by rw [List.length_set,List.length_set,E.len],fun j e h => ?_⟩
 by_cases hij:i=j
 ·subst hij
  have hl:i<ρ.length:=by
   have:=(List.getElem?_eq_some_iff.mp h).1
   rwa [List.length_set] at this
  rw [List.getElem?_set_self hl] at h
  cases h
  exact ⟨v,List.getElem?_set_self (by rw [← E.len]; exact hl),r⟩
 ·rw [List.getElem?_set_ne hij] at h
  obtain ⟨u,h1,h2⟩:=E.at_ j e h
  exact ⟨u,by rw [List.getElem?_set_ne hij]; exact h1,h2⟩
end
noncomputable abbrev DE:=Ev→Sto→Out D
noncomputable abbrev DT:=Ev→Sto→Out Bool
noncomputable abbrev DA:=Ev→Sto→Out (List D)
noncomputable def EX0:EXT:=fun _ _ _ _=>False
section
variable (K:PySem.W.Frag) (EX:EXT)
noncomputable def Val (Q:VK) (d:D) (_:Sto) (O:List Addr) (H:Hp):Prop:=∀ v,Rep K O H d v→Q v H
noncomputable def Vls (Q:List V→Hp→Prop) (ds:List D) (_:Sto) (O:List Addr) (H:Hp):Prop:=∀ vs,Reps K O H ds vs→Q vs H
noncomputable def New (Q:VK) (ds:List D) (_:Sto) (O:List Addr) (H:Hp):Prop:=∀ p vs,Reps K O H ds vs→H p=none→Q (.ref p) (upd H p (.lst vs))
noncomputable def tD (f:DE):TE:=fun σ H Q => ∃ O ρ st,WR K O H st∧REnv K O H ρ σ∧Run K EX O H (f ρ st) (Val K Q)
noncomputable def tDT (f:DT):TT:=fun σ H Q => ∃ O ρ st,WR K O H st∧REnv K O H ρ σ∧Run K EX O H (f ρ st) (fun b _ _ H'=>Q b H')
noncomputable def tDA (f:DA):TA:=fun σ H Q => ∃ O ρ st,WR K O H st∧REnv K O H ρ σ∧Run K EX O H (f ρ st) (Vls K Q)
noncomputable def tDF (f:DA):TE:=fun σ H Q => ∃ O ρ st,WR K O H st∧REnv K O H ρ σ∧Run K EX O H (f ρ st) (New K Q)
noncomputable def rD2 (g:D→D→Sto→Out D):R2:=fun x y H Q => ∃ O a b st,WR K O H st∧Rep K O H a x∧Rep K O H b y∧Run K EX O H (g a b st) (Val K Q)
noncomputable def Zeq (g:D→D→Sto→Out (List D)):R2:=fun x y H Q => ∃ O a b st,WR K O H st∧Rep K O H a x∧Rep K O H b y∧Run K EX O H (g a b st) (New K Q)
noncomputable def rDC (g:List D→Sto→Out D):List V→Hp→VK→Prop:=fun xs H Q => ∃ O ds st,WR K O H st∧Reps K O H ds xs∧Run K EX O H (g ds st) (Val K Q)
noncomputable def ZgB (g:List D→Sto→Out (List D)):List V→Hp→VK→Prop:=fun xs H Q => ∃ O ds st,WR K O H st∧Reps K O H ds xs∧Run K EX O H (g ds st) (New K Q)
end
section
variable (X:Cx) (EX:EXT)
noncomputable def PD (e:Expr) (f:DE):Prop:=PE X e (tD X.K EX f)
noncomputable def PDT (e:Expr) (f:DT):Prop:=PT X e (tDT X.K EX f)
noncomputable def PDW (e:Expr) (f:DT):Prop:=PW X e (tDT X.K EX f)
noncomputable def PDA (es:List Expr) (f:DA):Prop:=PA X es (tDA X.K EX f)
noncomputable def PDF (e:Expr) (f:DA):Prop:=PE X e (tDF X.K EX f)
noncomputable def OpD (f:Value→Value→Sem Value) (g:D→D→Sto→Out D):Prop:=OpR X f (rD2 X.K EX g)
noncomputable def OpF (f:Value→Value→Sem Value) (g:D→D→Sto→Out (List D)):Prop:=OpR X f (Zeq X.K EX g)
noncomputable def QN (f:Value) (g:List D→Sto→Out D):Prop:=YW X f (rDC X.K EX g)
noncomputable def Za3 (f:Value) (g:List D→Sto→Out (List D)):Prop:=YW X f (ZgB X.K EX g)
end
theorem PE.mono {X:Cx} {e:Expr} {t t':TE} (h:PE X e t) (f:∀ σ H Q,t' σ H Q→t σ H Q):PE X e t':=fun pins s σ H Q I q=>h pins s σ H Q I (f σ H Q q)
theorem PT.mono {X:Cx} {e:Expr} {t t':TT} (h:PT X e t) (f:∀ σ H Q,t' σ H Q→t σ H Q):PT X e t':=fun pins s σ H Q I q=>h pins s σ H Q I (f σ H Q q)
theorem PW.mono {X:Cx} {e:Expr} {t t':TT} (h:PW X e t) (f:∀ σ H Q,t' σ H Q→t σ H Q):PW X e t':=fun wh pins s σ H Q I q=>h wh pins s σ H Q I (f σ H Q q)
theorem PA.mono {X:Cx} {es:List Expr} {t t':TA} (h:PA X es t) (f:∀ σ H Q,t' σ H Q→t σ H Q):PA X es t':=fun pos pins s σ H Q I q=>h pos pins s σ H Q I (f σ H Q q)
theorem PS.mono {X:Cx} {e:Stmt} {t t':TS} (h:PS X e t) (f:∀ D σ H,t' D σ H→t D σ H):PS X e t':=fun pins s σ H D I q=>h pins s σ H D I (f D σ H q)
theorem PSs.mono {X:Cx} {e:List Stmt} {t t':TS} (h:PSs X e t) (f:∀ D σ H,t' D σ H→t D σ H):PSs X e t':=fun pins s σ H D I q=>h pins s σ H D I (f D σ H q)
theorem OpR.mono {X:Cx} {f:Value→Value→Sem Value} {r r':R2} (h:OpR X f r) (g:∀ x y H Q,r' x y H Q→r x y H Q):OpR X f r':=fun pins s σ H x y v u Q I rx ry q=>h pins s σ H x y v u Q I rx ry (g x y H Q q)
section
variable {X:Cx} {EX:EXT} {a b c e:Expr} {fa fb fc:DE} {pos:Pos} {ta tb:DT}
noncomputable def Za (i:Nat):DE:=fun ρ st=>match ρ[i]? with
 | some (some d) => .ok d st
 | _ => .bad
theorem Zb (i : Nat) {x : Str} {pos : Pos} (hN : X.N[i]? = some x := by rfl) (hv : Vis X.env.scope x := by first | exact Or.inl rfl | exact Or.inr (Or.inl rfl) | exact Or.inr (Or.inr rfl)) (hd : (x == ("__debug__" : Str)) = false := by decide)
  (hcd : (x == ("__classdict__" : Str)) = false := by decide) : PD X EX (.Name x pos) (Za i) := by
 refine PE.mono (ZhH hN hv hd hcd) ?_
 rintro σ H Q ⟨O,ρ,st,W,E,R⟩
 unfold Za at R
 cases h:ρ[i]? with
 | none=>rw [h] at R; exact R.elim
 | some z =>
  cases z with
  | none=>rw [h] at R; exact R.elim
  | some d =>
   rw [h] at R
   obtain ⟨v,h1,r⟩:=E.at_ i d h
   exact ⟨v,h1,R.now W v r⟩
noncomputable def dC (d:D):DE:=fun _ st => .ok d st
theorem ZaK {v:V} {d:D} (h:PE X e (tC v)) (hr:∀ O H,Rep X.K O H d v):PD X EX e (dC d):=by
 refine PE.mono h ?_
 rintro σ H Q ⟨O,ρ,st,W,E,R⟩
 exact R.now W v (hr O H)
theorem Zn {i j pos}:PD X EX (.Constant (.int i) j pos) (dC (.int i)):=ZaK Zl3 fun _ _=>Rep.int_i.mpr rfl
theorem Zak {b j pos}:PD X EX (.Constant (.bool b) j pos) (dC (.bl b)):=ZaK Zhp fun _ _=>Rep.bl_i.mpr rfl
theorem YI {j pos}:PD X EX (.Constant .none j pos) (dC .non):=ZaK ZhA fun _ _=>Rep.non_i.mpr rfl
theorem ZF {x j pos}:PD X EX (.Constant (.str x) j pos) (dC (.str x)):=ZaK Zii fun _ _=>Rep.str_i.mpr rfl
theorem Zk8 {x : Str} {v : V} {u : Value} {d : D} {pos : Pos} (hg : Gl X x) (hm : X.mg x = some u) (r : RelV v u) (hr : ∀ O H, Rep X.K O H d v) (hd : (x == ("__debug__" : Str)) = false := by decide) : PD X EX (.Name x pos) (dC d) :=
 ZaK (ZkI hg hm r hd) hr
noncomputable def Ze (g:D→D→Sto→Out D) (fa fb:DE):DE:=fun ρ st=>(fa ρ st).bind fun x st1=>(fb ρ st1).bind fun y st2=>g x y st2
noncomputable def Za2 (g:D→D→Sto→Out (List D)) (fa fb:DE):DA:=fun ρ st=>(fa ρ st).bind fun x st1=>(fb ρ st1).bind fun y st2=>g x y st2
theorem Zbu {g:D→D→Sto→Out D}:∀ σ H Q,tD X.K EX (Ze g fa fb) σ H Q→tOp (rD2 X.K EX g) (tD X.K EX fa) (tD X.K EX fb) σ H Q:=by
 rintro σ H Q ⟨O,ρ,st,W,E,R⟩
 refine ⟨O,ρ,st,W,E,R.bind.mono fun x st1 O1 H1 k1 W1 R1 v r => ?_⟩
 refine ⟨O1,ρ,st1,W1,E.mono k1,R1.bind.mono fun y st2 O2 H2 k2 W2 R2 u r2 => ?_⟩
 exact ⟨O2,x,y,st2,W2,Rep.mono k2 x v r,r2,R2⟩
theorem ZlZ {g:D→D→Sto→Out (List D)}:∀ σ H Q,tDF X.K EX (Za2 g fa fb) σ H Q→tOp (Zeq X.K EX g) (tD X.K EX fa) (tD X.K EX fb) σ H Q:=by
 rintro σ H Q ⟨O,ρ,st,W,E,R⟩
 refine ⟨O,ρ,st,W,E,R.bind.mono fun x st1 O1 H1 k1 W1 R1 v r => ?_⟩
 refine ⟨O1,ρ,st1,W1,E.mono k1,R1.bind.mono fun y st2 O2 H2 k2 W2 R2 u r2 => ?_⟩
 exact ⟨O2,x,y,st2,W2,Rep.mono k2 x v r,r2,R2⟩
theorem Zx {op:Operator} {g:D→D→Sto→Out D} (ho:OpD X EX (binaryOp op) g) (ha:PD X EX a fa) (hb:PD X EX b fb):PD X EX (.BinOp a op b pos) (Ze g fa fb) :=
 PE.mono (Zgv ho ha hb) Zbu
theorem ZjV {op:Operator} {g:D→D→Sto→Out (List D)} (ho:OpF X EX (binaryOp op) g) (ha:PD X EX a fa) (hb:PD X EX b fb):PDF X EX (.BinOp a op b pos) (Za2 g fa fb) :=
 PE.mono (Zgv ho ha hb) ZlZ
theorem Qc {op:CmpOp} {g:D→D→Sto→Out D} (ho:OpD X EX (compareOp op) g) (ha:PD X EX a fa) (hb:PD X EX b fb) (hm:behindInMarks op b=false:=by first | exact ZdE _ (by decide) (by decide) | with_unfolding_all rfl):PD X EX (.Compare a [op] [b] pos) (Ze g fa fb) :=
 PE.mono (Zih ho ha hb hm) Zbu
noncomputable def asB:D→Sto→Out Bool
 | .bl b,st => .ok b st
 | _,_ => .bad
noncomputable def dB (f:DE):DT:=fun ρ st=>(f ρ st).bind asB
theorem Ze9 {O:List Addr} {H:Hp} {st:Sto} {d:D} {v:V} {Q:Bool→Hp→Prop} (W:WR X.K O H st) (r:Rep X.K O H d v) (R:Run X.K EX O H (asB d st) (fun b _ _ H'=>Q b H')):∃ k,v = .bl k∧Q k H:=by
 cases d with
 | bl b=>exact ⟨b,Rep.bl_i.mp r,Run.now (k:=fun b _ _ H'=>Q b H') R W⟩
 | _=>exact R.elim
theorem ZD {op:CmpOp} {g:D→D→Sto→Out D} (ho:OpD X EX (compareOp op) g) (ha:PD X EX a fa) (hb:PD X EX b fb) (hm:behindInMarks op b=false:=by first | exact ZdE _ (by decide) (by decide) | with_unfolding_all rfl):PDT X EX (.Compare a [op] [b] pos) (dB (Ze g fa fb)):=by
 refine PT.mono (Zjv ho ha hb hm) ?_
 rintro σ H Q ⟨O,ρ,st,W,E,R⟩
 exact Zbu (X:=X) (EX:=EX) σ H _ ⟨O,ρ,st,W,E,R.bind.mono fun d st1 O1 H1 k1 W1 R1 v r=>Ze9 W1 r R1⟩
theorem Zaw {f:DE} (h:PD X EX e f) (he:∀ whole,isTrue e X.env whole=(do let v ← whole; standAt e.pos; holding [v] (truthy v)):=by intro _; rfl):PDT X EX e (dB f):=by
 refine PT.mono (Zg0 h he) ?_
 rintro σ H Q ⟨O,ρ,st,W,E,R⟩
 exact ⟨O,ρ,st,W,E,R.bind.mono fun d st1 O1 H1 k1 W1 R1 v r=>Ze9 W1 r R1⟩
noncomputable def Yg (ta tb:DT):DT:=fun ρ st=>(ta ρ st).bind fun x st1=>if x=true then tb ρ st1 else .ok false st1
noncomputable def dOr (ta tb:DT):DT:=fun ρ st=>(ta ρ st).bind fun x st1=>if x=true then .ok true st1 else tb ρ st1
noncomputable def ZaG (ta:DT):DT:=fun ρ st=>(ta ρ st).bind fun x st1 => .ok (!x) st1
theorem WU (ha:PDT X EX a ta):PDW X EX (.BoolOp .And [a] pos) ta:=Zkv ha
theorem ZeP (ha:PDT X EX a ta):PDW X EX (.BoolOp .Or [a] pos) ta:=Zhv ha
theorem Wj {rest:List Expr} (ha:PDT X EX a ta) (hb:PDW X EX (.BoolOp .And (b :: rest) pos) tb):PDW X EX (.BoolOp .And (a :: b :: rest) pos) (Yg ta tb):=by
 refine PW.mono (ZhU ha hb) ?_
 rintro σ H Q ⟨O,ρ,st,W,E,R⟩
 refine ⟨O,ρ,st,W,E,R.bind.mono fun x st1 O1 H1 k1 W1 R1 => ?_⟩
 cases x with
 | true=>exact ⟨O1,ρ,st1,W1,E.mono k1,R1⟩
 | false=>exact Run.now (k:=fun b _ _ H'=>Q b H') R1 W1
theorem ZgF {rest:List Expr} (ha:PDT X EX a ta) (hb:PDW X EX (.BoolOp .Or (b :: rest) pos) tb):PDW X EX (.BoolOp .Or (a :: b :: rest) pos) (dOr ta tb):=by
 refine PW.mono (Zlg ha hb) ?_
 rintro σ H Q ⟨O,ρ,st,W,E,R⟩
 refine ⟨O,ρ,st,W,E,R.bind.mono fun x st1 O1 H1 k1 W1 R1 => ?_⟩
 cases x with
 | true=>exact Run.now (k:=fun b _ _ H'=>Q b H') R1 W1
 | false=>exact ⟨O1,ρ,st1,W1,E.mono k1,R1⟩
theorem PDW.pt (h:PDW X EX e ta):PDT X EX e ta:=PW.pt h
theorem Zey (ha:PDT X EX a ta):PDT X EX (.UnaryOp .Not a pos) (ZaG ta):=by
 refine PT.mono (ZlM ha) ?_
 rintro σ H Q ⟨O,ρ,st,W,E,R⟩
 exact ⟨O,ρ,st,W,E,R.bind.mono fun x st1 O1 H1 k1 W1 R1=>Run.now (k:=fun b _ _ H'=>Q b H') R1 W1⟩
noncomputable def dIf (t:DT) (fa fb:DE):DE:=fun ρ st=>(t ρ st).bind fun x st1=>if x=true then fa ρ st1 else fb ρ st1
theorem ZiL (hc:PDT X EX c ta) (ha:PD X EX a fa) (hb:PD X EX b fb):PD X EX (.IfExp c a b pos) (dIf ta fa fb):=by
 refine PE.mono (ZgW hc ha hb) ?_
 rintro σ H Q ⟨O,ρ,st,W,E,R⟩
 refine ⟨O,ρ,st,W,E,R.bind.mono fun x st1 O1 H1 k1 W1 R1 => ?_⟩
 cases x with
 | true=>exact ⟨O1,ρ,st1,W1,E.mono k1,R1⟩
 | false=>exact ⟨O1,ρ,st1,W1,E.mono k1,R1⟩
noncomputable def Zf:DA:=fun _ st => .ok [] st
noncomputable def Zc (f:DE) (g:DA):DA:=fun ρ st=>(f ρ st).bind fun x st1=>(g ρ st1).bind fun xs st2 => .ok (x :: xs) st2
theorem Zh:PDA X EX [] Zf:=by
 refine PA.mono ZdA ?_
 rintro σ H Q ⟨O,ρ,st,W,E,R⟩
 exact Run.now (k:=Vls X.K Q) R W _ (Reps.nil_i.mpr rfl)
theorem Zd {es:List Expr} {g:DA} (ha:PD X EX a fa) (hr:PDA X EX es g) (hs:starEach (a :: es) X.env=(false,eval a X.env) :: starEach es X.env:=by rfl):PDA X EX (a :: es) (Zc fa g):=by
 refine PA.mono (Zcc ha hr hs) ?_
 rintro σ H Q ⟨O,ρ,st,W,E,R⟩
 refine ⟨O,ρ,st,W,E,R.bind.mono fun x st1 O1 H1 k1 W1 R1 v r => ?_⟩
 refine ⟨O1,ρ,st1,W1,E.mono k1,R1.bind.mono fun xs st2 O2 H2 k2 W2 R2 vs rs => ?_⟩
 exact Run.now (k:=Vls X.K Q) R2 W2 _ (Reps.cons_i.mpr ⟨v,vs,rfl,Rep.mono k2 x v r,rs⟩)
noncomputable def small:Nat:=10000
theorem YE:small≤sizeLine:=by rw [sizeLine_eq]; decide
noncomputable def Z4 (g:DA):DE:=fun ρ st=>(g ρ st).bind fun xs st1=>if xs.length≤small then .ok (.tup xs) st1 else .bad
noncomputable def ZL (g:DA):DA:=fun ρ st=>(g ρ st).bind fun xs st1=>if xs.length≤small then .ok xs st1 else .bad
theorem QP {O:List Addr} {H:Hp} {st:Sto} {xs:List D} {vs:List V} {p:Addr} {Q:VK} (W:WR X.K O H st) (r:Reps X.K O H xs vs) (hp:H p=none) (R:Run X.K EX O H (.ok (.tup xs) st) (Val X.K Q)):Q (.ref p) (upd H p (.tup vs)) :=
 R O (upd H p (.tup vs)) (Keep.laid hp) (W.laid hp) _ (Rep.tup_i.mpr ⟨p,vs,rfl,YR,Reps.mono (Keep.laid hp) _ _ r⟩)
theorem ZjQ {O:List Addr} {H:Hp} {st:Sto} {xs:List D} {vs:List V} {p:Addr} {Q:VK} (W:WR X.K O H st) (r:Reps X.K O H xs vs) (hp:H p=none) (R:Run X.K EX O H (.ok (.lst xs) st) (Val X.K Q)):Q (.ref p) (upd H p (.lst vs)):=by
 refine R O (upd H p (.lst vs)) (Keep.laid hp) (W.laid hp) _ (Rep.lst_i.mpr ⟨p,vs,rfl,fun hm => ?_,YR,Reps.mono (Keep.laid hp) _ _ r⟩)
 obtain ⟨i,hi⟩:=List.mem_iff_getElem?.mp hm
 exact W.ne hi hp rfl
theorem Yu {es:List Expr} {x1} {g:DA} (h:PDA X EX es g):PD X EX (.Tuple es x1 pos) (Z4 g):=by
 refine PE.mono (Zks h) ?_
 rintro σ H Q ⟨O,ρ,st,W,E,R⟩
 refine ⟨O,ρ,st,W,E,R.bind.mono fun xs st1 O1 H1 k1 W1 R1 vs r => ?_⟩
 by_cases hz:xs.length≤small
 ·rw [if_pos hz] at R1
  exact ⟨by rw [← r.length]; exact Nat.le_trans hz YE,fun p hp=>QP W1 r hp R1⟩
 ·rw [if_neg hz] at R1
  exact R1.elim
theorem Yi {es:List Expr} {g:DA} (h:PDA X EX es g):PDF X EX (.List es pos) (ZL g):=by
 refine PE.mono (ZjJ h) ?_
 rintro σ H Q ⟨O,ρ,st,W,E,R⟩
 refine ⟨O,ρ,st,W,E,R.bind.mono fun xs st1 O1 H1 k1 W1 R1 vs r => ?_⟩
 by_cases hz:xs.length≤small
 ·rw [if_pos hz] at R1
  exact ⟨by rw [← r.length]; exact Nat.le_trans hz YE,fun p hp=>Run.now (k:=New X.K Q) R1 W1 p vs r hp⟩
 ·rw [if_neg hz] at R1
  exact R1.elim
noncomputable def dF (f:DA):DE:=fun ρ st=>(f ρ st).bind fun xs st1 => .ok (.lst xs) st1
theorem ZP {f:DA} (h:PDF X EX e f):PD X EX e (dF f):=by
 refine PE.mono h ?_
 rintro σ H Q ⟨O,ρ,st,W,E,R⟩
 exact ⟨O,ρ,st,W,E,R.bind.mono fun xs st1 O1 H1 k1 W1 R1 p vs r hp=>ZjQ W1 r hp R1⟩
end
end DL
end
section
namespace HT
open PySem PyProof.Rows
section
open PySem.SeqAt
open PySem.AutoSeq1 (wpAny_loadPart')
open PySem.MeetsSeq PySem.MeetsSeq2 PySem.MeetsSeq3
variable {prog:Program} {w:World} {A:Around} {E:Value→Shared→Prop} {s:Shared}
theorem cat_tup0 {t b:Addr} {ws:List Value} {Q:Value→Shared→Prop} (ht:IsTup s.heap t #[]) (hb:IsTup s.heap b ws.toArray) (h:Q (.ref b) s):wpAny (model prog w) A (binaryOp .Add (.ref t) (.ref b)) Q E s:=by
 obtain ⟨⟨cls,dd,data,sl⟩,ho,hc,n,hd⟩:=id ht
 obtain ⟨⟨cls2,dd2,data2,sl2⟩,ho2,hc2,n2,hd2⟩:=id hb
 simp only at hc hd hc2 hd2
 subst hc hd hc2 hd2
 exact concat_meets ⟨_,ho,rfl⟩ ⟨_,ho2,rfl⟩ noFill_tuple_add seq_tuple_add PySem.F.slot_tuple_add PySem.F.entry_tuple_add (PySem.F.args_tuple_add_2 _ _)
   (tuple_addW0 t b #[] ws.toArray n n2 dd dd2 sl sl2 rfl) ⟨ho,ho2,h⟩
theorem getItem_tuple_whole {t sl:Addr} {items:Array Value} {vl vu:Value} {lo hi:Option Int} {Q:Value→Shared→Prop} (ht:IsTup s.heap t items) (hs:s.heap.IsSliceOf sl vl vu .none) (pl:IsPart vl lo) (pu:IsPart vu hi)
  (hw:sIx items.size 0 lo=0∧sIx items.size items.size hi=items.size) (h:Q (.ref t) s):wpAny (model prog w) A (getItem (.ref t) (.ref sl)) Q E s:=by
 obtain ⟨os,hos,hcs,hds⟩:=id hs
 have hTs : s.TypeIs (.ref sl) "slice" := ⟨os, hos, hcs⟩
 unfold getItem
 try with_reducible refine wpAny_holding ?_
 first | refine wpAny_bind (wpAny_pure ?_) | skip
 refine wpAny_bind (wpAny_sequenceKey ht.typeIs (by decide) ?_)
 refine wpAny_bind (wpAny_callSpecial?_slot (name := Str.ofString "__getitem__") ht.typeIs PyProof.Rows.slot_tuple_getitem
  (wpAny_call_entry PyProof.Rows.slot_tuple_getitem ht.typeIs entry_tuple_getitem ?_ (args_tuple_getitem _ _)))
 show wpAny _ _ (Builtin.Tuple.tupleItemsOf (.ref t) >>= _) _ _ s
 refine wpAny_bind (tupleItemsOf_ ht ?_)
 refine wpAny_bind (wpAny_typeOf hTs ?_)
 rw [if_pos (by decide)]
 refine wpAny_bind (Zfe hs pl pu ?_)
 have hyes:((((sIx items.size 0 lo:Nat):Int) == 0 && (1:Int) == 1 && (sIx items.size items.size hi - sIx items.size 0 lo) == items.size)=true):=by
  rw [hw.1,hw.2]
  simp
 show wpAny _ _ (if (((sIx items.size 0 lo:Nat):Int) == 0 && (1:Int) == 1 && (sIx items.size items.size hi - sIx items.size 0 lo) == items.size)=true then _ else _) _ _ s
 rw [if_pos hyes]
 unfold Builtin.Tuple.tupleIsExact
 refine wpAny_bind (wpAny_bind (wpAny_typeOf ht.typeIs (wpAny_pure ?_)))
 rw [if_pos (by decide)]
 refine wpAny_bind (wpAny_rule ?_)
 first
  | exact wpAny_bind (wpAny_pure (wpAny_pure ⟨_,rfl,wpAny_pure h⟩))
  | exact wpAny_bind (wpAny_bind (wpAny_pure (wpAny_pure ⟨_,rfl,wpAny_pure h⟩)))
  | exact wpAny_pure ⟨_,rfl,wpAny_pure h⟩
end
end HT
namespace DL
open PySem PySem.Spec PyProof.Rows L2
section
variable {X:Cx} {EX:EXT}
noncomputable def ZG:D→D→Sto→Out D
 | .int a,.int b,st => .ok (.int (a+b)) st
 | .str a,.str b,st=>if a.length+b.length≤small then .ok (.str (a++b)) st else .bad
 | .tup xs,.tup ys,st=>if xs.length+ys.length≤small then .ok (.tup (xs++ys)) st else .bad
 | _,_,_ => .bad
theorem Yk:OpD X EX (binaryOp .Add) ZG:=by
 intro pins s σ H x y v u Q I rx ry h
 obtain ⟨O,a,b,st,W,ra,rb,R⟩:=h
 cases a <;> cases b <;> first | exact R.elim | skip
 case int.int i j =>
  rw [Rep.int_i] at ra rb
  subst ra rb
  exact ZmG pins s σ H _ _ v u Q I rx ry ⟨i,j,rfl,rfl,Run.now (k:=Val X.K Q) R W _ (Rep.int_i.mpr rfl)⟩
 case str.str i j =>
  rw [Rep.str_i] at ra rb
  subst ra rb
  dsimp only [ZG] at R
  by_cases hz:i.length+j.length≤small
  ·rw [if_pos hz] at R
   exact ZlV pins s σ H _ _ v u Q I rx ry ⟨i,j,rfl,rfl,Nat.le_trans hz YE,Run.now (k:=Val X.K Q) R W _ (Rep.str_i.mpr rfl)⟩
  ·rw [if_neg hz] at R; exact R.elim
 case tup.tup xs ys =>
  dsimp only [ZG] at R
  by_cases hz:xs.length+ys.length≤small
  ·rw [if_pos hz] at R
   rw [Rep.tup_i] at ra rb
   obtain ⟨a,vs,rfl,q1,r1⟩:=ra
   obtain ⟨b,ws,rfl,q2,r2⟩:=rb
   by_cases h0:xs=[]
   ·subst h0
    rw [Reps.nil_i] at r1
    subst r1
    cases rx
    cases ry
    obtain ⟨its,v1,p1,_⟩:=I.tuple (SqT.of q1)
    obtain ⟨its2,v2,p2,_⟩:=I.tuple (SqT.of q2)
    cases v1
    exact HT.cat_tup0 p1 p2 ⟨.ref b,H,I,rfl,Run.now (k:=Val X.K Q) R W _ (Rep.tup_i.mpr ⟨b,ws,rfl,q2,r2⟩)⟩
   ·refine Zi6 pins s σ H _ _ v u Q I rx ry ⟨a,b,vs,ws,rfl,rfl,SqT.of q1,SqT.of q2,fun z=>h0 ?_,?_,fun z => ?_,fun z p hp => ?_⟩
    ·have:=r1.length; rw [z] at this; exact List.length_eq_zero_iff.mp this
    ·rw [← r1.length,← r2.length]; exact Nat.le_trans hz YE
    ·have e:ys=[]:=by have:=r2.length; rw [z] at this; exact List.length_eq_zero_iff.mp this
     subst e
     rw [List.append_nil] at R
     exact Run.now (k:=Val X.K Q) R W _ (Rep.tup_i.mpr ⟨a,vs,rfl,q1,r1⟩)
    ·exact QP W (r1.append r2) hp R
  ·rw [if_neg hz] at R; exact R.elim
noncomputable def Zat (a b:D) (st:Sto):Out (List D):=match Wf st a,Wf st b with
 | some xs,some ys=>if xs.length+ys.length≤small then .ok (xs++ys) st else .bad
 | _,_ => .bad
theorem ZgP:OpF X EX (binaryOp .Add) Zat:=by
 intro pins s σ H x y v u Q I rx ry h
 obtain ⟨O,a,b,st,W,ra,rb,R⟩:=h
 unfold Zat at R
 cases ea:Wf st a with
 | none=>rw [ea] at R; exact R.elim
 | some xs =>
  cases eb:Wf st b with
  | none=>rw [ea,eb] at R; exact R.elim
  | some ys =>
   rw [ea,eb] at R
   dsimp only at R
   by_cases hz:xs.length+ys.length≤small
   ·rw [if_pos hz] at R
    obtain ⟨p1,vs,rfl,q1,r1⟩:=rdO W ra ea
    obtain ⟨p2,ws,rfl,q2,r2⟩:=rdO W rb eb
    exact ZmV pins s σ H _ _ v u Q I rx ry ⟨p1,p2,vs,ws,rfl,rfl,q1,q2,by rw [← r1.length,← r2.length]; exact Nat.le_trans hz YE,fun p hp=>Run.now (k:=New X.K Q) R W p _ (r1.append r2) hp⟩
   ·rw [if_neg hz] at R; exact R.elim
noncomputable def intOp (C:Int→Int→Bool) (g:Int→Int→Int):D→D→Sto→Out D
 | .int a,.int b,st=>if C a b=true then .ok (.int (g a b)) st else .bad
 | _,_,_ => .bad
theorem Zc1 {f:Value→Value→Sem Value} {C:Int→Int→Bool} {P:Int→Int→Prop} {g:Int→Int→Int} (h:OpR X f (rI P fun i j => .int (g i j))) (hC:∀ i j,C i j=true→P i j):OpD X EX f (intOp C g):=by
 intro pins s σ H x y v u Q I rx ry h'
 obtain ⟨O,a,b,st,W,ra,rb,R⟩:=h'
 cases a <;> cases b <;> first | exact R.elim | skip
 rename_i i j
 rw [Rep.int_i] at ra rb
 subst ra rb
 dsimp only [intOp] at R
 by_cases hz:C i j=true
 ·rw [if_pos hz] at R
  exact h pins s σ H _ _ v u Q I rx ry ⟨i,j,rfl,rfl,hC i j hz,Run.now (k:=Val X.K Q) R W _ (Rep.int_i.mpr rfl)⟩
 ·rw [if_neg hz] at R; exact R.elim
noncomputable def Qh (i j:Int):Bool:=(decide (-(2 ^ 64)<i) && decide (i<2 ^ 64)) || (decide (-(2 ^ 64)<j) && decide (j<2 ^ 64))
noncomputable def Zbj:D→D→Sto→Out D:=intOp Qh fun i j=>i * j
theorem ZmW:OpD X EX (binaryOp .Mult) Zbj:=Zc1 Zg9 fun i j h=>by
 unfold Qh at h
 rw [Bool.or_eq_true,Bool.and_eq_true,Bool.and_eq_true] at h
 rcases h with ⟨h1,h2⟩ | ⟨h1,h2⟩
 ·exact .inl ⟨of_decide_eq_true h1,of_decide_eq_true h2⟩
 ·exact .inr ⟨of_decide_eq_true h1,of_decide_eq_true h2⟩
noncomputable def ZdM (_ j:Int):Bool:=@decide (0<j∧j<1073741824) (Classical.propDecidable _)
noncomputable def Qa:D→D→Sto→Out D:=intOp ZdM fun i j=>i / j
theorem ZaX:OpD X EX (binaryOp .FloorDiv) Qa:=Zc1 Zme fun i j h => @of_decide_eq_true (0<j∧j<1073741824) (Classical.propDecidable _) h
noncomputable def Wu:D→D→Sto→Out D:=intOp (fun _ j=>decide (0<j)) fun i j=>i % j
theorem QF:OpD X EX (binaryOp .Mod) Wu:=Zc1 Zkm fun i j h=>of_decide_eq_true h
noncomputable def depth:Nat:=50
noncomputable def eqD (a b:D) (st:Sto):Out D:=match eqN st depth a b with
 | some k => .ok (.bl k) st
 | none => .bad
noncomputable def neD (a b:D) (st:Sto):Out D:=match eqN st depth a b with
 | some k => .ok (.bl (!k)) st
 | none => .bad
theorem Yq (hu:X.A.units+64<cLine):OpD X EX (compareOp .Eq) eqD:=by
 intro pins s σ H x y v u Q I rx ry h
 obtain ⟨O,a,b,st,W,ra,rb,R⟩:=h
 unfold eqD at R
 cases e:eqN st depth a b with
 | none=>rw [e] at R; exact R.elim
 | some k =>
  rw [e] at R
  have h:=(ZaR I W depth a b k e X.A x y v u ra rb rx ry (by show X.A.units+50<cLine; omega)).2.1
  exact h X.prog X.w X.xe _ ⟨.bl k,H,I,rfl,Run.now (k:=Val X.K Q) R W _ (Rep.bl_i.mpr rfl)⟩
theorem Y2 (hu:X.A.units+64<cLine):OpD X EX (compareOp .NotEq) neD:=by
 intro pins s σ H x y v u Q I rx ry h
 obtain ⟨O,a,b,st,W,ra,rb,R⟩:=h
 unfold neD at R
 cases e:eqN st depth a b with
 | none=>rw [e] at R; exact R.elim
 | some k =>
  rw [e] at R
  have h:=(ZaR I W depth a b k e X.A x y v u ra rb rx ry (by show X.A.units+50<cLine; omega)).2.2
  exact h X.prog X.w X.xe _ ⟨.bl (!k),H,I,rfl,Run.now (k:=Val X.K Q) R W _ (Rep.bl_i.mpr rfl)⟩
noncomputable def Zbh (g:Int→Int→Bool):D→D→Sto→Out D
 | .int a,.int b,st => .ok (.bl (g a b)) st
 | _,_,_ => .bad
theorem Znp {f:Value→Value→Sem Value} {g:Int→Int→Bool} (h:OpR X f (rI0 fun i j => .bl (g i j))):OpD X EX f (Zbh g):=by
 intro pins s σ H x y v u Q I rx ry h'
 obtain ⟨O,a,b,st,W,ra,rb,R⟩:=h'
 cases a <;> cases b <;> first | exact R.elim | skip
 rename_i i j
 rw [Rep.int_i] at ra rb
 subst ra rb
 exact h pins s σ H _ _ v u Q I rx ry ⟨i,j,rfl,rfl,Run.now (k:=Val X.K Q) R W _ (Rep.bl_i.mpr rfl)⟩
noncomputable def gtD:=Zbh fun i j=>decide (j<i)
theorem Ze2:OpD X EX (compareOp .Gt) gtD:=Znp ZlC
noncomputable def isN:D→Bool
 | .non=>true
 | _=>false
noncomputable def isD:D→D→Sto→Out D
 | a,.non,st => .ok (.bl (isN a)) st
 | _,_,_ => .bad
noncomputable def Yf:D→D→Sto→Out D
 | a,.non,st => .ok (.bl (!isN a)) st
 | _,_,_ => .bad
theorem Zdm {K:PySem.W.Frag} {O:List Addr} {H:Hp} {d:D} {v:V} (r:Rep K O H d v):decide (v = .non)=isN d:=by
 cases d with
 | non=>rw [Rep.non_i] at r; subst r; rfl
 | bl b=>rw [Rep.bl_i] at r; subst r; rfl
 | int b=>rw [Rep.int_i] at r; subst r; rfl
 | str b=>rw [Rep.str_i] at r; subst r; rfl
 | tup ds=>rw [Rep.tup_i] at r; obtain ⟨a,_,rfl,_⟩:=r; rfl
 | lst ds=>rw [Rep.lst_i] at r; obtain ⟨a,_,rfl,_⟩:=r; rfl
 | scr ds=>rw [Rep.scr_i] at r; obtain ⟨a,_,rfl,_⟩:=r; rfl
 | res i=>rw [Rep.res_i] at r; obtain ⟨a,rfl,_⟩:=r; rfl
 | exv C=>rw [Rep.exv_i] at r; obtain ⟨a,rfl,_⟩:=r; rfl
theorem Zjn:OpD X EX (compareOp .Is) isD:=by
 intro pins s σ H x y v u Q I rx ry h
 obtain ⟨O,a,b,st,W,ra,rb,R⟩:=h
 cases b <;> first | (simp only [isD] at R; exact R.elim) | skip
 rw [Rep.non_i] at rb
 exact Zl7 pins s σ H x y v u Q I rx ry ⟨rb,by rw [Zdm ra]; exact Run.now (k:=Val X.K Q) (by cases a <;> exact R) W _ (Rep.bl_i.mpr rfl)⟩
theorem Zau:OpD X EX (compareOp .IsNot) Yf:=by
 intro pins s σ H x y v u Q I rx ry h
 obtain ⟨O,a,b,st,W,ra,rb,R⟩:=h
 cases b <;> first | (simp only [Yf] at R; exact R.elim) | skip
 rw [Rep.non_i] at rb
 exact ZlY pins s σ H x y v u Q I rx ry ⟨rb,by rw [Zdm ra]; exact Run.now (k:=Val X.K Q) (by cases a <;> exact R) W _ (Rep.bl_i.mpr rfl)⟩
noncomputable def inN (st:Sto) (n:Nat) (x:D):List D→Option Bool
 | []=>some false
 | y :: ys=>match eqN st n y x,inN st n x ys with
  | some a,some b=>some (a || b)
  | _,_=>none
noncomputable def itemsOf (st:Sto):D→Option (List D)
 | .tup xs=>some xs
 | d=>ZS st d
noncomputable def ZaL (x c:D) (st:Sto):Out D:=match itemsOf st c with
 | some ys=>match inN st depth x ys with
  | some k => .ok (.bl (!k)) st
  | none => .bad
 | none => .bad
open Classical in
theorem ZbP {pins:List (Addr×Obj)} {σ:L2.St} {s:Shared} {O:List Addr} {H:Hp} {st:Sto} (I:Inv X pins σ H s) (W:WR X.K O H st) {x:D} {vx:V} {ux:Value} (rx:Rep X.K O H x vx) (qx:RelV vx ux) {A:Around} (hA:A.units+depth<cLine) :
  ∀ {ys:List D} {vs:List V} {its:List Value} {k:Bool},inN st depth x ys=some k→Reps X.K O H ys vs→Vals vs its →
   ∃ e:Value→Bool,(∀ z,e z=decide (∃ d v,Rep X.K O H d v∧RelV v z∧eqN st depth d x=some true))∧(∀ z∈its,SeqAt.EqAt A s z ux (e z))∧its.any e=k
 | [],vs,its,k,h,r,q=>by
  rw [Reps.nil_i] at r
  subst r
  cases q
  simp only [inN,Option.some.injEq] at h
  subst h
  exact ⟨fun z=>decide (∃ d v,Rep X.K O H d v∧RelV v z∧eqN st depth d x=some true),fun _=>rfl,(fun z hz=>(by cases hz)),rfl⟩
 | y :: ys,vs,its,k,h,r,q=>by
  obtain ⟨v,vs',rfl,ry,rs⟩:=Reps.cons_i.mp r
  cases q with
  | cons q1 q2 =>
   rename_i u us
   unfold inN at h
   cases e1:eqN st depth y x with
   | none=>rw [e1] at h; cases h
   | some a =>
    cases e2:inN st depth x ys with
    | none=>rw [e1,e2] at h; cases h
    | some b =>
     rw [e1,e2] at h
     simp only [Option.some.injEq] at h
     obtain ⟨e,he,h1,h2⟩:=ZbP I W rx qx hA e2 rs q2
     have hu:e u=a:=by
      rw [he u]
      cases a with
      | true=>exact decide_eq_true ⟨y,v,ry,q1,e1⟩
      | false =>
       refine decide_eq_false ?_
       rintro ⟨d,v',r',q',e'⟩
       have ev:v'=v:=q'.inj q1
       subst ev
       have ed:=Rep.inj I W d y v' r' ry
       subst ed
       rw [e1] at e'
       cases e'
     refine ⟨e,he,fun z hz => ?_,?_⟩
     ·rcases List.mem_cons.mp hz with rfl | hz
      ·rw [hu]
       exact (ZaR I W depth y x a e1 A v vx z ux ry rx q1 qx hA).1
      ·exact h1 z hz
     ·rw [List.any_cons,hu,h2]
      exact h
theorem Zci {A:Around} (hu:A.units+64<cLine):A.in1.units+depth<cLine:=by
 show A.units+1+50<cLine
 omega
theorem ZgQ (hu:X.A.units+64<cLine):OpD X EX (compareOp .NotIn) ZaL:=by
 intro pins s σ H x y v u Q I rx ry h
 obtain ⟨O,a,b,st,W,ra,rb,R⟩:=h
 unfold ZaL at R
 cases e1:itemsOf st b with
 | none=>rw [e1] at R; exact R.elim
 | some ys =>
  rw [e1] at R
  dsimp only at R
  cases e2:inN st depth a ys with
  | none=>rw [e2] at R; exact R.elim
  | some k =>
   rw [e2] at R
   have fin:EP X pins σ Q (.bool (!k)) s:=⟨.bl (!k),H,I,rfl,Run.now (k:=Val X.K Q) R W _ (Rep.bl_i.mpr rfl)⟩
   by_cases hb:∃ zs,b = .tup zs
   ·obtain ⟨zs,rfl⟩:=hb
    simp only [itemsOf,Option.some.injEq] at e1
    subst e1
    rw [Rep.tup_i] at rb
    obtain ⟨p,vs,rfl,q,r⟩:=rb
    cases ry
    obtain ⟨its,hv,hp,_⟩:=I.tuple (SqT.of q)
    obtain ⟨e,_,h1,h2⟩:=ZbP I W ra rx (Zci hu) e2 r hv
    exact SeqAt.notIn_tupleAt e hp (fun z hz=>h1 z (by simpa using hz)) (by simpa [h2] using fin)
   ·have e3:ZS st b=some ys:=by
     cases b <;> first | exact e1 | exact absurd ⟨_,rfl⟩ hb
    obtain ⟨p,vs,rfl,q,r⟩:=rdL W rb e3
    cases ry
    obtain ⟨its,hv,hp,_⟩:=I.list q
    obtain ⟨e,_,h1,h2⟩:=ZbP I W ra rx (Zci hu) e2 r hv
    exact SeqAt.notIn_listAt e hp.isList (fun z hz=>h1 z (by simpa using hz)) (by simpa [h2] using fin)
end
end DL
end
section
namespace DL
open PySem PySem.Spec PyProof.Rows L2
section
variable {X:Cx} {EX:EXT} {a b c e:Expr} {fa fb fc:DE} {pos p2:Pos} {ta tb:DT}
noncomputable abbrev DO:=Ev→Sto→Out (Option Int)
noncomputable def tDO (K:PySem.W.Frag) (EX:EXT) (f:DO):TO:=fun σ H Q => ∃ O ρ st,WR K O H st∧REnv K O H ρ σ∧Run K EX O H (f ρ st) (fun o _ _ H'=>Q o H')
noncomputable def PDO (X:Cx) (EX:EXT) (e:Option Expr) (f:DO):Prop:=PO X e (tDO X.K EX f)
noncomputable def Zav:DO:=fun _ st => .ok none st
noncomputable def Zcy:D→Sto→Out (Option Int)
 | .int i,st => .ok (some i) st
 | _,_ => .bad
noncomputable def Zal (f:DE):DO:=fun ρ st=>(f ρ st).bind Zcy
theorem PO.mono {e:Option Expr} {t t':TO} (h:PO X e t) (f:∀ σ H Q,t' σ H Q→t σ H Q):PO X e t':=fun pins s σ H Q I q=>h pins s σ H Q I (f σ H Q q)
theorem ZcY:PDO X EX none Zav:=by
 refine PO.mono Znq ?_
 rintro σ H Q ⟨O,ρ,st,W,E,R⟩
 exact Run.now (k:=fun o _ _ H'=>Q o H') R W
theorem ZcW {f:DE} (h:PD X EX e f):PDO X EX (some e) (Zal f):=by
 refine PO.mono (Zma h) ?_
 rintro σ H Q ⟨O,ρ,st,W,E,R⟩
 refine ⟨O,ρ,st,W,E,R.bind.mono fun d st1 O1 H1 k1 W1 R1 v r => ?_⟩
 cases d with
 | int i=>exact ⟨i,Rep.int_i.mp r,Run.now (k:=fun o _ _ H'=>Q o H') R1 W1⟩
 | _=>exact R1.elim
noncomputable def YA {α:Type} (xs:List α) (lo hi:Option Int):List α:=(xs.drop (HT.sIx xs.length 0 lo)).take (HT.sIx xs.length xs.length hi - HT.sIx xs.length 0 lo)
theorem Reps.cut {K:PySem.W.Frag} {O:List Addr} {H:Hp} {ds:List D} {vs:List V} (r:Reps K O H ds vs) (lo hi:Option Int):Reps K O H (YA ds lo hi) (WG vs lo hi):=by
 unfold YA WG
 rw [r.length]
 exact (r.drop _).take _
noncomputable def rDS (K:PySem.W.Frag) (EX:EXT) (g:D→Option Int→Option Int→Sto→Out D):V→Option Int→Option Int→Hp→VK→Prop:=fun x lo hi H Q => ∃ O d st,WR K O H st∧Rep K O H d x∧Run K EX O H (g d lo hi st) (Val K Q)
noncomputable def ZeN (K:PySem.W.Frag) (EX:EXT) (g:D→Option Int→Option Int→Sto→Out (List D)):V→Option Int→Option Int→Hp→VK→Prop:=fun x lo hi H Q => ∃ O d st,WR K O H st∧Rep K O H d x∧Run K EX O H (g d lo hi st) (New K Q)
noncomputable def dSl {α:Type} (g:D→Option Int→Option Int→Sto→Out α) (f:DE) (l h:DO):Ev→Sto→Out α:=fun ρ st=>(f ρ st).bind fun x st1=>(l ρ st1).bind fun lo st2=>(h ρ st2).bind fun hi st3=>g x lo hi st3
theorem Zej {g:D→Option Int→Option Int→Sto→Out D} {lo hi:Option Expr} {fl fh:DO} (hr:SlR X (rDS X.K EX g)) (he:PD X EX e fa) (hl:PDO X EX lo fl) (hh:PDO X EX hi fh):PD X EX (.Subscript e (.Slice lo hi none p2) pos) (dSl g fa fl fh):=by
 refine PE.mono (Zdx hr he hl hh) ?_
 rintro σ H Q ⟨O,ρ,st,W,E,R⟩
 refine ⟨O,ρ,st,W,E,R.bind.mono fun x st1 O1 H1 k1 W1 R1 v r => ?_⟩
 refine ⟨O1,ρ,st1,W1,E.mono k1,R1.bind.mono fun lo st2 O2 H2 k2 W2 R2 => ?_⟩
 refine ⟨O2,ρ,st2,W2,E.mono (k1.trans k2),R2.bind.mono fun hi st3 O3 H3 k3 W3 R3 => ?_⟩
 exact ⟨O3,x,st3,W3,Rep.mono (k2.trans k3) x v r,R3⟩
theorem Zg6 {g:D→Option Int→Option Int→Sto→Out (List D)} {lo hi:Option Expr} {fl fh:DO} (hr:SlR X (ZeN X.K EX g)) (he:PD X EX e fa) (hl:PDO X EX lo fl) (hh:PDO X EX hi fh):PDF X EX (.Subscript e (.Slice lo hi none p2) pos) (dSl g fa fl fh):=by
 refine PE.mono (Zdx hr he hl hh) ?_
 rintro σ H Q ⟨O,ρ,st,W,E,R⟩
 refine ⟨O,ρ,st,W,E,R.bind.mono fun x st1 O1 H1 k1 W1 R1 v r => ?_⟩
 refine ⟨O1,ρ,st1,W1,E.mono k1,R1.bind.mono fun lo st2 O2 H2 k2 W2 R2 => ?_⟩
 refine ⟨O2,ρ,st2,W2,E.mono (k1.trans k2),R2.bind.mono fun hi st3 O3 H3 k3 W3 R3 => ?_⟩
 exact ⟨O3,x,st3,W3,Rep.mono (k2.trans k3) x v r,R3⟩
noncomputable def Zaf:D→Option Int→Option Int→Sto→Out D
 | .tup xs,lo,hi,st => .ok (.tup (YA xs lo hi)) st
 | _,_,_,_ => .bad
theorem ZfA:SlR X (rDS X.K EX Zaf):=by
 intro pins s σ H x v vl vu lo hi sl Q I rx hs pl pu h
 obtain ⟨O,d,st,W,r,R⟩:=h
 cases d with
 | tup xs =>
  rw [Rep.tup_i] at r
  obtain ⟨a,vs,rfl,q,rs⟩:=r
  by_cases hw:HT.sIx vs.length 0 lo=0∧HT.sIx vs.length vs.length hi=vs.length
  ·cases rx
   obtain ⟨its,hv,ht,hz⟩:=I.tuple (SqT.of q)
   have hlen:its.toArray.size=vs.length:=by rw [List.size_toArray]; exact hv.length.symm
   refine ⟨"tuple", _, PyProof.Rows.slot_tuple_getitem.lookup, ht.typeIs, HT.getItem_tuple_whole ht hs pl pu (by rw [hlen]; exact hw) ?_⟩
   have e:YA xs lo hi=xs:=by
    unfold YA
    rw [rs.length,hw.1,hw.2,List.drop_zero,Nat.sub_zero,← rs.length,List.take_length]
   refine ⟨.ref a,H,I,rfl,?_⟩
   dsimp only [Zaf] at R
   rw [e] at R
   exact Run.now (k:=Val X.K Q) R W _ (Rep.tup_i.mpr ⟨a,vs,rfl,q,rs⟩)
  ·exact Zli pins s σ H _ v vl vu lo hi sl Q I rx hs pl pu ⟨a,vs,rfl,SqT.of q,hw,fun p hp=>QP W (rs.cut lo hi) hp R⟩
 | _=>exact R.elim
noncomputable def ZaC (d:D) (lo hi:Option Int) (st:Sto):Out (List D):=match ZS st d with
 | some xs => .ok (YA xs lo hi) st
 | none => .bad
theorem Zl6:SlR X (ZeN X.K EX ZaC):=by
 intro pins s σ H x v vl vu lo hi sl Q I rx hs pl pu h
 obtain ⟨O,d,st,W,r,R⟩:=h
 unfold ZaC at R
 cases e:ZS st d with
 | none=>rw [e] at R; exact R.elim
 | some xs =>
  rw [e] at R
  obtain ⟨a,vs,rfl,q,rs⟩:=rdL W r e
  exact ZlO pins s σ H _ v vl vu lo hi sl Q I rx hs pl pu ⟨a,vs,rfl,q,fun p hp=>Run.now (k:=New X.K Q) R W p _ (rs.cut lo hi) hp⟩
noncomputable def ixD (d:D) (i:D) (st:Sto):Out D:=match i with
 | .int k=>match d with
  | .str z=>if z.length≤small then (match atI z.cps.toList k with
   | some c => .ok (.str ⟨#[c]⟩) st
   | none => .bad) else .bad
  | _=>match itemsOf st d with
   | some xs=>match atI xs k with
    | some x => .ok x st
    | none => .bad
   | none => .bad
 | _ => .bad
theorem Reps.atI {K:PySem.W.Frag} {O:List Addr} {H:Hp} {ds:List D} {vs:List V} {k:Int} {d:D} (r:Reps K O H ds vs) (h:L2.atI ds k=some d):∃ v,L2.atI vs k=some v∧Rep K O H d v:=by
 unfold L2.atI at h ⊢
 rw [← r.length]
 cases e:ixN ds.length k with
 | none=>rw [e] at h; cases h
 | some j =>
  rw [e] at h
  obtain ⟨v,h1,h2⟩:=r.get (i:=j) (d:=d) h
  exact ⟨v,h1,h2⟩
theorem ZmY:IxR X (rD2 X.K EX ixD):=by
 intro value slice pins s σ H x y v u Q I rx ry h hsub
 obtain ⟨O,d,i,st,W,rd,ri,R⟩:=h
 cases i with
 | int k =>
  rw [Rep.int_i] at ri
  subst ri
  have seq:∀ xs,itemsOf st d=some xs→Run X.K EX O H (match L2.atI xs k with
    | some x => .ok x st
    | none => .bad) (Val X.K Q)→wpAny (model X.prog X.w) X.A (subscriptTail value slice v u) (EP X pins σ Q) X.xe s:=by
   intro xs e1 R'
   clear R
   cases e2:L2.atI xs k with
   | none=>rw [e2] at R'; exact R'.elim
   | some z =>
    rw [e2] at R'
    by_cases hb:∃ zs,d = .tup zs
    ·obtain ⟨zs,rfl⟩:=hb
     simp only [itemsOf,Option.some.injEq] at e1
     subst e1
     rw [Rep.tup_i] at rd
     obtain ⟨p,vs,rfl,q,r⟩:=rd
     obtain ⟨w,h1,h2⟩:=r.atI e2
     exact ZgS value slice pins s σ H _ _ v u Q I rx ry ⟨p,vs,k,w,rfl,rfl,SqT.of q,h1,Run.now (k:=Val X.K Q) R' W _ h2⟩ hsub
    ·have e3:ZS st d=some xs:=by
      cases d <;> first | exact e1 | exact absurd ⟨_,rfl⟩ hb
     obtain ⟨p,vs,rfl,q,r⟩:=rdL W rd e3
     obtain ⟨w,h1,h2⟩:=r.atI e2
     exact ZkG value slice pins s σ H _ _ v u Q I rx ry ⟨p,vs,k,w,rfl,rfl,q,h1,Run.now (k:=Val X.K Q) R' W _ h2⟩ hsub
  cases d with
  | str z =>
   rw [Rep.str_i] at rd
   subst rd
   dsimp only [ixD] at R
   by_cases hz:z.length≤small
   ·rw [if_pos hz] at R
    cases e:L2.atI z.cps.toList k with
    | none=>rw [e] at R; exact R.elim
    | some c =>
     rw [e] at R
     exact Zki value slice pins s σ H _ _ v u Q I rx ry ⟨z,k,c,rfl,rfl,Nat.le_trans hz YE,e,Run.now (k:=Val X.K Q) R W _ (Rep.str_i.mpr rfl)⟩ hsub
   ·rw [if_neg hz] at R; exact R.elim
  | tup xs=>exact seq xs rfl R
  | lst xs=>exact seq xs rfl R
  | scr xs=>exact seq xs rfl R
  | res j =>
   dsimp only [ixD] at R
   cases e:itemsOf st (.res j) with
   | none=>rw [e] at R; exact R.elim
   | some xs=>rw [e] at R; exact seq xs e R
  | _=>exact R.elim
 | _=>exact R.elim
theorem ZV (ha:PD X EX a fa) (hb:PD X EX b fb) (hs:Zdr b:=by intro _ _; rfl):PD X EX (.Subscript a b pos) (Ze ixD fa fb):=PE.mono (Zlw ZmY ha hb hs) Zbu
noncomputable def Zk {α:Type} (g:List D→Sto→Out α) (f:DA):Ev→Sto→Out α:=fun ρ st=>(f ρ st).bind g
theorem Ze1 {g:List D→Sto→Out D} {f:DA}:∀ σ H Q,tD X.K EX (Zk g f) σ H Q→tCB (rDC X.K EX g) (tDA X.K EX f) σ H Q:=by
 rintro σ H Q ⟨O,ρ,st,W,E,R⟩
 exact ⟨O,ρ,st,W,E,R.bind.mono fun ds st1 O1 H1 k1 W1 R1 vs r=>⟨O1,ds,st1,W1,r,R1⟩⟩
theorem ZbS {g:List D→Sto→Out (List D)} {f:DA}:∀ σ H Q,tDF X.K EX (Zk g f) σ H Q→tCB (ZgB X.K EX g) (tDA X.K EX f) σ H Q:=by
 rintro σ H Q ⟨O,ρ,st,W,E,R⟩
 exact ⟨O,ρ,st,W,E,R.bind.mono fun ds st1 O1 H1 k1 W1 R1 vs r=>⟨O1,ds,st1,W1,r,R1⟩⟩
theorem YJ {x : Str} {p : Pos} {es : List Expr} {id : String} {g : List D → Sto → Out D} {f : DA} (hc : QN X EX (.builtin id) g) (hg : Gl X x) (hm : X.mg x = none) (hv : bootBuiltins x = some (.builtin id)) (ha : PDA X EX (e :: es) f) (hn : x ≠ "__name__" := by decide) (hdb : (x == ("__debug__" : Str)) = false := by decide)
  (he:starEach (e :: es) X.env=(false,eval e X.env) :: starEach es X.env:=by rfl) (hpl:(backTo pos (starEach es X.env)).any (·.1)=false:=by rfl):PD X EX (.Call (.Name x p) (e :: es) [] pos) (Zk g f):=PE.mono (ZcD hc hg hm hv ha hn hdb he hpl) Ze1
theorem QC {x : Str} {p : Pos} {es : List Expr} {T : String} {g : List D → Sto → Out D} {f : DA} (hc : QN X EX (.type T) g) (hg : Gl X x) (hm : X.mg x = none) (hv : bootBuiltins x = some (.type T)) (ha : PDA X EX (e :: es) f) (hn : x ≠ "__name__" := by decide) (hdb : (x == ("__debug__" : Str)) = false := by decide)
  (he:starEach (e :: es) X.env=(false,eval e X.env) :: starEach es X.env:=by rfl) (hpl:(backTo pos (starEach es X.env)).any (·.1)=false:=by rfl):PD X EX (.Call (.Name x p) (e :: es) [] pos) (Zk g f):=PE.mono (Zds hc hg hm hv ha hn hdb he hpl) Ze1
theorem Zd8 {x : Str} {p : Pos} {es : List Expr} {T : String} {g : List D → Sto → Out (List D)} {f : DA} (hc : Za3 X EX (.type T) g) (hg : Gl X x) (hm : X.mg x = none) (hv : bootBuiltins x = some (.type T)) (ha : PDA X EX (e :: es) f) (hn : x ≠ "__name__" := by decide) (hdb : (x == ("__debug__" : Str)) = false := by decide)
  (he:starEach (e :: es) X.env=(false,eval e X.env) :: starEach es X.env:=by rfl) (hpl:(backTo pos (starEach es X.env)).any (·.1)=false:=by rfl):PDF X EX (.Call (.Name x p) (e :: es) [] pos) (Zk g f):=PE.mono (Zds hc hg hm hv ha hn hdb he hpl) ZbS
noncomputable def ZO:List D→Sto→Out D
 | [.str x],st=>if x.length≤small then .ok (.int x.length) st else .bad
 | [d],st=>match itemsOf st d with
  | some xs => .ok (.int xs.length) st
  | none => .bad
 | _,_ => .bad
theorem Zc5 {O:List Addr} {H:Hp} {st:Sto} (W:WR X.K O H st) {d:D} {v:V} {xs:List D} (r:Rep X.K O H d v) (e:itemsOf st d=some xs):∃ p vs,v = .ref p∧(SqL X.K H p vs∨H p=some (.tup vs))∧Reps X.K O H xs vs:=by
 by_cases hb:∃ zs,d = .tup zs
 ·obtain ⟨zs,rfl⟩:=hb
  simp only [itemsOf,Option.some.injEq] at e
  subst e
  rw [Rep.tup_i] at r
  obtain ⟨p,vs,rfl,q,r⟩:=r
  exact ⟨p,vs,rfl,.inr q,r⟩
 ·have e3:ZS st d=some xs:=by
   cases d <;> first | exact e | exact absurd ⟨_,rfl⟩ hb
  obtain ⟨p,vs,rfl,q,r⟩:=rdL W r e3
  exact ⟨p,vs,rfl,.inl q,r⟩
theorem Reps.one_of {K:PySem.W.Frag} {O:List Addr} {H:Hp} {d:D} {vs:List V} (h:Reps K O H [d] vs):∃ v,vs=[v]∧Rep K O H d v:=by
 obtain ⟨v,r,rfl,q,t⟩:=Reps.cons_i.mp h
 rw [Reps.nil_i] at t
 subst t
 exact ⟨v,rfl,q⟩
theorem YK : QN X EX (.builtin "len") ZO := by
 intro pins s σ H xs us Q I rx h
 obtain ⟨O,ds,st,W,r,R⟩:=h
 match ds,r,R with
 | [],_,R=>exact R.elim
 | [d],r,R =>
  obtain ⟨v,rfl,rv⟩:=r.one_of
  have seq : ∀ zs, itemsOf st d = some zs → Run X.K EX O H (.ok (.int zs.length) st) (Val X.K Q) → wpAny (model X.prog X.w) X.A (PySem.call (.builtin "len") us) (EP X pins σ Q) X.xe s := by
   intro zs e R
   obtain ⟨p,vs,rfl,q,rs⟩:=Zc5 W rv e
   exact ZkC pins s σ H _ us Q I rx ⟨p,vs,rfl,q.imp_right SqT.of,by rw [← rs.length]; exact Run.now (k:=Val X.K Q) R W _ (Rep.int_i.mpr rfl)⟩
  cases d with
  | str x =>
   rw [Rep.str_i] at rv
   subst rv
   dsimp only [ZO] at R
   by_cases hz:x.length≤small
   ·rw [if_pos hz] at R
    exact Zl4 pins s σ H _ us Q I rx ⟨x,rfl,Nat.le_trans hz YE,Run.now (k:=Val X.K Q) R W _ (Rep.int_i.mpr rfl)⟩
   ·rw [if_neg hz] at R; exact R.elim
  | tup zs=>exact seq zs rfl R
  | lst zs=>exact seq zs rfl R
  | scr zs=>exact seq zs rfl R
  | res j =>
   dsimp only [ZO] at R
   cases e:itemsOf st (.res j) with
   | none=>rw [e] at R; exact R.elim
   | some xs=>rw [e] at R; exact seq xs e R
  | _=>exact R.elim
 | d1 :: _ :: _,_,R=>cases d1 <;> exact R.elim
noncomputable def Zad:List D→Sto→Out (List D)
 | [d],st=>match itemsOf st d with
  | some xs => .ok xs st
  | none => .bad
 | _,_ => .bad
noncomputable def YN:List D→Sto→Out D
 | [d],st=>match itemsOf st d with
  | some xs => .ok (.tup xs) st
  | none => .bad
 | _,_ => .bad
theorem Zgb : Za3 X EX (.type "list") Zad := by
 intro pins s σ H xs us Q I rx h
 obtain ⟨O,ds,st,W,r,R⟩:=h
 match ds,r,R with
 | [],_,R=>exact R.elim
 | [d],r,R =>
  obtain ⟨v,rfl,rv⟩:=r.one_of
  dsimp only [Zad] at R
  cases e:itemsOf st d with
  | none=>rw [e] at R; exact R.elim
  | some zs =>
   rw [e] at R
   obtain ⟨p,vs,rfl,q,rs⟩:=Zc5 W rv e
   exact ZgR pins s σ H _ us Q I rx ⟨p,vs,rfl,q.imp_right SqT.of,fun l hl=>Run.now (k:=New X.K Q) R W l _ rs hl⟩
 | _ :: _ :: _,_,R=>exact R.elim
theorem Zbz : QN X EX (.type "tuple") YN := by
 intro pins s σ H xs us Q I rx h
 obtain ⟨O,ds,st,W,r,R⟩:=h
 match ds,r,R with
 | [],_,R=>exact R.elim
 | [d],r,R =>
  obtain ⟨v,rfl,rv⟩:=r.one_of
  dsimp only [YN] at R
  cases e:itemsOf st d with
  | none=>rw [e] at R; exact R.elim
  | some zs =>
   rw [e] at R
   obtain ⟨p,vs,rfl,q,rs⟩:=Zc5 W rv e
   rcases q with q | q
   ·exact Zd6 pins s σ H _ us Q I rx ⟨p,vs,rfl,.inl ⟨q,fun l hl=>QP W rs hl R⟩⟩
   ·exact Zd6 pins s σ H _ us Q I rx ⟨p,vs,rfl,.inr ⟨SqT.of q,Run.now (k:=Val X.K Q) R W _ (Rep.tup_i.mpr ⟨p,vs,rfl,q,rs⟩)⟩⟩
 | _ :: _ :: _,_,R=>exact R.elim
noncomputable def intD:List D→Sto→Out D
 | [.int i],st => .ok (.int i) st
 | [.bl k],st => .ok (.int (if k then 1 else 0)) st
 | _,_ => .bad
theorem Zf4 : QN X EX (.type "int") intD := by
 intro pins s σ H xs us Q I rx h
 obtain ⟨O,ds,st,W,r,R⟩:=h
 unfold intD at R
 split at R
 ·obtain ⟨v,rfl,r1⟩:=r.one_of
  rw [Rep.int_i] at r1
  subst r1
  exact Zgj pins s σ H _ us Q I rx (.inl ⟨_,rfl,Run.now (k:=Val X.K Q) R W _ (Rep.int_i.mpr rfl)⟩)
 ·obtain ⟨v,rfl,r1⟩:=r.one_of
  rw [Rep.bl_i] at r1
  subst r1
  exact Zgj pins s σ H _ us Q I rx (.inr ⟨_,rfl,Run.now (k:=Val X.K Q) R W _ (Rep.int_i.mpr rfl)⟩)
 ·exact R.elim
end
end DL
end
section
namespace DL
open PySem PySem.Spec PyProof.Rows L2
noncomputable abbrev FD:=List D→Sto→Out D
noncomputable def spD (K:PySem.W.Frag) (F:FD):Sp:=fun vs H Q E => ∃ O ds st,WR K O H st∧Reps K O H ds vs∧Run K (fun c _ _ H'=>E (.ref c) Option.none H') O H (F ds st) (Val K Q)
noncomputable def eOf (EX:EXT):XK:=fun Cv _ H' => ∃ c st O',Cv = .ref c∧EX c st O' H'
noncomputable abbrev Zdq (CX:CXT) (X:Cx) (EX:EXT):Prop:=Zc3 CX X (eOf EX)
theorem xe0 {X:Cx} {EX:EXT}:Zdq CX0 X EX:=fun _ _ _ _ _ _ _ h=>h.elim
theorem Run.ex {K:PySem.W.Frag} {EX EX':EXT} {α:Type} {O:List Addr} {H:Hp} {r:Out α} {k:α→Sto→List Addr→Hp→Prop} (h:Run K EX O H r k) (f:∀ c st O' H',EX c st O' H'→EX' c st O' H'):Run K EX' O H r k:=by
 cases r with
 | ok a st=>exact h
 | exc c st=>exact fun O' H' kp W=>f _ _ _ _ (h O' H' kp W)
 | bad=>exact h
theorem Run.eOf {K:PySem.W.Frag} {EX:EXT} {α:Type} {O:List Addr} {H:Hp} {r:Out α} {k:α→Sto→List Addr→Hp→Prop} (h:Run K EX O H r k):Run K (fun c _ _ H'=>eOf EX (.ref c) Option.none H') O H r k :=
 h.ex fun c st O' H' z=>⟨c,st,O',rfl,z⟩
noncomputable def ZcA (f:Str) (d:D):List (Str×D)→List (Str×D)
 | []=>[(f,d)]
 | (g,x) :: r=>if g=f then (g,d) :: r else (g,x) :: ZcA f d r
theorem Flds.put {K:PySem.W.Frag} {O:List Addr} {H:Hp} {f:Str} {d:D} {v:V} (q:Rep K O H d v):∀ {ds:List (Str×D)} {vs:List (Str×V)},Flds K O H ds vs→Flds K O H (ZcA f d ds) (Zbm f v vs)
 | [],vs,h=>by
  unfold Flds at h
  subst h
  show Flds K O H [(f,d)] [(f,v)]
  unfold Flds
  exact ⟨v,[],rfl,q,by unfold Flds; rfl⟩
 | (x,e) :: ds,vs,h=>by
  unfold Flds at h
  obtain ⟨u,r,rfl,q',t⟩:=h
  unfold ZcA Zbm
  by_cases hx:x=f
  ·rw [if_pos hx,if_pos hx]
   unfold Flds
   exact ⟨v,r,rfl,q,t⟩
  ·rw [if_neg hx,if_neg hx]
   unfold Flds
   exact ⟨u,Zbm f v r,rfl,q',Flds.put q t⟩
theorem Flds.length {K:PySem.W.Frag} {O:List Addr} {H:Hp}:∀ {ds:List (Str×D)} {vs:List (Str×V)},Flds K O H ds vs→ds.length=vs.length
 | [],vs,h=>by unfold Flds at h; subst h; rfl
 | (x,e) :: ds,vs,h=>by
  unfold Flds at h
  obtain ⟨u,r,rfl,q',t⟩:=h
  rw [List.length_cons,List.length_cons,Flds.length t]
section
variable {X:Cx} {EX:EXT} {a b c e o:Expr} {fa fb fc fo:DE} {pos p apos:Pos} {ta tb:DT} {CX:CXT} {k:Nat} {f C:Addr} {fd:FuncData} {ps:List Str} {n:Nat} {F:FD} {x m:Str} {es:List Expr} {g:DA}
theorem ZhB (G:FnOk X.prog X.w X.K X.mg X.base CX k f fd ps (spD X.K F)) (hr:Room k X.A) (hg:Gl X x) (hm:X.mg x=some (.ref f)) (hk:PySem.W.keepIn X.K (.ref f)=true) (hb:Binds X.K fd ps []) (hx:Zdq CX X EX) (ha:PDA X EX (e :: es) g)
  (hdb : (x == ("__debug__" : Str)) = false := by decide) (he : starEach (e :: es) X.env = (false, eval e X.env) :: starEach es X.env := by rfl) (hpl : (backTo pos (starEach es X.env)).any (·.1) = false := by rfl) :
  PD X EX (.Call (.Name x p) (e :: es) [] pos) (Zk F g):=by
 refine PE.mono (ZmR G hr hg hm hk hb .nil hx ha hdb he hpl) ?_
 rintro σ H Q ⟨O,ρ,st,W,E,R⟩
 refine ⟨O,ρ,st,W,E,R.bind.mono fun ds st1 O1 H1 k1 W1 R2 vs r => ?_⟩
 dsimp only
 rw [List.append_nil]
 exact ⟨O1,ds,st1,W1,r,R2.eOf⟩
end
inductive OutS where
 | nx (ρ:Ev) (st:Sto) | rt (d:D) (st:Sto) | bk (ρ:Ev) (st:Sto) | ct (ρ:Ev) (st:Sto) | exc (c:Addr) (st:Sto) | bad
noncomputable abbrev DS:=Ev→Sto→OutS
noncomputable def RunS (K:PySem.W.Frag) (EX:EXT) (Dn:Ends) (O:List Addr) (H:Hp):OutS→Prop
 | .nx ρ st => ∀ O' H' σ,Keep K O H O' H'→WR K O' H' st→REnv K O' H' ρ σ→Dn.nx σ H'
 | .bk ρ st => ∀ O' H' σ,Keep K O H O' H'→WR K O' H' st→REnv K O' H' ρ σ→Dn.bk σ H'
 | .ct ρ st => ∀ O' H' σ,Keep K O H O' H'→WR K O' H' st→REnv K O' H' ρ σ→Dn.ct σ H'
 | .rt d st => ∀ O' H' v,Keep K O H O' H'→WR K O' H' st→Rep K O' H' d v→Dn.rt v H'
 | .exc c st => ∀ O' H',Keep K O H O' H'→WR K O' H' st→EX c st O' H'
 | .bad=>False
noncomputable def tDS (K:PySem.W.Frag) (EX:EXT) (g:DS):TS:=fun Dn σ H => ∃ O ρ st,WR K O H st∧REnv K O H ρ σ∧RunS K EX Dn O H (g ρ st)
noncomputable def PDs (X:Cx) (EX:EXT) (s:Stmt) (g:DS):Prop:=PS X s (tDS X.K EX g)
noncomputable def PDS (X:Cx) (EX:EXT) (ss:List Stmt) (g:DS):Prop:=PSs X ss (tDS X.K EX g)
theorem RunS.later {K:PySem.W.Frag} {EX:EXT} {Dn:Ends} {O O':List Addr} {H H':Hp} {r:OutS} (h:RunS K EX Dn O H r) (kp:Keep K O H O' H'):RunS K EX Dn O' H' r:=by
 cases r with
 | bad=>exact h
 | exc c st=>exact fun O2 H2 k2 W2=>h O2 H2 (kp.trans k2) W2
 | rt d st=>exact fun O2 H2 v k2 W2 r2=>h O2 H2 v (kp.trans k2) W2 r2
 | nx ρ st=>exact fun O2 H2 v k2 W2 r2=>h O2 H2 v (kp.trans k2) W2 r2
 | bk ρ st=>exact fun O2 H2 v k2 W2 r2=>h O2 H2 v (kp.trans k2) W2 r2
 | ct ρ st=>exact fun O2 H2 v k2 W2 r2=>h O2 H2 v (kp.trans k2) W2 r2
noncomputable def Out.to {α:Type} (r:Out α) (k:α→Sto→OutS):OutS:=match r with
 | .ok a st=>k a st
 | .exc c st => .exc c st
 | .bad => .bad
theorem RunS.to {K:PySem.W.Frag} {EX:EXT} {Dn:Ends} {α:Type} {O:List Addr} {H:Hp} {r:Out α} {g:α→Sto→OutS} (h:RunS K EX Dn O H (r.to g)):Run K EX O H r (fun a st O' H'=>RunS K EX Dn O' H' (g a st)):=by
 cases r with
 | ok a st=>exact fun O' H' kp W=>RunS.later (r:=g a st) h kp
 | exc c st=>exact h
 | bad=>exact h
section
variable {X:Cx} {EX:EXT} {a b c e o tg:Expr} {fa fb fc fo:DE} {pos p apos:Pos} {ta tb:DT} {s:Stmt} {ss:List Stmt} {g g':DS} {x:Str} {C:Addr}
noncomputable def Z8:DS:=fun ρ st => .nx ρ st
noncomputable def Zl (g g':DS):DS:=fun ρ st=>match g ρ st with
 | .nx ρ' st'=>g' ρ' st'
 | r=>r
theorem Ym:PDS X EX [] Z8:=by
 refine PSs.mono Zky ?_
 rintro Dn σ H ⟨O,ρ,st,W,E,R⟩
 exact R O H σ Keep.refl W E
theorem Zr (h1:PDs X EX s g) (h2:PDS X EX ss g'):PDS X EX (s :: ss) (Zl g g'):=by
 refine PSs.mono (ZkR h1 h2) ?_
 rintro Dn σ H ⟨O,ρ,st,W,E,R⟩
 refine ⟨O,ρ,st,W,E,?_⟩
 unfold Zl at R
 cases hg:g ρ st with
 | nx ρ' st' =>
  rw [hg] at R
  exact fun O' H' σ' kp W' E'=>⟨O',ρ',st',W',E',RunS.later R kp⟩
 | _=>rw [hg] at R; exact R
theorem Zm (h1:PDs X EX s g):PDS X EX [s] g:=Zj2 h1
noncomputable def Y4 (f:DE):DS:=fun ρ st=>(f ρ st).to fun _ st1 => .nx ρ st1
theorem WW (he:PD X EX e fa) (hs:swapsWith e none pos.line X.env=pure false:=by rfl):PDs X EX (.Expr e pos) (Y4 fa):=by
 refine PS.mono (Zla he hs) ?_
 rintro Dn σ H ⟨O,ρ,st,W,E,R⟩
 exact ⟨O,ρ,st,W,E,R.to.mono fun d st1 O1 H1 k1 W1 R1 v r=>R1 O1 H1 σ Keep.refl W1 (E.mono k1)⟩
noncomputable def ZE (f:DE):DS:=fun ρ st=>(f ρ st).to fun d st1 => .rt d st1
theorem ZN (he:PD X EX e fa):PDs X EX (.Return (some e) pos) (ZE fa):=by
 refine PS.mono (ZkO he) ?_
 rintro Dn σ H ⟨O,ρ,st,W,E,R⟩
 exact ⟨O,ρ,st,W,E,R.to.mono fun d st1 O1 H1 k1 W1 R1 v r=>R1 O1 H1 v Keep.refl W1 r⟩
noncomputable def sIf (t:DT) (g g':DS):DS:=fun ρ st=>(t ρ st).to fun x st1=>if x=true then g ρ st1 else g' ρ st1
theorem Yd {sa sb:List Stmt} (hc:PDT X EX c ta) (ha:PDS X EX sa g) (hb:PDS X EX sb g'):PDs X EX (.If c sa sb pos) (sIf ta g g'):=by
 refine PS.mono (Zj7 hc ha hb) ?_
 rintro Dn σ H ⟨O,ρ,st,W,E,R⟩
 refine ⟨O,ρ,st,W,E,R.to.mono fun x st1 O1 H1 k1 W1 R1 => ?_⟩
 cases x with
 | true=>exact ⟨O1,ρ,st1,W1,E.mono k1,R1⟩
 | false=>exact ⟨O1,ρ,st1,W1,E.mono k1,R1⟩
noncomputable def Zw (i:Nat) (f:DE):DS:=fun ρ st=>(f ρ st).to fun d st1 => .nx (ρ.set i (some d)) st1
theorem ZW (i:Nat) {pos':Pos} (hN:X.N.Nodup) (hi:X.N[i]?=some x) (hx:Loc X.env.scope x) (he:PD X EX e fa) (hs:swapsWith e (some (.Name x pos')) pos.line X.env=pure false:=by rfl)
  (hf:X.fn x=true∨X.env.scope.names.lookup x=some .local:=by first | exact .inl rfl | exact .inr rfl | assumption):PDs X EX (.Assign [.Name x pos'] e pos) (Zw i fa):=by
 refine PS.mono (ZeO hN hi hx he hs hf) ?_
 rintro Dn σ H ⟨O,ρ,st,W,E,R⟩
 exact ⟨O,ρ,st,W,E,R.to.mono fun d st1 O1 H1 k1 W1 R1 v r=>R1 O1 H1 _ Keep.refl W1 ((E.mono k1).set r)⟩
noncomputable def Yj (i:Nat) (f:DA):DS:=fun ρ st=>(f ρ st).to fun ds st1 => .nx (ρ.set i (some (.res st1.length))) (st1++[.lst ds])
theorem WO (i:Nat) {f:DA} {pos':Pos} (hN:X.N.Nodup) (hi:X.N[i]?=some x) (hx:Loc X.env.scope x) (he:PDF X EX e f) (hs:swapsWith e (some (.Name x pos')) pos.line X.env=pure false:=by rfl)
  (hf:X.fn x=true∨X.env.scope.names.lookup x=some .local:=by first | exact .inl rfl | exact .inr rfl | assumption):PDs X EX (.Assign [.Name x pos'] e pos) (Yj i f):=by
 refine PS.mono (ZeO hN hi hx he hs hf) ?_
 rintro Dn σ H ⟨O,ρ,st,W,E,R⟩
 exact ⟨O,ρ,st,W,E,R.to.mono fun ds st1 O1 H1 k1 W1 R1 p vs r hp=>R1 (O1++[p]) _ _ (Keep.push hp) (W1.push hp r) ((E.mono (k1.trans (Keep.push hp))).set (ZlK W1.len))⟩
noncomputable def ZQ (N n:Nat) (g:DS):FD:=fun ds st=>if ds.length=n then (match g (ds.map some++List.replicate (N - n) none) st with
 | .nx _ st' => .ok .non st'
 | .rt d st' => .ok d st'
 | _ => .bad) else .bad
end
section
variable {P:Program} {w:World} {K:PySem.W.Frag} {mg:Str→Option Value} {base:Heap}
theorem ZhP {O:List Addr} {H:Hp} {N:List Str}:∀ {ds:List D} {vs:List V} (m:Nat),Reps K O H ds vs→REnv K O H (ds.map some++List.replicate m none) (vs.map some++List.replicate m none):=by
 intro ds vs m r
 refine ⟨by simp [r.length],fun i d h => ?_⟩
 by_cases hi:i<ds.length
 ·rw [List.getElem?_append_left (by simpa using hi)] at h
  rw [List.getElem?_map] at h
  cases e:ds[i]? with
  | none=>rw [e] at h; cases h
  | some d' =>
   rw [e] at h
   simp only [Option.map_some,Option.some.injEq] at h
   subst h
   obtain ⟨v,h1,h2⟩:=r.get e
   exact ⟨v,by rw [List.getElem?_append_left (by rw [List.length_map,← r.length]; exact hi),List.getElem?_map,h1]; rfl,h2⟩
 ·rw [List.getElem?_append_right (by rw [List.length_map]; omega),List.getElem?_replicate] at h
  split at h <;> cases h
theorem fnD {x qual:Str} {st:Stmt} {f:Addr} {fd:FuncData} {N ps:List Str} {k:Nat} {g:DS} (F:Fun K x qual st f fd) (S:FnScope N ps (Zi st))
  (hbody:∀ (cdv:Value) (A:Around) (outer:List Env) (s:Shared) (H:Hp) (E:XK),Room k (A.deeper (envOfC qual (Zi st) s.heap.objs.size f cdv)) →
   PDS (Z1 CX0 P w K mg base N qual (Zi st) f cdv A outer s H E).nox EX0 (Zv st) g):FnOk P w K mg base CX0 (k+1) f fd ps (spD K (ZQ N.length ps.length g)):=by
 have hlen:∀ vs H Q E,spD K (ZQ N.length ps.length g) vs H Q E→vs.length=ps.length:=by
  rintro vs H Q E ⟨O,ds,st,W,r,R⟩
  unfold ZQ at R
  by_cases hl:ds.length=ps.length
  ·rw [← r.length]; exact hl
  ·rw [if_neg hl] at R; exact R.elim
 refine F.ok S hlen fun cdv A outer s H vs Q E hr h => ?_
 refine ⟨_,hbody cdv A outer s H E hr,?_⟩
 have hl:=hlen vs H Q E h
 obtain ⟨O,ds,st,W,r,R⟩:=h
 have hd:ds.length=ps.length:=by rw [r.length]; exact hl
 unfold ZQ at R
 rw [if_pos hd] at R
 refine ⟨O,ds.map some++List.replicate (N.length - ps.length) none,st,W,?_,?_⟩
 ·unfold L2.start
  rw [hl]
  exact ZhP (N:=N) _ r
 ·cases hg:g (ds.map some++List.replicate (N.length - ps.length) none) st with
  | nx ρ st'=>rw [hg] at R; exact fun O' H' σ kp W' _=>R O' H' kp W' _ (Rep.non_i.mpr rfl)
  | rt d st'=>rw [hg] at R; exact fun O' H' v kp W' rv=>R O' H' kp W' v rv
  | exc c st'=>rw [hg] at R; exact R.elim
  | bad=>rw [hg] at R; exact R
  | bk ρ st'=>rw [hg] at R; exact R.elim
  | ct ρ st'=>rw [hg] at R; exact R.elim
end
end DL
end
section
namespace DL
open PySem PySem.Spec PyProof.Rows L2
noncomputable abbrev TgD:=D→Ev→Option Ev
noncomputable def tgD (K:PySem.W.Frag) (t:TgD):TG:=fun v σ H Q => ∃ O d ρ ρ',Rep K O H d v∧REnv K O H ρ σ∧t d ρ=some ρ'∧∀ σ',REnv K O H ρ' σ'→Q σ' H
noncomputable def PGD (X:Cx) (tg:Expr) (t:TgD):Prop:=PG X tg (tgD X.K t)
theorem PG.mono {X:Cx} {tg:Expr} {t t':TG} (h:PG X tg t) (f:∀ v σ H Q,t' v σ H Q→t v σ H Q):PG X tg t':=fun pins s σ H v u Q I r q=>h pins s σ H v u Q I r (f v σ H Q q)
theorem PGs.mono {X:Cx} {tg:List Expr} {t t':TGs} (h:PGs X tg t) (f:∀ v σ H Q,t' v σ H Q→t v σ H Q):PGs X tg t':=fun pins s σ H v u Q I r q=>h pins s σ H v u Q I r (f v σ H Q q)
noncomputable def Zp (i:Nat):TgD:=fun d ρ=>some (ρ.set i (some d))
noncomputable def Zch:List Nat→List D→Ev→Ev
 | i :: is,d :: ds,ρ=>Zch is ds (ρ.set i (some d))
 | _,_,ρ=>ρ
noncomputable def ZaY (K:PySem.W.Frag) (is:List Nat):TGs:=fun vs σ H Q => ∃ O ds ρ,Reps K O H ds vs∧REnv K O H ρ σ∧ds.length=is.length∧∀ σ',REnv K O H (Zch is ds ρ) σ'→Q σ' H
noncomputable def Q7 (is:List Nat):TgD
 | .tup ds,ρ=>if ds.length=is.length then some (Zch is ds ρ) else none
 | _,_=>none
section
variable {X:Cx} {EX:EXT} {pos:Pos} {x:Str}
theorem Z9 (i:Nat) (hN:X.N.Nodup) (hi:X.N[i]?=some x) (hx:Loc X.env.scope x) (hf:X.fn x=true∨X.env.scope.names.lookup x=some .local:=by first | exact .inl rfl | exact .inr rfl | assumption):PGD X (.Name x pos) (Zp i):=by
 refine PG.mono (Zf1 hN hi hx hf) ?_
 rintro v σ H Q ⟨O,d,ρ,ρ',r,E,ht,q⟩
 cases ht
 exact q _ (E.set r)
theorem Zdz:PGs X [] (ZaY X.K []):=by
 refine PGs.mono Zho ?_
 rintro vs σ H Q ⟨O,ds,ρ,r,E,hl,q⟩
 have e:ds=[]:=List.length_eq_zero_iff.mp hl
 subst e
 rw [Reps.nil_i] at r
 exact ⟨r,q _ E⟩
theorem Zbc (i:Nat) {is:List Nat} {es:List Expr} (hN:X.N.Nodup) (hi:X.N[i]?=some x) (hx:Loc X.env.scope x) (h2:PGs X es (ZaY X.K is)) (hf:X.fn x=true∨X.env.scope.names.lookup x=some .local:=by first | exact .inl rfl | exact .inr rfl | assumption)
  (hs:(assignEach (.Name x pos :: es) X.env).map (·.2)=assign (.Name x pos) X.env :: (assignEach es X.env).map (·.2):=by rfl):PGs X (.Name x pos :: es) (ZaY X.K (i :: is)):=by
 refine PGs.mono (ZkP (Zf1 hN hi hx hf) h2 hs) ?_
 rintro vs σ H Q ⟨O,ds,ρ,r,E,hl,q⟩
 cases ds with
 | nil=>cases hl
 | cons d ds =>
  obtain ⟨v,vs',rfl,q1,t⟩:=Reps.cons_i.mp r
  exact ⟨v,vs',rfl,O,ds,_,t,E.set q1,by simpa using hl,q⟩
theorem ZgO {is:List Nat} {es:List Expr} {k:Nat} (hc:X.calm=true) (h:PGs X es (ZaY X.K is)) (hn:(assignEach es X.env).length=is.length:=by rfl) (hst:(assignEach es X.env).findIdx? (·.1)=none:=by rfl):PGD X (.Tuple es k pos) (Q7 is):=by
 refine PG.mono (Zmm hc h hn hst) ?_
 rintro v σ H Q ⟨O,d,ρ,ρ',r,E,ht,q⟩
 cases d with
 | tup ds =>
  dsimp only [Q7] at ht
  by_cases hl:ds.length=is.length
  ·rw [if_pos hl] at ht
   cases ht
   rw [Rep.tup_i] at r
   obtain ⟨a,vs,rfl,hq,rs⟩:=r
   exact ⟨a,vs,rfl,SqT.of hq,by rw [← rs.length]; exact hl,O,ds,ρ,rs,E,hl,q⟩
  ·rw [if_neg hl] at ht; cases ht
 | _=>cases ht
end
noncomputable abbrev Wk:=List D×(Sto→Prop)
noncomputable def ItD (K:PySem.W.Frag) (J:It) (O0:List Addr) (H0:Hp) (q:Wk):Prop :=
 ∀ (i:Nat) (O:List Addr) (H:Hp) (st:Sto),Keep K O0 H0 O H→WR K O H st→q.2 st →
  (∀ d,q.1[i]?=some d→J.go i H∧∀ x H',J.yld i H x H'→Keep K O H O H'∧WR K O H' st∧Rep K O H' d x)∧(q.1.length≤i→J.stop i H)
noncomputable abbrev DI:=Ev→Sto→Out Wk
noncomputable def wiD (K:PySem.W.Frag) (EX:EXT) (f:DI):TI:=fun σ H R => ∃ O ρ st,WR K O H st∧REnv K O H ρ σ∧Run K EX O H (f ρ st) (fun q _ O' H' => ∀ J,ItD K J O' H' q→R J H')
noncomputable def PID (X:Cx) (EX:EXT) (tg iter:Expr) (f:DI):Prop:=PI X tg iter (wiD X.K EX f)
theorem PI.mono {X:Cx} {tg it:Expr} {t t':TI} (h:PI X tg it t) (f:∀ σ H Q,t' σ H Q→t σ H Q):PI X tg it t':=fun pins s σ H Q I q=>h pins s σ H Q I (f σ H Q q)
theorem PI.or {X:Cx} {tg it:Expr} {t t':TI} (h:PI X tg it t) (h':PI X tg it t'):PI X tg it (fun σ H R=>t σ H R∨t' σ H R):=fun pins s σ H Q I q=>by
 rcases q with q | q
 ·exact h pins s σ H Q I q
 ·exact h' pins s σ H Q I q
section
variable {K:PySem.W.Frag} {O:List Addr} {H:Hp} {st:Sto}
theorem Zkn {a:Addr} {vs:List V} {xs:List D} {P:Sto→Prop} (q:H a=some (.tup vs)) (r:Reps K O H xs vs):ItD K (Itt K a) O H (xs,P):=by
 intro i O' H' st' kp W' _
 refine ⟨fun d hd => ?_,fun hl=>⟨vs,SqT.of (kp.tup _ _ q),by rw [← r.length]; exact hl⟩⟩
 obtain ⟨v,h1,h2⟩:=r.get hd
 refine ⟨⟨vs,v,SqT.of (kp.tup _ _ q),h1⟩,?_⟩
 rintro x H2 ⟨rfl,h3⟩
 have h4:=h3 vs (SqT.of (kp.tup _ _ q))
 rw [h1] at h4
 cases h4
 exact ⟨Keep.refl,W',Rep.mono kp _ _ h2⟩
theorem ZmU {a:Addr} {xs:List D} {P:Sto→Prop} (h:∀ (O':List Addr) (H':Hp) (st':Sto),Keep K O H O' H'→WR K O' H' st'→P st'→∃ vs,SqL K H' a vs∧Reps K O' H' xs vs):ItD K (Itl K a) O H (xs,P):=by
 intro i O' H' st' kp W' hp
 obtain ⟨vs,q,r⟩:=h O' H' st' kp W' hp
 refine ⟨fun d hd => ?_,fun hl=>⟨vs,q,by rw [← r.length]; exact hl⟩⟩
 obtain ⟨v,h1,h2⟩:=r.get hd
 refine ⟨⟨vs,v,q,h1⟩,?_⟩
 rintro x H2 ⟨rfl,h3⟩
 have h4:=h3 vs q
 rw [h1] at h4
 cases h4
 exact ⟨Keep.refl,W',h2⟩
theorem Zmi {lo:Int} {n:Nat} {P:Sto→Prop}:ItD K (Itr lo n) O H ((List.range n).map (fun (i:Nat)=>D.int (lo+i)),P):=by
 intro i O' H' st' kp W' hp
 refine ⟨fun d hd => ?_,fun hl=>(show n≤i by simpa using hl)⟩
 have hi:i<n:=by
  have:=(List.getElem?_eq_some_iff.mp hd).1
  simpa using this
 have e:d=D.int (lo+i):=by
  rw [List.getElem?_map,List.getElem?_range hi] at hd
  simpa using hd.symm
 subst e
 refine ⟨hi,?_⟩
 rintro x H2 ⟨rfl,rfl⟩
 exact ⟨Keep.refl,W',Rep.int_i.mpr rfl⟩
end
section
variable {X:Cx} {EX:EXT} {tg e a b:Expr} {f:DE} {g:DA} {pos p:Pos}
noncomputable def ZI (f:DE):DI:=fun ρ st=>(f ρ st).bind fun d st1=>match itemsOf st1 d with
 | some xs => .ok (xs,fun st=>itemsOf st d=some xs) st1
 | none => .bad
theorem Yh (h:PD X EX e f):PID X EX tg e (ZI f):=by
 refine PI.mono (PI.or (ZhE h) (ZiQ h)) ?_
 rintro σ H R ⟨O,ρ,st,W,E,R0⟩
 have R1:=R0.bind
 cases hf:f ρ st with
 | bad=>rw [hf] at R1; exact R1.elim
 | exc c st' =>
  rw [hf] at R1
  exact .inl ⟨O,ρ,st,W,E,by rw [hf]; exact R1⟩
 | ok d st' =>
  rw [hf] at R1
  by_cases hb:∃ zs,d = .tup zs
  ·obtain ⟨zs,rfl⟩:=hb
   refine .inl ⟨O,ρ,st,W,E,?_⟩
   rw [hf]
   intro O1 H1 k1 W1 v r
   have R2:=R1 O1 H1 k1 W1
   rw [Rep.tup_i] at r
   obtain ⟨q,vs,rfl,hq,rs⟩:=r
   exact ⟨q,rfl,⟨vs,SqT.of hq⟩,Run.now (k:=fun q _ O' H' => ∀ J,ItD X.K J O' H' q→R J H') R2 W1 _ (Zkn hq rs)⟩
  ·refine .inr ⟨O,ρ,st,W,E,?_⟩
   rw [hf]
   intro O1 H1 k1 W1 v r
   have R2:=R1 O1 H1 k1 W1
   have ei:∀ s',itemsOf s' d=ZS s' d:=by
    intro s'
    cases d <;> first | rfl | exact absurd ⟨_,rfl⟩ hb
   dsimp only at R2
   rw [ei] at R2
   cases e1:ZS st' d with
   | none=>rw [e1] at R2; exact R2.elim
   | some xs =>
    rw [e1] at R2
    obtain ⟨q,vs,rfl,hq,rs⟩:=rdL W1 r e1
    refine ⟨q,rfl,⟨vs,hq⟩,Run.now (k:=fun q _ O' H' => ∀ J,ItD X.K J O' H' q→R J H') R2 W1 _ (ZmU fun O' H' st2 kp W' hp => ?_)⟩
    rw [ei] at hp
    obtain ⟨q',vs',e2,hq',rs'⟩:=rdL W' (Rep.mono kp _ _ r) hp
    cases e2
    exact ⟨vs',hq',rs'⟩
noncomputable def WC (j:Int):Bool:=@decide (-(2 ^ 62)≤j∧j<2 ^ 62) (Classical.propDecidable _)
theorem rngOk_iff {j:Int}:WC j=true ↔ (-(2 ^ 62)≤j∧j<2 ^ 62):=by
 unfold WC
 exact @decide_eq_true_iff _ (Classical.propDecidable _)
theorem Zdd {j:Int} (h1 : -1000000≤j) (h2:j≤1000000):WC j=true:=rngOk_iff.mpr ⟨by omega,by omega⟩
noncomputable def Wg (g:DA):DI:=fun ρ st=>(g ρ st).bind fun ds st1=>match ds with
 | [.int j]=>if WC j=true then .ok ((List.range j.toNat).map (fun (i:Nat)=>D.int (0+i)),fun _=>True) st1 else .bad
 | _ => .bad
theorem ZbY (hg : Gl X "range") (hm : X.mg "range" = none) (ha : PDA X EX [a] g) (hs : starEach [a] X.env = [(false, eval a X.env)] := by rfl) : PID X EX tg (.Call (.Name "range" p) [a] [] pos) (Wg g) := by
 refine PI.mono (ZjD hg hm ha hs) ?_
 rintro σ H R ⟨O,ρ,st,W,E,R0⟩
 refine ⟨O,ρ,st,W,E,R0.bind.mono fun ds st1 O1 H1 k1 W1 R1 vs r => ?_⟩
 split at R1
 ·rename_i j
  obtain ⟨v,rfl,rv⟩:=r.one_of
  rw [Rep.int_i] at rv
  subst rv
  by_cases hj:WC j=true
  ·rw [if_pos hj] at R1
   exact ⟨j,rfl,(rngOk_iff.mp hj).1,(rngOk_iff.mp hj).2,Run.now (k:=fun q _ O' H' => ∀ J,ItD X.K J O' H' q→R J H') R1 W1 _ Zmi⟩
  ·rw [if_neg hj] at R1; exact R1.elim
 ·exact R1.elim
end
open Classical in
noncomputable def Zz (chk:Sto→Prop) (t:TgD) (g:DS):List D→DS
 | [],ρ,st=>if chk st then .nx ρ st else .bad
 | x :: xs,ρ,st=>if chk st then (match t x ρ with
  | none => .bad
  | some ρ1=>match g ρ1 st with
   | .nx ρ' st'=>Zz chk t g xs ρ' st'
   | .ct ρ' st'=>Zz chk t g xs ρ' st'
   | .bk ρ' st' => .nx ρ' st'
   | r=>r) else .bad
noncomputable def Yc (f:DI) (t:TgD) (g:DS):DS:=fun ρ st=>(f ρ st).to fun q st1=>Zz q.2 t g q.1 ρ st1
section
variable {X:Cx} {EX:EXT} {tg it:Expr} {f:DI} {t:TgD} {g:DS} {pos:Pos} {body:List Stmt}
theorem YM (hp:PassesOwn (model X.prog X.w) X.A X.env X.xe) (hc:X.calm=true) (hi:PID X EX tg it f) (hg:PGD X tg t) (hb:PDS X EX body g) (hs:∀ x,foldedSetIterable it X.env x=pure x:=by intro _; rfl):PDs X EX (.For tg it body [] pos) (Yc f t g):=by
 refine PS.mono (Zlb hp hc hi hg hb hs) ?_
 rintro Dn σ H ⟨O,ρ,st,W,E,R⟩
 refine ⟨O,ρ,st,W,E,R.to.mono fun q st1 O1 H1 k1 W1 R1 J hJ => ?_⟩
 refine ⟨fun i m σ' H'=>m+i=q.1.length∧∃ O' ρ' st',Keep X.K O1 H1 O' H'∧WR X.K O' H' st'∧REnv X.K O' H' ρ' σ'∧RunS X.K EX Dn O' H' (Zz q.2 t g (q.1.drop i) ρ' st'),⟨q.1.length,rfl,O1,ρ,st1,Keep.refl,W1,E.mono k1,R1⟩,?_⟩
 rintro i m σ' H' ⟨hm,O',ρ',st',kp,W',E',R'⟩
 cases hd:q.1.drop i with
 | nil =>
  rw [hd] at R'
  unfold Zz at R'
  have hl:q.1.length≤i:=List.drop_eq_nil_iff.mp hd
  by_cases hch:q.2 st'
  ·rw [if_pos hch] at R'
   exact .inl ⟨(hJ i O' H' st' kp W' hch).2 hl,R' O' H' σ' Keep.refl W' E'⟩
  ·rw [if_neg hch] at R'; exact R'.elim
 | cons x xs =>
  rw [hd] at R'
  unfold Zz at R'
  have hx:q.1[i]?=some x:=by
   have:=List.getElem?_drop (xs:=q.1) (i:=i) (j:=0)
   rw [hd] at this
   simpa using this.symm
  have hxs:q.1.drop (i+1)=xs:=by
   have:=List.drop_drop (i:=1) (j:=i) (l:=q.1)
   rw [hd] at this
   simpa using this.symm
  have hi:i<q.1.length:=(List.getElem?_eq_some_iff.mp hx).1
  by_cases hch:q.2 st'
  ·rw [if_pos hch] at R'
   obtain ⟨hgo,hy⟩:=(hJ i O' H' st' kp W' hch).1 x hx
   refine .inr ⟨hgo,fun σ2 H2=>(m - 1)+(i+1)=q.1.length∧∃ O' ρ' st',True∧WR X.K O' H2 st'∧Keep X.K O1 H1 O' H2∧REnv X.K O' H2 ρ' σ2∧RunS X.K EX Dn O' H2 (Zz q.2 t g (q.1.drop (i+1)) ρ' st'),?_,?_⟩
   ·rintro σ2 H2 ⟨h1,O2,ρ2,st2,_,W2,kp2,E2,R2⟩
    exact ⟨m - 1,by omega,h1,O2,ρ2,st2,kp2,W2,E2,R2⟩
   ·intro v H2 hv
    obtain ⟨ky,Wy,ry⟩:=hy v H2 hv
    cases ht:t x ρ' with
    | none=>rw [ht] at R'; exact R'.elim
    | some ρ1 =>
     rw [ht] at R'
     dsimp only at R'
     refine ⟨O',x,ρ',ρ1,ry,E'.mono ky,ht,fun σ2 E2=>⟨O',ρ1,st',Wy,E2,?_⟩⟩
     cases hgr:g ρ1 st' with
     | nx ρ2 st2 =>
      rw [hgr] at R'
      intro O3 H3 σ3 k3 W3 E3
      exact ⟨by omega,O3,ρ2,st2,trivial,W3,kp.trans (ky.trans k3),E3,by rw [hxs]; exact RunS.later R' (ky.trans k3)⟩
     | ct ρ2 st2 =>
      rw [hgr] at R'
      intro O3 H3 σ3 k3 W3 E3
      exact ⟨by omega,O3,ρ2,st2,trivial,W3,kp.trans (ky.trans k3),E3,by rw [hxs]; exact RunS.later R' (ky.trans k3)⟩
     | bk ρ2 st2 =>
      rw [hgr] at R'
      exact fun O3 H3 σ3 k3 W3 E3=>R' O3 H3 σ3 (ky.trans k3) W3 E3
     | rt d st2 =>
      rw [hgr] at R'
      exact fun O3 H3 σ3 k3 W3 E3=>R' O3 H3 σ3 (ky.trans k3) W3 E3
     | exc c st2 =>
      rw [hgr] at R'
      exact fun O3 H3 k3 W3=>R' O3 H3 (ky.trans k3) W3
     | bad=>rw [hgr] at R'; exact R'
  ·rw [if_neg hch] at R'; exact R'.elim
end
noncomputable def YL (n:Nat) (t:DT) (g:DS):DS:=match n with
 | 0=>fun _ _ => .bad
 | n+1=>fun ρ st=>(t ρ st).to fun b st1=>if b=true then (match g ρ st1 with
  | .nx ρ' st'=>YL n t g ρ' st'
  | .ct ρ' st'=>YL n t g ρ' st'
  | .bk ρ' st' => .nx ρ' st'
  | r=>r) else .nx ρ st1
section
variable {X:Cx} {EX:EXT} {c:Expr} {t:DT} {g:DS} {pos:Pos} {body:List Stmt}
theorem ZfJ (n:Nat) (hp:PassesOwn (model X.prog X.w) X.A X.env X.xe) (hc:PDT X EX c t) (hb:PDS X EX body g):PDs X EX (.While c body [] pos) (YL n t g):=by
 refine PS.mono (ZiS hp hc hb) ?_
 rintro Dn σ H ⟨O,ρ,st,W,E,R⟩
 refine ⟨fun m σ' H' => ∃ O' ρ' st',WR X.K O' H' st'∧REnv X.K O' H' ρ' σ'∧RunS X.K EX Dn O' H' (YL m t g ρ' st'),⟨n,O,ρ,st,W,E,R⟩,?_⟩
 rintro m σ' H' ⟨O',ρ',st',W',E',R'⟩
 cases m with
 | zero=>exact R'.elim
 | succ m =>
  unfold YL at R'
  refine ⟨O',ρ',st',W',E',R'.to.mono fun b st1 O1 H1 k1 W1 R1 => ?_⟩
  cases b with
  | false=>exact R1 O1 H1 σ' Keep.refl W1 (E'.mono k1)
  | true =>
   refine ⟨fun σ2 H2 => ∃ O' ρ' st',WR X.K O' H2 st'∧REnv X.K O' H2 ρ' σ2∧RunS X.K EX Dn O' H2 (YL m t g ρ' st'),fun σ2 H2 h=>⟨m,Nat.lt_succ_self m,h⟩,O1,ρ',st1,W1,E'.mono k1,?_⟩
   rw [if_pos rfl] at R1
   cases hgr:g ρ' st1 with
   | nx ρ2 st2 =>
    rw [hgr] at R1
    exact fun O3 H3 σ3 k3 W3 E3=>⟨O3,ρ2,st2,W3,E3,RunS.later R1 k3⟩
   | ct ρ2 st2 =>
    rw [hgr] at R1
    exact fun O3 H3 σ3 k3 W3 E3=>⟨O3,ρ2,st2,W3,E3,RunS.later R1 k3⟩
   | bk ρ2 st2=>rw [hgr] at R1; exact R1
   | rt d st2=>rw [hgr] at R1; exact R1
   | exc c st2=>rw [hgr] at R1; exact R1
   | bad=>rw [hgr] at R1; exact R1
end
end DL
end
section
namespace DL
open PySem PySem.Spec PyProof.Rows L2
section
variable {prog:Program} {w:World} {A:Around} {E:Value→Shared→Prop} {R:Result→Shared→Prop} {s:Shared}
theorem Zim {elt target iter:Expr} {ifs:List Expr} {scope:Scope} {pos:Pos} {it acc:Value} {env:Env} (I:Nat→Shared→Prop)
  (turn:∀ n s,I n s→wpAny (model prog w) A (pyNext it) (fun r s₁=>match r with
   | none=>R (.ok .next) s₁
   | some v=>wpAny (model prog w) A (letOwnedTupleGo target it v) (fun _ s₁'=>wpAny (model prog w) A (assign target env v) (fun _ s₂ =>
     wpAny (model prog w) A (forIn ifs true fun c r=>if r=true then do let ok ← isTrue c env (eval c env); pure (ForInStep.yield ok) else pure (ForInStep.yield r)) (fun ok s₃ =>
      if ok=true then wpAny (model prog w) A (eval elt env) (fun x s₄ =>
       wpAny (model prog w) A (call (.builtin "list.append") [acc, x]) (fun _ s₅ => ∃ m, m < n ∧ I m s₅) (fun _ _ => False) s₄) (fun _ _ => False) s₃
      else ∃ m,m<n∧I m s₃) (fun _ _=>False) s₂) (fun _ _=>False) s₁') (fun _ _=>False) s₁) (fun _ _=>False) s)
  (n:Nat) (h:I n s) :
  codeAny (model prog w) A (.compLoop (.ListComp elt [⟨target,iter,ifs,0⟩] scope pos) 0 it acc env) R s:=by
 refine codeAny_loop rfl I (fun n s hI => ?_) n h
 show wpAny _ A ((compTurn (.ListComp elt [⟨target,iter,ifs,0⟩] scope pos) 0 it acc env).onRaise (fun x=>do noteFrame x env; theTreesLotGoes x)) _ _ s
 refine wpAny_noted ?_
 rw [compTurn_list]
 refine wpAny_bind (wpAny_standAt (wpAny_bind (wpAny_mono (turn n s hI) (fun r s₁ h₁ => ?_) fun _ _ h'=>h'.elim)))
 cases r with
 | none=>exact wpAny_pure h₁
 | some v =>
  refine wpAny_bind (wpAny_mono h₁ (fun _ s₁' h₁' => ?_) fun _ _ h'=>h'.elim)
  refine wpAny_bind (wpAny_mono h₁' (fun _ s₂ h₂=>wpAny_bind (wpAny_mono h₂ (fun ok s₃ h₃ => ?_) fun _ _ h'=>h'.elim)) fun _ _ h'=>h'.elim)
  cases ok with
  | false=>exact wpAny_pure ⟨rfl,h₃⟩
  | true =>
   exact wpAny_bind (wpAny_bind (wpAny_mono h₃ (fun x s₄ h₄=>wpAny_bind (wpAny_mono h₄ (fun _ s₅ h₅=>wpAny_pure (wpAny_pure ⟨rfl,h₅⟩)) fun _ _ h'=>h'.elim)) fun _ _ h'=>h'.elim))
theorem Zh0 {l : Addr} {items : List Value} {n : Nat} {x : Value} {Q : Value → Shared → Prop} (ho : s.heap.get? l = some { cls := .type "list", data := .seq items.toArray n })
  (hQ : ∀ h', h'.get? l = some { cls := .type "list", data := .seq (items ++ [x]).toArray (n + 1) } → Heap.SameBut l s.heap h' → Q .none { s with heap := h' }) (hsz : items.length ≤ sizeLine) :
  wpAny (model prog w) A (call (.builtin "list.append") [.ref l, x]) Q E s := by
 have hl:s.heap.IsList l items.toArray:=⟨_,ho,rfl,n,rfl⟩
 refine wpAny_call_entry slot_list_append hl.typeIs entry_list_append ?_ (args_list_append _ _)
 show wpAny _ _ (updateSeq l (·.push x) >>= fun _=>ret .none) _ _ s
 refine wpAny_bind ?_
 refine wpAny_updateSeq (hz:=by rw [List.size_toArray]; exact hsz) ho rfl (wpAny_pure ⟨.none,rfl,hQ _ ?_ (Heap.SameBut.update ..)⟩)
 rw [Heap.get?_update_self _ ho (by rfl)]
 simp [Obj.mapSeq]
end
noncomputable def Yp (env:Env):List (Str×NameKind)→List (Str×Addr)→List (Str×Addr)
 | [],acc=>acc
 | (n,k) :: r,acc=>if k == .free then (match env.cells.lookup n with
  | some a=>Yp env r ((n,a) :: acc)
  | none=>Yp env r acc) else Yp env r acc
theorem Zgx (env:Env):∀ (names:List (Str×NameKind)) (acc:List (Str×Addr)),(∀ y∈names,y.2 = .free→∃ a,env.cells.lookup y.1=some a) →
  (forIn names acc fun (x:Str×NameKind) (cs:List (Str×Addr))=>(if (x.2 == NameKind.free)=true then do let a ← cellOf env x.1; pure (ForInStep.yield ((x.1,a) :: cs)) else pure (ForInStep.yield cs):Sem (ForInStep (List (Str×Addr)))))=pure (Yp env names acc)
 | [],acc,_=>rfl
 | (n,k) :: r,acc,h=>by
  have ih:=fun acc=>Zgx env r acc fun y hy=>h y (List.mem_cons_of_mem _ hy)
  rw [List.forIn_cons]
  unfold Yp
  by_cases hk:(k == NameKind.free)=true
  ·obtain ⟨a,ha⟩:=h (n,k) List.mem_cons_self (by simpa using hk)
   have e:cellOf env n=pure a:=by unfold cellOf; rw [ha]
   simp only [hk,if_true,e,ha,pure_bind]
   exact ih _
  ·have hk':(k == NameKind.free)=false:=by simpa using hk
   simp only [hk',Bool.false_eq_true,if_false,pure_bind]
   exact ih _
theorem Zid {scope:Scope} {env:Env} (h:∀ y∈scope.names,y.2 = .free→∃ a,env.cells.lookup y.1=some a):closureFor scope env=pure (Yp env scope.names []):=by
 have e:=Zgx env scope.names [] h
 unfold closureFor
 simp only [bind_pure]
 refine Eq.trans ?_ e
 rfl
theorem QK {env:Env} {x:Str} {c:Addr}:∀ (names:List (Str×NameKind)) (acc:List (Str×Addr)),(∀ y a,acc.lookup y=some a→env.cells.lookup y=some a)→(Yp env names acc).lookup x=some c→env.cells.lookup x=some c
 | [],acc,h,e=>h x c e
 | (n,k) :: r,acc,h,e=>by
  unfold Yp at e
  split at e
  ·split at e
   ·rename_i a ha
    refine QK r _ (fun y b hb => ?_) e
    rw [List.lookup_cons] at hb
    cases hy:y == n with
    | true =>
     rw [hy] at hb
     have ey:y=n:=eq_of_beq hy
     subst ey
     cases hb
     exact ha
    | false=>rw [hy] at hb; exact h y b hb
   ·exact QK r _ h e
  ·exact QK r _ h e
theorem ZaD {env:Env} {x:Str} {c:Addr} (hx:env.cells.lookup x=some c):∀ (names:List (Str×NameKind)) (acc:List (Str×Addr)),acc.lookup x=some c∨(x,NameKind.free)∈names→(Yp env names acc).lookup x=some c
 | [],acc,h=>by
  rcases h with h | h
  ·exact h
  ·cases h
 | (n,k) :: r,acc,h=>by
  unfold Yp
  have keep:∀ a,env.cells.lookup n=some a→acc.lookup x=some c→((n,a) :: acc).lookup x=some c:=by
   intro a ha hl
   rw [List.lookup_cons]
   cases hy:x == n with
   | true =>
    have ey:x=n:=eq_of_beq hy
    subst ey
    rw [hx] at ha
    cases ha
    rfl
   | false=>exact hl
  split
  ·rename_i hk
   split
   ·rename_i a ha
    refine ZaD hx r _ ?_
    rcases h with h | h
    ·exact .inl (keep a ha h)
    ·rcases List.mem_cons.mp h with e | h
     ·cases e
      refine .inl ?_
      rw [hx] at ha
      cases ha
      simp
     ·exact .inr h
   ·rename_i hn
    refine ZaD hx r _ ?_
    rcases h with h | h
    ·exact .inl h
    ·rcases List.mem_cons.mp h with e | h
     ·cases e
      rw [hx] at hn
      cases hn
     ·exact .inr h
  ·rename_i hk
   refine ZaD hx r _ ?_
   rcases h with h | h
   ·exact .inl h
   ·rcases List.mem_cons.mp h with e | h
    ·cases e
     exact absurd rfl hk
    ·exact .inr h
noncomputable def Y5 (scope sc:Scope):Scope :=
 { scope with names:=scope.names.map fun (n,k)=>if (k == .free && sc.kind == .function && sc.names.lookup n == some .cell) then (n,.cell) else (n,k) }
structure Blk (sc scope:Scope) (N0 N:List Str) (caps:List Nat) (nT:Nat):Prop where
 kind:scope.kind = .function
 nocell:∀ y∈scope.names,y.2≠.cell
 names:∀ y∈scope.names,y.2 = .local→scope.names.lookup y.1=some .local
 free:∀ y∈scope.names,y.2 = .free→sc.names.lookup y.1=some .cell∨sc.names.lookup y.1=some .free
 len:N.length=nT+caps.length
 cap:∀ q∈(List.range caps.length),∃ i x,caps[q]?=some i∧N[nT+q]?=some x∧N0[i]?=some x∧(x,NameKind.free)∈scope.names∧((Y5 scope sc).names.lookup x=some .cell∨(Y5 scope sc).names.lookup x=some .free)
noncomputable def Y1 (sc scope:Scope) (N0 N:List Str) (caps:List Nat) (nT:Nat):Bool :=
 (scope.kind == .function) && scope.names.all (fun y => !(y.2 == .cell)) && scope.names.all (fun y => !(y.2 == .local) || scope.names.lookup y.1 == some .local) &&
  scope.names.all (fun y => !(y.2 == .free) || (sc.names.lookup y.1 == some .cell || sc.names.lookup y.1 == some .free)) && (N.length == nT+caps.length) &&
  (List.range caps.length).all fun q=>match caps[q]?,N[nT+q]? with
   | some i,some x=>(N0[i]? == some x) && scope.names.any (fun y=>y.1 == x && y.2 == .free) && ((Y5 scope sc).names.lookup x == some .cell || (Y5 scope sc).names.lookup x == some .free)
   | _,_=>false
theorem Blk.of {sc scope:Scope} {N0 N:List Str} {caps:List Nat} {nT:Nat} (h:Y1 sc scope N0 N caps nT=true):Blk sc scope N0 N caps nT:=by
 unfold Y1 at h
 simp only [Bool.and_eq_true] at h
 obtain ⟨⟨⟨⟨⟨h1,h2⟩,h3⟩,h4⟩,h5⟩,h6⟩:=h
 refine ⟨eq_of_beq h1,fun y hy => ?_,fun y hy hl => ?_,fun y hy hl => ?_,eq_of_beq h5,fun q hq => ?_⟩
 ·have:=List.all_eq_true.mp h2 y hy
  simpa using this
 ·have:=List.all_eq_true.mp h3 y hy
  rw [hl] at this
  simpa using this
 ·have:=List.all_eq_true.mp h4 y hy
  rw [hl] at this
  simpa using this
 ·have:=List.all_eq_true.mp h6 q hq
  split at this
  ·rename_i i x e1 e2
   simp only [Bool.and_eq_true,Bool.or_eq_true,List.any_eq_true,beq_iff_eq] at this
   obtain ⟨⟨g1,⟨y,g2,g3,g4⟩⟩,g5⟩:=this
   refine ⟨i,x,e1,e2,g1,?_,g5⟩
   obtain ⟨y1,y2⟩:=y
   simp only at g3 g4
   subst g3 g4
   exact g2
  ·cases this
noncomputable def cxC (X:Cx) (N:List Str) (scope:Scope) (acc:Addr) (fp:List Addr) (s3:Shared) (H:Hp):Cx :=
 { X with N:=N,s₀:=s3,H₀:=H,env:=compEnvC scope (Yp X.env scope.names []) s3.heap.objs.size X.env,outer:=X.stack,ex:=acc :: fp,fn:=fun _=>false,pn:=[],xe:=fun _ _=>False }
noncomputable def Z6 (ρ:Ev) (caps:List Nat) (nT:Nat):Ev:=List.replicate nT none++caps.map fun i=>(ρ[i]?).join
noncomputable def Wn (σ:L2.St) (caps:List Nat) (nT:Nat):L2.St:=List.replicate nT none++caps.map fun i=>(σ[i]?).join
theorem ZiV {K:PySem.W.Frag} {O:List Addr} {H:Hp} {ρ:Ev} {σ:L2.St} (E:REnv K O H ρ σ) (caps:List Nat) (nT:Nat):REnv K O H (Z6 ρ caps nT) (Wn σ caps nT):=by
 refine ⟨by simp [Z6,Wn],fun i d h => ?_⟩
 unfold Z6 at h
 unfold Wn
 by_cases hi:i<nT
 ·rw [List.getElem?_append_left (by simpa using hi),List.getElem?_replicate] at h
  split at h <;> cases h
 ·rw [List.getElem?_append_right (by simpa using hi)] at h ⊢
  rw [List.length_replicate,List.getElem?_map] at h ⊢
  cases hc:caps[i - nT]? with
  | none=>rw [hc] at h; cases h
  | some j =>
   rw [hc] at h
   simp only [Option.map_some,Option.some.injEq] at h ⊢
   cases hj:ρ[j]? with
   | none=>rw [hj] at h; cases h
   | some z =>
    rw [hj] at h
    simp only [Option.join_some] at h
    subst h
    obtain ⟨v,h1,h2⟩:=E.at_ j d hj
    exact ⟨v,by rw [h1]; rfl,h2⟩
section
variable {X:Cx} {pins:List (Addr×Obj)} {σ:L2.St} {H:Hp} {s:Shared} {scope:Scope} {N:List Str} {caps:List Nat} {nT:Nat} {fp:List Addr}
theorem ZjS (B:Blk X.env.scope scope X.N N caps nT) (I:Inv X pins σ H s) (hf:∀ b∈fp,YO X pins H b) (ho:∀ b∈fp,∃ o,s.heap.get? b=some o) {h4:Heap} {tk:Nat}
  (hns : h4.Ns (s.heap.push { cls := .type "list", data := .seq ([] : List Value).toArray }).objs.size (fun x => ([] : List (Str × Value)).reverse.lookup x))
  (hsb : Heap.SameBut (s.heap.push { cls := .type "list", data := .seq ([] : List Value).toArray }).objs.size ((s.heap.push { cls := .type "list", data := .seq ([] : List Value).toArray }).push { cls := .type "dict", data := .dict #[] }) h4) :
  Inv (cxC X N scope s.heap.objs.size fp { s with heap := s.heap.push { cls := .type "list", data := .seq ([] : List Value).toArray } } H) [] (Wn σ caps nT) H { s with heap := h4, toks := tk } := by
 generalize hH2 : s.heap.push { cls := .type "list", data := .seq ([] : List Value).toArray } = h3 at hns hsb ⊢
 have hC:h3.objs.size=s.heap.objs.size+1:=by rw [← hH2,Heap.size_push]
 have k3:∀ b o,s.heap.get? b=some o→h3.get? b=some o:=fun b o e=>hH2 ▸ Heap.get?_push_of_some _ e
 have I3:Inv X pins σ H { s with heap:=h3 }:=I.kept (t':=s.toks) k3
 have k4:∀ b o,h3.get? b=some o→h4.get? b=some o:=fun b o e=>hsb.extBut b o (Nat.ne_of_lt (Heap.lt_size e)) (Heap.get?_push_of_some _ e)
 have lt3:∀ b o,s.heap.get? b=some o→b<h3.objs.size:=fun b o e=>Heap.lt_size (k3 b o e)
 have cells:∀ x c,(Yp X.env scope.names []).lookup x=some c→X.env.cells.lookup x=some c:=fun x c e=>QK scope.names [] (fun y a z=>by cases z) e
 have ok:(cxC X N scope s.heap.objs.size fp { s with heap:=h3 } H).Ok:=by
  refine ⟨I.ok.mod,B.kind,I.ok.glob,I.ok.blt,Nat.le_refl _,fun x y c h1 h2=>I.ok.inj x y c (cells _ _ h1) (cells _ _ h2),?_,fun x c hx=>(by cases hx),I.ok.hd,I.ok.frames,.inl rfl,?_,I3.bs,Nat.le_trans I.ok.bsz (Nat.le_trans I.sz (by show s.heap.objs.size≤h3.objs.size; omega)),?_,?_,I3.stack,I3.stkFree⟩
  ·intro x hx
   have hx':(Y5 scope X.env.scope).names.lookup x=some .cell∨(Y5 scope X.env.scope).names.lookup x=some .free:=hx
   have hm:(x,NameKind.free)∈scope.names:=by
    have mem:∀ (l:List (Str×NameKind)),((l.map fun (n,k)=>if (k == NameKind.free && X.env.scope.kind == .function && X.env.scope.names.lookup n == some .cell) then (n,NameKind.cell) else (n,k)).lookup x=some .cell∨(l.map fun (n,k)=>if (k == NameKind.free && X.env.scope.kind == .function && X.env.scope.names.lookup n == some .cell) then (n,NameKind.cell) else (n,k)).lookup x=some .free)→(∀ y∈l,y.2≠.cell)→(x,NameKind.free)∈l:=by
     intro l
     induction l with
     | nil=>intro h _; rcases h with h | h <;> cases h
     | cons y l ih =>
      obtain ⟨n,k⟩:=y
      intro h hnc
      rw [List.map_cons] at h
      by_cases hc:(k == NameKind.free && X.env.scope.kind == .function && X.env.scope.names.lookup n == some .cell)=true
      ·simp only [hc,if_true,List.lookup_cons] at h
       have hk:k = .free:=by simp only [Bool.and_eq_true] at hc; simpa using hc.1.1
       cases hy:x == n with
       | true=>rw [eq_of_beq hy,hk]; exact List.mem_cons_self
       | false =>
        rw [hy] at h
        exact List.mem_cons_of_mem _ (ih h fun z hz=>hnc z (List.mem_cons_of_mem _ hz))
      ·simp only [hc,if_false,List.lookup_cons,Bool.false_eq_true] at h
       cases hy:x == n with
       | true =>
        rw [hy] at h
        have hk:k = .free:=by
         rcases h with h | h
         ·exact absurd (Option.some.inj h) (hnc (n,k) List.mem_cons_self)
         ·exact Option.some.inj h
        rw [eq_of_beq hy,hk]; exact List.mem_cons_self
       | false =>
        rw [hy] at h
        exact List.mem_cons_of_mem _ (ih h fun z hz=>hnc z (List.mem_cons_of_mem _ hz))
    exact mem scope.names hx' B.nocell
   obtain ⟨c,hc⟩:=I.ok.has x (B.free _ hm rfl)
   exact ⟨c,ZaD hc scope.names [] (.inr hm)⟩
  ·intro b hb
   rcases List.mem_cons.mp hb with rfl | hb
   ·refine ⟨?_,fun x c h1 h2 => ?_⟩
    ·show s.heap.objs.size≠h3.objs.size
     omega
    ·obtain ⟨v,o,ho',_⟩:=I.cell x c (cells _ _ h1)
     exact absurd (h2 ▸ Heap.lt_size ho') (Nat.lt_irrefl _)
   ·obtain ⟨o,ho'⟩:=ho b hb
    refine ⟨?_,fun x c h1=>(hf b hb).2.2.2.2.1 x c (cells _ _ h1)⟩
    exact Nat.ne_of_lt (lt3 b o ho')
  ·intro b o hb
   intro hm
   rcases List.mem_cons.mp hm with rfl | hm
   ·exact absurd (Heap.lt_size (I.bk _ _ hb)) (Nat.lt_irrefl _)
   ·rcases (hf b hm).2.2.2.1 with h1 | h1
    ·exact I.ok.noex b o hb h1
    ·exact absurd (Nat.lt_of_lt_of_le (Heap.lt_size (I.ok.bs b o hb).1) h1) (Nat.lt_irrefl _)
  ·intro b hb hm
   rcases List.mem_cons.mp hb with rfl | hb
   ·rcases List.mem_cons.mp (I.stkSub _ hm) with h1 | h1
    ·have:=I.lt
     rw [← h1] at this
     exact absurd this (Nat.lt_irrefl _)
    ·exact I.nofs (Nat.le_refl _) h1
   ·rcases List.mem_cons.mp (I.stkSub _ hm) with h1 | h1
    ·exact (hf b hb).2.1 h1
    ·exact (hf b hb).2.2.1 h1
 refine ⟨ok,rfl,I.bare,Un.kept k4,?_,?_,?_,?_,(fun p hp=>(by cases hp)),I3.hok.kept k4,?_⟩
 ·refine ⟨_,hns,fun i x v h1 h2 hv => ?_⟩
  by_cases hi:i<nT
  ·unfold Wn at h2
   rw [List.getElem?_append_left (by simpa using hi),List.getElem?_replicate] at h2
   split at h2 <;> cases h2
  ·unfold Wn at h2
   rw [List.getElem?_append_right (by simpa using hi),List.length_replicate,List.getElem?_map] at h2
   cases hc:caps[i - nT]? with
   | none=>rw [hc] at h2; cases h2
   | some j =>
    rw [hc] at h2
    simp only [Option.map_some,Option.some.injEq] at h2
    cases hj:σ[j]? with
    | none=>rw [hj] at h2; cases h2
    | some z =>
     rw [hj] at h2
     simp only [Option.join_some] at h2
     subst h2
     have hq:i - nT<caps.length:=(List.getElem?_eq_some_iff.mp hc).1
     obtain ⟨j',x',e1,e2,e3,e4,e5⟩:=B.cap (i - nT) (List.mem_range.mpr hq)
     rw [hc] at e1
     cases e1
     have en:nT+(i - nT)=i:=by omega
     rw [en] at e2
     have ex:x'=x:=Option.some.inj (e2.symm.trans h1)
     subst ex
     have hk:=B.free _ e4 rfl
     obtain ⟨m,hm,hloc⟩:=I.loc
     obtain ⟨u,ru,lk⟩:=hloc j x' v e3 hj (hk.elim (fun z => .inr (.inl z)) fun z => .inr (.inr z))
     rcases lk with ⟨hl,_⟩ | ⟨_,c,hc1,hc2⟩
     ·rcases hk with hk | hk
      ·have:X.env.scope.names.lookup x'=some .local:=hl
       rw [hk] at this; cases this
      ·have:X.env.scope.names.lookup x'=some .local:=hl
       rw [hk] at this; cases this
     ·refine ⟨u,ru,.inr ⟨e5,c,ZaD hc1 scope.names [] (.inr e4),?_⟩⟩
      obtain ⟨o,ho',hd⟩:=hc2
      exact ⟨o,k4 _ _ (k3 _ _ ho'),hd⟩
 ·intro x c h1
  obtain ⟨v,o,ho',hd⟩:=I.cell x c (cells _ _ h1)
  exact ⟨v,o,k4 _ _ (k3 _ _ ho'),hd⟩
 ·exact I3.hok.fresh (Nat.le_refl _)
 ·intro x c h1
  exact I.freeC x c (cells _ _ h1)
 ·show (Wn σ caps nT).length=N.length
  rw [B.len]
  simp [Wn]
end
end DL
end
section
namespace DL
open PySem PySem.Spec PyProof.Rows L2
section
variable {X:Cx} {pins:List (Addr×Obj)} {σ:L2.St} {H:Hp} {s:Shared} {scope:Scope} {N:List Str} {fp:List Addr}
theorem Zj5 (I:Inv X pins σ H s) (hf:∀ b∈fp,YO X pins H b) {σc:L2.St} {H':Hp} {s':Shared} {vs:List V} {its:List Value} {n:Nat}
  (J : Inv (cxC X N scope s.heap.objs.size fp { s with heap := s.heap.push { cls := .type "list", data := .seq ([] : List Value).toArray } } H) [] σc H' s')
  (ha : s'.heap.get? s.heap.objs.size = some { cls := .type "list", data := .seq its.toArray n }) (hn : H' s.heap.objs.size = none) (hv : Vals vs its) (hz : vs.length ≤ sizeLine) : Inv X pins σ (upd H' s.heap.objs.size (.lst vs)) s' := by
 have u:=J.base
 have push : ∀ b o, s.heap.get? b = some o → (s.heap.push { cls := .type "list", data := .seq ([] : List Value).toArray }).get? b = some o := fun b o e => Heap.get?_push_of_some _ e
 have ne:∀ b o,s.heap.get? b=some o→b≠s.heap.objs.size:=fun b o e=>Nat.ne_of_lt (Heap.lt_size e)
 have nex:∀ b o,s.heap.get? b=some o→b ∉ fp→b ∉ s.heap.objs.size :: fp:=fun b o e hb hm=>by
  rcases List.mem_cons.mp hm with h | h
  ·exact ne b o e h
  ·exact hb h
 refine I.call' (ch:=fp) J.os ?_ ?_ J.bare fun b hb=>⟨(hf b hb).2.2.2.1,(hf b hb).2.1,(hf b hb).2.2.2.2.1,(hf b hb).2.2.2.2.2⟩
 ·refine ⟨fun b o e h0 h1 h2=>u.keep b o (push b o e) h0 h1 (nex b o e h2),fun b o e h0 h1 h2=>u.slot b o (push b o e) h0 h1 (nex b o e h2),fun b o e h0 h2 => ?_,fun b o e h2=>u.there b o (push b o e) (nex b o e h2),fun b xs e => ?_,fun b o w e => ?_,fun b ps e => ?_⟩
  ·rw [Zt (ne b o e)]
   exact u.free b o (push b o e) h0 (nex b o e h2)
  ·have h1:=u.tups b xs e
   rw [Zt (Yt h1 hn)]
   exact h1
  ·have h1:=u.frzs b o w e
   rw [Zt (Yt h1 hn)]
   exact h1
  ·obtain ⟨more,h1⟩:=u.tbls b ps e
   exact ⟨more,by rw [Zt (Yt h1 hn)]; exact h1⟩
 ·intro a o e
  by_cases haa:a=s.heap.objs.size
  ·subst haa
   rw [YR] at e
   cases e
   exact ⟨hz,its,n,hv,ha⟩
  ·rw [Zt haa] at e
   exact (J.hok a o e).stay (fun b u _ q=>q) (fun b q=>by rw [Zt (Yt q hn)]; exact q) fun b xs q=>by rw [Zt (Yt q hn)]; exact q
end
noncomputable def YZ:DT:=fun _ st => .ok true st
open Classical in
noncomputable def ZU (chk:Sto→Prop) (t:TgD) (cond:DT) (fe:DE):List D→Ev→Sto→List D→Out (List D)
 | [],_,st,acc=>if chk st then .ok acc st else .bad
 | x :: xs,ρ,st,acc=>if chk st∧acc.length<small then (match t x ρ with
  | none => .bad
  | some ρ1=>match cond ρ1 st with
   | .ok true st1=>(match fe ρ1 st1 with
    | .ok d st2=>ZU chk t cond fe xs ρ1 st2 (acc++[d])
    | _ => .bad)
   | .ok false st1=>ZU chk t cond fe xs ρ1 st1 acc
   | _ => .bad) else .bad
noncomputable def YB (caps:List Nat) (nT:Nat) (f:DI) (t:TgD) (cond:DT) (fe:DE):DA:=fun ρ st=>(f ρ st).bind fun q st1=>ZU q.2 t cond fe q.1 (Z6 ρ caps nT) st1 []
noncomputable def PTs (X:Cx) (ifs:List Expr) (cond:DT):Prop:=∀ (pins:List (Addr×Obj)) (s:Shared) (σ:L2.St) (H:Hp) (Q:Bool→Hp→Prop),Inv X pins σ H s→tDT X.K EX0 cond σ H Q →
 wpAny (model X.prog X.w) X.A (forIn ifs true fun c r=>if r=true then do let ok ← isTrue c X.env (eval c X.env); pure (ForInStep.yield ok) else pure (ForInStep.yield r)) (TP X pins σ Q) X.xe s
theorem Zba {X:Cx}:PTs X [] YZ:=by
 rintro pins s σ H Q I ⟨O,ρ,st,W,E,R⟩
 exact wpAny_tests_nil ⟨H,I,Run.now (k:=fun b _ _ H'=>Q b H') R W⟩
theorem Zbw {X:Cx} {c:Expr} {t:DT} (h:PDT X EX0 c t):PTs X [c] t:=fun pins s σ H Q I q=>wpAny_tests_one (h pins s σ H Q I q)
section
variable {X:Cx} {EX:EXT} {scope:Scope} {N:List Str} {caps:List Nat} {nT:Nat} {elt tg iter:Expr} {ifs:List Expr} {pos:Pos} {f:DI} {t:TgD} {cond:DT} {fe:DE}
structure BlkOk (X:Cx) (scope:Scope) (N:List Str) (caps:List Nat) (nT:Nat) (tg elt:Expr) (ifs:List Expr) (t:TgD) (cond:DT) (fe:DE):Prop where
 blk:Blk X.env.scope scope X.N N caps nT
 tgt:∀ acc fp s3 H,PGD (cxC X N scope acc fp s3 H) tg t
 tst:∀ acc fp s3 H,PTs (cxC X N scope acc fp s3 H) ifs cond
 elt:∀ acc fp s3 H,PD (cxC X N scope acc fp s3 H) EX0 elt fe
noncomputable def ItF (K:PySem.W.Frag) (J:It) (O0:List Addr) (H0:Hp) (q:Wk):Prop :=
 ∀ (i:Nat) (O:List Addr) (H:Hp) (st:Sto),Keep K O0 H0 O H→(∀ b o u,H0 b=some (.frz o u)→H b=some (.frz o u))→WR K O H st→q.2 st →
  (∀ d,q.1[i]?=some d→J.go i H∧∀ x H',J.yld i H x H'→Keep K O H O H'∧WR K O H' st∧Rep K O H' d x)∧(q.1.length≤i→J.stop i H)
theorem ItD.fz {K:PySem.W.Frag} {J:It} {O0:List Addr} {H0:Hp} {q:Wk} (h:ItD K J O0 H0 q):ItF K J O0 H0 q:=fun i O H st k _=>h i O H st k
theorem ZgM (hc:X.calm=true) (B:BlkOk X scope N caps nT tg elt ifs t cond fe) {pins:List (Addr×Obj)} {σ:L2.St} {H:Hp} {s:Shared} {O:List Addr} {ρ:Ev} {st:Sto} {q:Wk} {J:It} {fp:List Addr} {it:Addr} {tn:Nat→Heap→Prop} {Q:VK} {E:Value→Shared→Prop}
  {RR:Value→Addr→Result→Shared→Prop}
  (I:Inv X pins σ H s) (T:Turn X.prog X.w X.K tg J fp it tn) (h0:tn 0 s.heap) (hf:∀ b∈fp,YO X pins H b) (hJ:ItF X.K J O H q) (W:WR X.K O H st) (Er:REnv X.K O H ρ σ)
  (R:Run X.K EX O H (ZU q.2 t cond fe q.1 (Z6 ρ caps nT) st []) (New X.K Q))
  (hRR:∀ (p C:Addr) (H':Hp) (vs:List V) (s':Shared) (m:Str→Option Value),s.heap.objs.size≤C→H' C=none→s'.heap.Ns C m→p≠C→Inv X pins σ (upd H' p (.lst vs)) s'→Q (.ref p) (upd H' p (.lst vs))→RR (.ref p) C (.ok .next) s') :
  wpAny (model X.prog X.w) X.A (newList []) (fun acc s₃=>wpAny (model X.prog X.w) X.A (newFunctionEnv scope X.env.globals (Yp X.env scope.names []) [] X.env.qual none .none (some X.env)) (fun cenv s₄ =>
   codeAny (model X.prog X.w) X.A (.compStart (.ListComp elt [⟨tg,iter,ifs,0⟩] scope pos) 0 (.ref it) acc { cenv with scope:=relabel scope X.env }) (RR acc cenv.locals) s₄) E s₃) E s:=by
 refine wpAny_newObj_type (wpAny_newFunctionEnv B.blk.nocell (by intro y hy; simp at hy) (fun h₁ hns₁ hsb₁ => ?_) B.blk.kind)
 dsimp only at hns₁ hsb₁ ⊢
 have ltC : s.heap.objs.size < (s.heap.push { cls := .type "list", data := .seq ([] : List Value).toArray }).objs.size := by rw [Heap.size_push]; exact Nat.lt_succ_self _
 have fpo:∀ b∈fp,∃ o,s.heap.get? b=some o:=fun b hb=>let ⟨o,e,_⟩:=T.obj 0 _ h0 b hb; ⟨o,e⟩
 have I4:=ZjS (tk:=s.toks+([]:List (Str×Value)).length) B.blk I hf fpo hns₁ hsb₁
 have fpne:∀ b∈fp,b≠s.heap.objs.size:=fun b hb=>let ⟨o,e⟩:=fpo b hb; Nat.ne_of_lt (Heap.lt_size e)
 generalize hXC : cxC X N scope s.heap.objs.size fp { s with heap := s.heap.push { cls := .type "list", data := .seq ([] : List Value).toArray } } H = XC at I4
 have fok:∀ (H':Hp) (P:List (Addr×Obj)),(∀ b∈fp,H' b=none)→(∀ p∈P,p.1 ∉ fp)→∀ b∈fp,YO XC P H' b:=by
  intro H' P h1 h2 b hb
  subst hXC
  obtain ⟨o,e⟩:=fpo b hb
  refine ⟨h1 b hb,Nat.ne_of_lt (Nat.lt_trans (Heap.lt_size e) ltC),fun hm => ?_,.inl (List.mem_cons_of_mem _ hb),fun x c hx=>(hf b hb).2.2.2.2.1 x c (QK scope.names [] (fun y a z=>(by cases z)) hx),fun p hp hpe=>h2 p (by have hp':p∈[]++P:=hp; simpa using hp') (hpe ▸ hb)⟩
  rcases List.mem_cons.mp (I.stkSub _ hm) with z | z
  ·exact (hf b hb).2.1 z
  ·exact (hf b hb).2.2.1 z
 have aok:∀ (H':Hp),H' s.heap.objs.size=none→YO XC [] H' s.heap.objs.size:=by
  intro H' h1
  subst hXC
  refine ⟨h1,Nat.ne_of_lt ltC,fun hm => ?_,.inl List.mem_cons_self,fun x c hx z => ?_,fun p hp=>by cases hp⟩
  ·rcases List.mem_cons.mp (I.stkSub _ hm) with z | z
   ·have:=I.lt
    rw [← z] at this
    exact absurd this (Nat.lt_irrefl _)
   ·exact I.nofs (Nat.le_refl _) z
  ·obtain ⟨v,o,ho',_⟩:=I.cell x c (QK scope.names [] (fun y a z=>(by cases z)) hx)
   exact absurd (z ▸ Heap.lt_size ho') (Nat.lt_irrefl _)
 have k4:∀ b o,s.heap.get? b=some o→h₁.get? b=some o:=fun b o e=>hsb₁.extBut b o (Nat.ne_of_lt (Nat.lt_trans (Heap.lt_size e) ltC)) (Heap.get?_push_of_some _ (Heap.get?_push_of_some _ e))
 have hacc0 : h₁.get? s.heap.objs.size = some { cls := .type "list", data := .seq ([] : List Value).toArray } := hsb₁.extBut _ _ (Nat.ne_of_lt ltC) (Heap.get?_push_of_some _ (Heap.get?_push_size _ rfl))
 have eP:XC.prog=X.prog:=by subst hXC; rfl
 have eW:XC.w=X.w:=by subst hXC; rfl
 have eK:XC.K=X.K:=by subst hXC; rfl
 have eA:XC.A=X.A:=by subst hXC; rfl
 have eC:XC.calm=true:=by subst hXC; exact hc
 have eX:XC.xe=fun _ _=>False:=by subst hXC; rfl
 have eE : XC.env = compEnvC scope (Yp X.env scope.names []) (s.heap.push { cls := .type "list", data := .seq ([] : List Value).toArray }).objs.size X.env := by subst hXC; rfl
 have loop:∀ s4:Shared,s4 = { s with heap:=h₁,toks:=s.toks+([]:List (Str×Value)).length } →
   codeAny (model X.prog X.w) X.A (.compLoop (.ListComp elt [⟨tg, iter, ifs, 0⟩] scope pos) 0 (.ref it) (.ref s.heap.objs.size) XC.env) (RR (.ref s.heap.objs.size) (s.heap.push { cls := .type "list", data := .seq ([] : List Value).toArray }).objs.size) s4 := by
  intro s4 es4
  refine Zim (fun n s' => ∃ (i:Nat) (O':List Addr) (ρ':Ev) (st':Sto) (ds:List D) (vs:List V) (its:List Value) (nn:Nat) (H':Hp) (σc:L2.St),n+i=q.1.length∧Inv XC [] σc H' s'∧Keep X.K O H O' H'∧WR X.K O' H' st'∧REnv X.K O' H' ρ' σc∧tn i s'.heap ∧
   (∀ b ∈ fp, H' b = none) ∧ s'.heap.get? s.heap.objs.size = some { cls := .type "list", data := .seq its.toArray nn } ∧ H' s.heap.objs.size = none ∧ Vals vs its ∧ Reps X.K O' H' ds vs ∧ ds.length ≤ small ∧ Run X.K EX O' H' (ZU q.2 t cond fe (q.1.drop i) ρ' st' ds) (New X.K Q)) ?_ q.1.length ?_
  ·rintro n s' ⟨i,O',ρ',st',ds,vs,its,nn,H',σc,hn,Ic,kp,W',E',htn,hfn,hacc,haccH,hv,hr,hz,hR⟩
   have IcA:Inv XC (YF [s.heap.objs.size] s'.heap) σc H' s':=by
    have:=Ic.pinned (fp:=[s.heap.objs.size]) (fun b hb=>by rw [List.mem_singleton] at hb; subst hb; exact aok H' haccH) (fun b hb=>by rw [List.mem_singleton] at hb; subst hb; exact ⟨_,hacc,fun v z=>by cases z⟩)
    simpa using this
   have pA:∀ p∈YF [s.heap.objs.size] s'.heap,p.1 ∉ fp:=fun p hp hm=>by
    have:=(Zgk hp).1
    rw [List.mem_singleton] at this
    exact fpne _ hm this
   have fz:∀ b o u,H b=some (.frz o u)→H' b=some (.frz o u):=by subst hXC; exact Ic.base.frzs
   have hpin : (s.heap.objs.size, ({ cls := .type "list", data := .seq its.toArray nn } : Obj)) ∈ YF [s.heap.objs.size] s'.heap := Zbn (List.mem_singleton.mpr rfl) hacc
   cases hd:q.1.drop i with
   | nil =>
    rw [hd] at hR
    unfold ZU at hR
    by_cases hch:q.2 st'
    ·rw [if_pos hch] at hR
     have hl:q.1.length≤i:=List.drop_eq_nil_iff.mp hd
     have hstop:=(hJ i O' H' st' kp fz W' hch).2 hl
     have hw:=T.done XC eP eW eK eC i (YF [s.heap.objs.size] s'.heap) s' σc H' (fun _ _=>False) IcA (fok H' _ hfn pA) htn hstop
     rw [eA] at hw
     refine wpAny_mono hw (fun r s1 hr1 => ?_) fun _ _ z=>z
     obtain ⟨rfl,I1⟩:=hr1
     obtain ⟨p1,p2,_⟩:=I1.pin _ (List.mem_append_right _ hpin)
     obtain ⟨m,hm,_⟩:=I1.loc
     have I1':Inv XC [] σc H' s1:=I1.pins_of fun p hp=>I1.pin p (List.mem_append_left _ (by simpa using hp))
     have hCf:=I1.free
     rw [eE] at hm hCf
     refine hRR _ _ H' vs s1 m (Nat.le_of_lt ltC) hCf hm (Nat.ne_of_lt ltC) ?_ (Run.now (k:=New X.K Q) hR W' _ vs hr haccH)
     subst hXC
     exact Zj5 I hf I1' p1 haccH hv (by rw [← hr.length]; exact Nat.le_trans hz YE)
    ·rw [if_neg hch] at hR; exact hR.elim
   | cons x xs =>
    rw [hd] at hR
    unfold ZU at hR
    have hx:q.1[i]?=some x:=by
     have:=List.getElem?_drop (xs:=q.1) (i:=i) (j:=0)
     rw [hd] at this
     simpa using this.symm
    have hxs:q.1.drop (i+1)=xs:=by
     have:=List.drop_drop (i:=1) (j:=i) (l:=q.1)
     rw [hd] at this
     simpa using this.symm
    have hi:i<q.1.length:=(List.getElem?_eq_some_iff.mp hx).1
    by_cases hch:q.2 st'∧ds.length<small
    ·rw [if_pos hch] at hR
     obtain ⟨hgo,hy⟩:=(hJ i O' H' st' kp fz W' hch.1).1 x hx
     have hw:=T.item XC eP eW eK eC i (YF [s.heap.objs.size] s'.heap) s' σc H' (fun _ _=>False) IcA (fok H' _ hfn pA) htn hgo
     rw [eA] at hw
     refine wpAny_mono hw (fun r s1 hr1 => ?_) fun _ _ z=>z
     obtain ⟨u,rfl,hw2⟩:=hr1
     refine wpAny_mono hw2 (fun _ s2 hr2 => ?_) fun _ _ z=>z
     obtain ⟨x',H1,I1,rx,hyl,htn1,hfn1⟩:=hr2
     obtain ⟨ky,Wy,ry⟩:=hy x' H1 hyl
     cases ht:t x ρ' with
     | none=>rw [ht] at hR; exact hR.elim
     | some ρ1 =>
      rw [ht] at hR
      dsimp only at hR
      have I1':Inv XC (YF [s.heap.objs.size] s'.heap++YF fp s2.heap) σc H1 s2:=I1.pinned (fok H1 _ hfn1 pA) fun b hb=>T.obj (i+1) _ htn1 b hb
      generalize hP2:YF [s.heap.objs.size] s'.heap++YF fp s2.heap=P2 at I1'
      have hpa : (s.heap.objs.size, ({ cls := .type "list", data := .seq its.toArray nn } : Obj)) ∈ P2 := hP2 ▸ List.mem_append_left _ hpin
      have hpf:∀ b∈fp,∀ o,s2.heap.get? b=some o→(b,o)∈P2:=fun b hb o e=>hP2 ▸ List.mem_append_right _ (Zbn hb e)
      have back : ∀ {σ2 : L2.St} {H2 : Hp} {s3 : Shared}, Inv XC P2 σ2 H2 s3 → s3.heap.get? s.heap.objs.size = some { cls := .type "list", data := .seq its.toArray nn } ∧ H2 s.heap.objs.size = none ∧ (∀ b ∈ fp, H2 b = none) ∧ (∀ b ∈ fp, ∀ o, s2.heap.get? b = some o → s3.heap.get? b = some o) ∧ Inv XC [] σ2 H2 s3 := by
       intro σ2 H2 s3 I3
       refine ⟨(I3.pin _ (List.mem_append_right _ hpa)).1,(I3.pin _ (List.mem_append_right _ hpa)).2.1,fun b hb => ?_,fun b hb o e=>(I3.pin _ (List.mem_append_right _ (hpf b hb o e))).1,I3.pins_of fun p hp=>I3.pin p (List.mem_append_left _ (by simpa using hp))⟩
       obtain ⟨o,e,_⟩:=T.obj (i+1) _ htn1 b hb
       exact (I3.pin _ (List.mem_append_right _ (hpf b hb o e))).2.1
      have PG1:PGD XC tg t:=by subst hXC; exact B.tgt _ _ _ _
      have PT1:PTs XC ifs cond:=by subst hXC; exact B.tst _ _ _ _
      have PE1:PD XC EX0 elt fe:=by subst hXC; exact B.elt _ _ _ _
      have ha:=PG1 P2 s2 σc H1 x' u (fun σ' H''=>H''=H1∧REnv X.K O' H1 ρ1 σ') I1' rx ⟨O',x,ρ',ρ1,by rw [eK]; exact ry,by rw [eK]; exact E'.mono ky,ht,fun σ' E2=>⟨rfl,by rw [eK] at E2; exact E2⟩⟩
      rw [eP,eW,eA,eX] at ha
      refine wpAny_mono ha (fun _ s3 hr3 => ?_) fun _ _ z=>z
      obtain ⟨σ2,H1',I3,rfl,E2⟩:=hr3
      have hb:=PT1 P2 s3 σ2 H1' (fun b H'' => ∃ O'' stb,cond ρ1 st' = .ok b stb∧Keep X.K O' H1' O'' H''∧WR X.K O'' H'' stb) I3 ⟨O',ρ1,st',by rw [eK]; exact Wy,by rw [eK]; exact E2,by
       rw [eK]
       cases hcnd:cond ρ1 st' with
       | ok b stb=>exact fun O'' H'' k W=>⟨O'',stb,rfl,k,W⟩
       | exc c stb=>rw [hcnd] at hR; exact hR.elim
       | bad=>rw [hcnd] at hR; exact hR.elim⟩
      rw [eP,eW,eA,eX] at hb
      refine wpAny_mono hb (fun ok s4 hr4 => ?_) fun _ _ z=>z
      obtain ⟨H2,I4',O2,stb,hcnd,kb,Wb⟩:=hr4
      rw [hcnd] at hR
      cases ok with
      | false =>
       dsimp only at hR
       obtain ⟨b1,b2,b3,b4,b5⟩:=back I4'
       refine ⟨n - 1,by omega,i+1,O2,ρ1,stb,ds,vs,its,nn,H2,σ2,by omega,b5,kp.trans (ky.trans kb),Wb,E2.mono kb,T.keep _ _ _ htn1 b4,b3,b1,b2,hv,Reps.mono (ky.trans kb) _ _ hr,hz,?_⟩
       rw [hxs]
       exact Run.later hR (ky.trans kb)
      | true =>
       dsimp only at hR
       have he:=PE1 P2 s4 σ2 H2 (fun v H3 => ∃ O3 st3 d,fe ρ1 stb = .ok d st3∧Keep X.K O2 H2 O3 H3∧WR X.K O3 H3 st3∧Rep X.K O3 H3 d v) I4' ⟨O2,ρ1,stb,by rw [eK]; exact Wb,by rw [eK]; exact E2.mono kb,by
        rw [eK]
        cases hfe:fe ρ1 stb with
        | ok d st3=>exact fun O3 H3 k W v r=>⟨O3,st3,d,rfl,k,W,r⟩
        | exc c st3=>rw [hfe] at hR; exact hR.elim
        | bad=>rw [hfe] at hR; exact hR.elim⟩
       rw [eP,eW,eA,eX] at he
       refine wpAny_mono he (fun uv s5 hr5 => ?_) fun _ _ z=>z
       obtain ⟨v,H3,I5,rv,O3,st3,d,hfe,ke,We,re⟩:=hr5
       rw [hfe] at hR
       dsimp only at hR
       obtain ⟨b1,b2,b3,b4,b5⟩:=back I5
       refine Zh0 b1 (fun h6 hg6 hs6 => ?_) (by rw [← hv.length,← hr.length]; exact Nat.le_trans hz YE)
       obtain ⟨f0,f1,f2,f3,f4,f5⟩:=aok H3 b2
       have I6:Inv XC [] σ2 H3 { s5 with heap:=h6 }:=b5.turned (t':=s5.toks) (fun b o hb e=>(hs6.2 b hb).trans e) f0 f1 f3 f4 f5
       refine ⟨n - 1,by omega,i+1,O3,ρ1,st3,ds++[d],vs++[v],its++[uv],nn+1,H3,σ2,by omega,I6,kp.trans (ky.trans (kb.trans ke)),We,E2.mono (kb.trans ke),T.keep _ _ _ htn1 (fun b hb o e=>(hs6.2 b (fpne b hb)).trans (b4 b hb o e)),b3,hg6,b2,hv.append (.cons rv .nil),(Reps.mono (ky.trans (kb.trans ke)) _ _ hr).append (Reps.one re),by rw [List.length_append]; exact hch.2,?_⟩
       rw [hxs]
       exact Run.later hR (ky.trans (kb.trans ke))
    ·rw [if_neg hch] at hR; exact hR.elim
  ·subst es4
   refine ⟨0,O,Z6 ρ caps nT,st,[],[],[],0,H,Wn σ caps nT,rfl,I4,Keep.refl,W,ZiV Er caps nT,T.keep _ _ _ h0 (fun b hb o e=>k4 b o e),fun b hb=>(hf b hb).1,hacc0,I.hok.fresh (Nat.le_refl _),.nil,Reps.nil_i.mpr rfl,Nat.zero_le _,?_⟩
   rw [List.drop_zero]
   exact R
 have e5 : ({ newEnv scope (s.heap.push { cls := .type "list", data := .seq ([] : List Value).toArray }).objs.size X.env.globals (Yp X.env scope.names []) X.env.qual none .none (some X.env) builtinsNs with scope := relabel scope X.env } : Env) = XC.env := by rw [eE]; rfl
 have h5:=loop _ rfl
 refine codeAny_compStart_list ?_ ?_
 ·exact e5 ▸ h5
 ·exact T.self _ 0 _ _ _ (T.keep _ _ _ h0 (fun b hb o e=>k4 b o e)) (e5 ▸ h5)
end
end DL
end
section
namespace DL
open PySem PySem.Spec PyProof.Rows L2
section
variable {X:Cx} {EX:EXT} {scope:Scope} {N:List Str} {caps:List Nat} {nT:Nat} {elt tg iter:Expr} {ifs:List Expr} {pos spos py:Pos} {f:DI} {t:TgD} {cond:DT} {fe:DE} {y:Str}
theorem gone {pins:List (Addr×Obj)} {σ:L2.St} {H H1:Hp} {s s1:Shared} {C:Addr} {h':Heap} (I:Inv X pins σ H s) (hC:s.heap.objs.size≤C) {σ1:L2.St} (I1:Inv X pins σ1 H1 s1) (hn:H1 C=none) (hs:Heap.SameBut C s1.heap h'):Inv X pins σ1 H1 { s1 with heap:=h' }:=by
 refine I1.turned (t':=s1.toks) (fun b o hb e=>(hs.2 b hb).trans e) hn ?_ (.inr (Nat.le_trans I.sz hC)) ?_ ?_
 ·intro z
  exact absurd (Nat.lt_of_lt_of_le I.lt (z ▸ hC)) (Nat.lt_irrefl _)
 ·intro x c hx z
  obtain ⟨v,o,ho,_⟩:=I.cell x c hx
  exact absurd (Nat.lt_of_lt_of_le (Heap.lt_size ho) (z ▸ hC)) (Nat.lt_irrefl _)
 ·intro p hp z
  obtain ⟨h1,_⟩:=I.pin p hp
  exact absurd (Nat.lt_of_lt_of_le (Heap.lt_size h1) (z ▸ hC)) (Nat.lt_irrefl _)
noncomputable def LcI (X:Cx) (EX:EXT) (pins:List (Addr×Obj)) (σ:L2.St) (tg:Expr) (caps:List Nat) (nT:Nat) (t:TgD) (cond:DT) (fe:DE) (Q:VK) (itv:Value) (s2:Shared):Prop :=
 ∃ (it:Addr) (fp:List Addr) (tn:Nat→Heap→Prop) (J:It) (H1:Hp),itv = .ref it∧Inv X pins σ H1 s2∧Turn X.prog X.w X.K tg J fp it tn∧tn 0 s2.heap∧(∀ b∈fp,YO X pins H1 b) ∧
  ∃ O1 ρ q st1 Q',ItF X.K J O1 H1 q∧WR X.K O1 H1 st1∧REnv X.K O1 H1 ρ σ∧Run X.K EX O1 H1 (ZU q.2 t cond fe q.1 (Z6 ρ caps nT) st1 []) (New X.K Q') ∧
   ∀ p vs H2,Q' (.ref p) (upd H2 p (.lst vs))→∃ H3,Q (.ref p) H3∧(∀ C,C≠p→H2 C=none→H3 C=none)∧∀ σ' s',Inv X pins σ' (upd H2 p (.lst vs)) s'→Inv X pins σ' H3 s'
noncomputable def PLc (X:Cx) (EX:EXT) (tg iter:Expr) (caps:List Nat) (nT:Nat) (t:TgD) (cond:DT) (fe:DE) (F:DA):Prop :=
 ∀ (pins:List (Addr×Obj)) (s:Shared) (σ:L2.St) (H:Hp) (Q:VK),Inv X pins σ H s→tDF X.K EX F σ H Q →
  wpAny (model X.prog X.w) X.A (eval iter X.env) (fun v s1=>wpAny (model X.prog X.w) X.A (pyIter v) (LcI X EX pins σ tg caps nT t cond fe Q) X.xe s1) X.xe s
theorem Zfr (hi:PID X EX tg iter f):PLc X EX tg iter caps nT t cond fe (YB caps nT f t cond fe):=by
 rintro pins s σ H Q I ⟨O,ρ,st,W,E,R⟩
 refine wpAny_mono (hi pins s σ H (fun J H1 => ∃ O1 ρ q st1,ItD X.K J O1 H1 q∧WR X.K O1 H1 st1∧REnv X.K O1 H1 ρ σ∧Run X.K EX O1 H1 (ZU q.2 t cond fe q.1 (Z6 ρ caps nT) st1 []) (New X.K Q)) I
  ⟨O,ρ,st,W,E,R.bind.mono fun q st1 O1 H1 k1 W1 R1 J hJ=>⟨O1,ρ,q,st1,hJ,W1,E.mono k1,R1⟩⟩) (fun xv s₁ h₁=>wpAny_mono h₁ (fun itv s₂ h₂ => ?_) fun _ _ e=>e) fun _ _ e=>e
 obtain ⟨it,fp,tn,J,H',rfl,I',T,h0,hf,O1,ρ,q,st1,hJ,W1,E1,R1⟩:=h₂
 exact ⟨it,fp,tn,J,H',rfl,I',T,h0,hf,O1,ρ,q,st1,Q,hJ.fz,W1,E1,R1,fun p vs H2 hq=>⟨_,hq,fun C hC e=>by rw [Zt hC]; exact e,fun _ _ I=>I⟩⟩
theorem ZeF {pins:List (Addr×Obj)} {σ:L2.St} {H:Hp} {s:Shared} (B:Blk X.env.scope scope X.N N caps nT) (I:Inv X pins σ H s):closureFor scope X.env=pure (Yp X.env scope.names []) :=
 Zid fun y hy hk=>I.ok.has y.1 (B.free y hy hk)
theorem Zlz {F:DA} (hc:X.calm=true) (B:BlkOk X scope N caps nT tg elt ifs t cond fe) (hi:PLc X EX tg iter caps nT t cond fe F) (hs:∀ x,foldedSetIterable iter X.env x=pure x:=by intro _; rfl):PDF X EX (.ListComp elt [⟨tg,iter,ifs,0⟩] scope pos) F:=by
 intro pins s σ H Q I h
 rw [eval_ListComp]
 refine wpAny_comprehension_free (use:=none) rfl hs (ZeF B.blk I) B.blk.kind B.blk.names (wpAny_mono (hi pins s σ H _ I h) (fun xv s₁ h₁=>wpAny_mono h₁ (fun itv s₂ h₂ => ?_) fun _ _ e=>e) fun _ _ e=>e)
 obtain ⟨it,fp,tn,J,H',rfl,I',T,h0,hf,O1,ρ,q,st1,Q',hJ,W1,E1,R1,thaw⟩:=h₂
 refine ZgM (RR:=fun acc C=>compPost (model X.prog X.w) X.A X.xe none (EP X pins σ Q) acc C) hc B I' T h0 hf hJ W1 E1 R1 ?_
 intro p C H2 vs s' m hC hn hns hpC I2 hq
 obtain ⟨H3,q3,n3,i3⟩:=thaw p vs H2 hq
 refine ⟨m,hns,fun h' hsb=>⟨.ref p,_,gone I' hC (i3 _ _ I2) (n3 C (Ne.symm hpC) hn) hsb,rfl,q3⟩⟩
theorem W5 (hc:X.calm=true) (B:BlkOk X scope N caps nT tg elt ifs t cond fe) (hi:PID X EX tg iter f) (hs:∀ x,foldedSetIterable iter X.env x=pure x:=by intro _; rfl):PDF X EX (.ListComp elt [⟨tg,iter,ifs,0⟩] scope pos) (YB caps nT f t cond fe):=Zlz hc B (Zfr hi) hs
theorem Zlf {F:DA} (i:Nat) (hc:X.calm=true) (B:BlkOk X scope N caps nT tg elt ifs t cond fe) (hi:PLc X EX tg iter caps nT t cond fe F) (hN:X.N.Nodup) (hy:X.N[i]?=some y) (hx:Loc X.env.scope y)
  (hsw:swapsWith (.ListComp elt [⟨tg,iter,ifs,0⟩] scope pos) (some (.Name y py)) spos.line X.env=pure true)
  (hs:∀ x,foldedSetIterable iter X.env x=pure x:=by intro _; rfl) (hfn:X.fn y=true∨X.env.scope.names.lookup y=some .local:=by first | exact .inl rfl | exact .inr rfl | assumption) :
  PS X (.Assign [.Name y py] (.ListComp elt [⟨tg,iter,ifs,0⟩] scope pos) spos) (fun Dn σ H=>tDF X.K EX F σ H fun v H'=>Dn.nx (σ.set i (some v)) H'):=by
 intro pins s σ H Dn I h
 rw [exec_Assign_Name_used _ _ _ _ hsw]
 refine wpAny_bind (wpAny_standAt (wpAny_bind ?_))
 show wpAny _ X.A (do let _ ← comprehension (.ListComp elt [⟨tg,iter,ifs,0⟩] scope pos) scope X.env _ (newList []) false (eval iter X.env) (some (assign (.Name y py) X.env))) _ _ s
 refine wpAny_bind (wpAny_mono (wpAny_comprehension_free (use:=some (assign (.Name y py) X.env)) (Q:=fun _ s'=>SP X pins Dn .next s') rfl hs (ZeF B.blk I) B.blk.kind B.blk.names
  (wpAny_mono (hi pins s σ H _ I h) (fun xv s₁ h₁=>wpAny_mono h₁ (fun itv s₂ h₂ => ?_) fun _ _ e=>e) fun _ _ e=>e)) (fun _ s' hq=>wpAny_pure (wpAny_pure hq)) fun _ _ e=>e)
 obtain ⟨it,fp,tn,J,H',rfl,I',T,h0,hf,O1,ρ,q,st1,Q',hJ,W1,E1,R1,thaw⟩:=h₂
 refine ZgM (RR:=fun acc C=>compPost (model X.prog X.w) X.A X.xe (some (assign (.Name y py) X.env)) (fun _ s'=>SP X pins Dn .next s') acc C) hc B I' T h0 hf hJ W1 E1 R1 ?_
 intro p C H2 vs s' m hC hn hns hpC I2 hq
 obtain ⟨H3,q3,n3,i3⟩:=thaw p vs H2 hq
 show wpAny _ X.A (assign (.Name y py) X.env (.ref p)) _ _ _
 refine wpAny_assign_Name (ZfC (v:=.ref p) (i3 _ _ I2) hN hy hx rfl (fun s'' I3 hsb => ?_) hfn)
 obtain ⟨a,sb,ha⟩:=hsb
 have hne:C≠a:=by
  intro z
  rcases ha with ha | ha
  ·exact absurd (Nat.lt_of_lt_of_le I'.lt (ha ▸ z ▸ hC)) (Nat.lt_irrefl _)
  ·obtain ⟨v,o,ho,_⟩:=I'.cell _ _ ha
   exact absurd (Nat.lt_of_lt_of_le (Heap.lt_size ho) (z ▸ hC)) (Nat.lt_irrefl _)
 exact ⟨m,hns.at' fun o e=>(sb.2 C hne).trans e,fun h' hsb=>⟨_,_,gone I' hC I3 (n3 C (Ne.symm hpC) hn) hsb,q3⟩⟩
theorem Zjj {F:DA} (i:Nat) (hc:X.calm=true) (B:BlkOk X scope N caps nT tg elt ifs t cond fe) (hi:PLc X EX tg iter caps nT t cond fe F) (hN:X.N.Nodup) (hy:X.N[i]?=some y) (hx:Loc X.env.scope y)
  (hsw:swapsWith (.ListComp elt [⟨tg,iter,ifs,0⟩] scope pos) (some (.Name y py)) spos.line X.env=pure true:=by rfl)
  (hs:∀ x,foldedSetIterable iter X.env x=pure x:=by intro _; rfl) (hfn:X.fn y=true∨X.env.scope.names.lookup y=some .local:=by first | exact .inl rfl | exact .inr rfl | assumption) :
  PDs X EX (.Assign [.Name y py] (.ListComp elt [⟨tg,iter,ifs,0⟩] scope pos) spos) (Zw i (dF F)):=by
 refine PS.mono (Zlf i hc B hi hN hy hx hsw hs hfn) ?_
 rintro Dn σ H ⟨O,ρ,st,W,E,R⟩
 refine ⟨O,ρ,st,W,E,?_⟩
 refine (R.to.bind).mono fun ds st1 O1 H1 k1 W1 R1 p vs r hp => ?_
 have R2:=R1 O1 (upd H1 p (.lst vs)) (Keep.laid hp) (W1.laid hp)
 refine R2 O1 (upd H1 p (.lst vs)) _ Keep.refl (W1.laid hp) ((E.mono (k1.trans (Keep.laid hp))).set (Rep.lst_i.mpr ⟨p,vs,rfl,fun hm => ?_,YR,Reps.mono (Keep.laid hp) _ _ r⟩))
 obtain ⟨j,hj⟩:=List.mem_iff_getElem?.mp hm
 exact W1.ne hj hp rfl
theorem Zhz (i:Nat) (hc:X.calm=true) (B:BlkOk X scope N caps nT tg elt ifs t cond fe) (hi:PID X EX tg iter f) (hN:X.N.Nodup) (hy:X.N[i]?=some y) (hx:Loc X.env.scope y)
  (hsw:swapsWith (.ListComp elt [⟨tg,iter,ifs,0⟩] scope pos) (some (.Name y py)) spos.line X.env=pure true:=by rfl)
  (hs:∀ x,foldedSetIterable iter X.env x=pure x:=by intro _; rfl) (hfn:X.fn y=true∨X.env.scope.names.lookup y=some .local:=by first | exact .inl rfl | exact .inr rfl | assumption) :
  PDs X EX (.Assign [.Name y py] (.ListComp elt [⟨tg,iter,ifs,0⟩] scope pos) spos) (Zw i (dF (YB caps nT f t cond fe))):=Zjj i hc B (Zfr hi) hN hy hx hsw hs hfn
end
end DL
end
section
namespace HT
open PySem PyProof.Rows
section
open PySem.AutoSeq1 (wpAny_loadPart')
theorem noFill_tuple_mul : fillsNumberSlot (.type "tuple") "mul" = pure false :=
 PySem.fillsNumberSlot_seq (id := "tuple.__mul__") (r := some (.builtin "tuple.__rmul__")) F.slot_tuple_mul.lookup (by decide +kernel) F.slot_tuple_rmul.lookup (by decide +kernel)
theorem repeat_tuple : seqRepeat? (.type "tuple") = pure (some (.builtin "tuple.__mul__")) := by
 unfold seqRepeat?
 rw [PySem.seqSlot_of (T := "tuple") (name := "__mul__") (id := "tuple.__mul__") F.slot_tuple_mul.lookup (by decide +kernel), PySem.seqSlot_of (T := "tuple") (name := "__rmul__") (id := "tuple.__rmul__") F.slot_tuple_rmul.lookup (by decide +kernel)]
 rfl
theorem int_rmul_tuple (a:Int) (t:Tok) (l:Addr) (items:Array Value) (n:Nat) (dd:Option Addr) (sl:Array (Option Value)) :
  Meets (Builtin.«int.__rmul__» ⟨[.int a t, .ref l], []⟩) (fun _ R s => s.heap.get? l = some { cls := .type "tuple", dict := dd, data := .seq items n, slots := sl } ∧ R (.ok (.ret Value.notImplemented)) s) :=
 .of_wp fun prog w A R s h=>by obtain ⟨hp,g,d,tk,os⟩:=s; obtain ⟨hl,h⟩:=h; wp_walk using wpAny_loadPart' hl; exact ⟨_,rfl,h⟩
theorem tuple_mulW1 (l:Addr) (items:Array Value) (n:Nat) (dd:Option Addr) (sl:Array (Option Value)) (k:Int) (u:Tok) (hf:¬ (decide (k < -(2 ^ 63)) || decide (k ≥ 2 ^ 63))=true) (hc:(items.isEmpty || k == 1)=true) :
  Meets (Builtin.«tuple.__mul__» ⟨[.ref l, .int k u], []⟩) (fun _ R s => s.heap.get? l = some { cls := .type "tuple", dict := dd, data := .seq items n, slots := sl } ∧ R (.ok (.ret (.ref l))) s) :=
 .of_wp fun prog w A R s h=>by obtain ⟨hp,g,d,tk,os⟩:=s; obtain ⟨hl,h⟩:=h; have f1:=AutoSeq1.idx_int; wp_walk using wpAny_loadPart' hl; refine wpAny_ite_false (decide_eq_false hf) ?_; wp_walk using wpAny_loadPart' hl; exact ⟨_,rfl,h⟩
theorem tuple_mulW2 (l:Addr) (items:Array Value) (n:Nat) (dd:Option Addr) (sl:Array (Option Value)) (k:Int) (u:Tok) (hf:¬ (decide (k < -(2 ^ 63)) || decide (k ≥ 2 ^ 63))=true) (hc:¬ (items.isEmpty || k == 1)=true) (hc2:(decide (k≤0) || items.isEmpty)=true) :
  Meets (Builtin.«tuple.__mul__» ⟨[.ref l, .int k u], []⟩) (fun _ R s => s.heap.get? l = some { cls := .type "tuple", dict := dd, data := .seq items n, slots := sl } ∧ R (.ok (.ret (.ref s.heap.objs.size))) { s with heap := s.heap.push { cls := .type "tuple", data := .seq #[] } }) :=
 .of_wp fun prog w A R s h=>by obtain ⟨hp,g,d,tk,os⟩:=s; obtain ⟨hl,h⟩:=h; have f1:=AutoSeq1.idx_int; wp_walk using wpAny_loadPart' hl; refine wpAny_ite_false (decide_eq_false hf) ?_; wp_walk using wpAny_loadPart' hl; exact ⟨_,rfl,h⟩
theorem tuple_mulW3 (l:Addr) (items:Array Value) (n:Nat) (dd:Option Addr) (sl:Array (Option Value)) (k:Int) (u:Tok) (hf:¬ (decide (k < -(2 ^ 63)) || decide (k ≥ 2 ^ 63))=true) (hc:¬ (items.isEmpty || k == 1)=true) (hc2:¬ (decide (k≤0) || items.isEmpty)=true)
  (hc3:¬ (items.size:Int) * k > (2 ^ 63 - 1) / 8) (hc4:¬ Builtin.Tuple.tupleTooMany ((items.size:Int) * k)=true) (hsz:((List.replicate k.toNat items).foldl (· ++ ·) #[]).size≤sizeLine) :
  Meets (Builtin.«tuple.__mul__» ⟨[.ref l, .int k u], []⟩) (fun _ R s => s.heap.get? l = some { cls := .type "tuple", dict := dd, data := .seq items n, slots := sl } ∧ R (.ok (.ret (.ref s.heap.objs.size))) { s with heap := s.heap.push { cls := .type "tuple", data := .seq ((List.replicate k.toNat items).foldl (· ++ ·) #[]) } }) :=
 .of_wp fun prog w A R s h=>by obtain ⟨hp,g,d,tk,os⟩:=s; obtain ⟨hl,h⟩:=h; have f1:=AutoSeq1.idx_int; wp_walk using wpAny_loadPart' hl; refine wpAny_ite_false (decide_eq_false hf) ?_; wp_walk using wpAny_loadPart' hl; refine wpAny_ite_false (decide_eq_false hc3) ?_; wp_walk using wpAny_loadPart' hl; exact ⟨_,rfl,h⟩
end
end HT
namespace DL
open PySem PySem.Spec PyProof.Rows L2
section
variable {X:Cx} {EX:EXT} {a b c e o:Expr} {fa fb fc fo:DE} {pos p apos:Pos}
noncomputable def Qw (xs:List D) (k:Nat):List D:=(List.replicate k xs).flatten
noncomputable def Yl:D→D→Sto→Out D
 | .tup xs,.int k,st=>if -1000≤k∧k≤1000∧xs.length≤10 then .ok (.tup (Qw xs k.toNat)) st else .bad
 | .str x,.int k,st=>if -1000≤k∧k≤1000∧x.length≤10 then .ok (.str (PySem.Txt.mul x k)) st else .bad
 | a,b,st=>Zbj a b st
theorem ZiB {pins:List (Addr×Obj)} {σ:L2.St} {H:Hp} {s:Shared} {O:List Addr} {st:Sto} {xs:List D} {l:Addr} {vs:List V} {k:Int} {t:Tok} {Q:VK} (I:Inv X pins σ H s) (W:WR X.K O H st) (q:H l=some (.tup vs)) (r:Reps X.K O H xs vs) (hk : -1000≤k∧k≤1000∧xs.length≤10)
  (R:Run X.K EX O H (.ok (.tup (Qw xs k.toNat)) st) (Val X.K Q)):wpAny (model X.prog X.w) X.A (binaryOp .Mult (.ref l) (.int k t)) (EP X pins σ Q) X.xe s:=by
 obtain ⟨its,hv,ht,hz⟩:=I.tuple (SqT.of q)
 obtain ⟨⟨cls,dd,data,sl⟩,ho,hc,n,hd⟩:=id ht
 simp only at hc hd
 subst hc hd
 have lk:its.length≤10:=by rw [← hv.length,← r.length]; exact hk.2.2
 have hf:¬ (decide (k < -(2 ^ 63)) || decide (k ≥ 2 ^ 63))=true:=by
  rw [Bool.or_eq_true,not_or]
  exact ⟨fun h=>by have:=of_decide_eq_true h; omega,fun h=>by have:=of_decide_eq_true h; omega⟩
 have fold:(List.replicate k.toNat its.toArray).foldl (· ++ ·) #[]=(List.replicate k.toNat its).flatten.toArray:=by
  have:=foldl_rep its k.toNat []
  rw [List.nil_append] at this
  exact this
 refine wpAny_binaryOp_repeat_ref (T := "tuple") (U := "int") (by decide) ⟨_, ho, rfl⟩ (fun s' => typeIs_int s' k t) HT.noFill_tuple_mul F.fills_int_mul F.slot_int_rmul HT.repeat_tuple F.slot_int_index.lookup
  (call_meets F.slot_int_rmul (typeIs_int s k t) F.entry_int_rmul (F.args_int_rmul_2 _ _) (HT.int_rmul_tuple k t l its.toArray n dd sl)
   ⟨ho,rfl,⟨_,ho,rfl⟩,?_⟩)
 by_cases h1:(its.toArray.isEmpty || k == 1)=true
 ·refine call_meets F.slot_tuple_mul ⟨_,ho,rfl⟩ F.entry_tuple_mul (F.args_tuple_mul_2 _ _) (HT.tuple_mulW1 l its.toArray n dd sl k t hf h1) ⟨ho,?_⟩
  have e:Qw xs k.toNat=xs:=by
   rw [Bool.or_eq_true] at h1
   rcases h1 with h1 | h1
   ·have h2:its=[]:=by simpa using h1
    have h3:xs=[]:=by
     have:=r.length
     rw [hv.length,h2] at this
     exact List.length_eq_zero_iff.mp this
    subst h3
    unfold Qw
    induction k.toNat with
    | zero=>rfl
    | succ m ih=>rw [List.replicate_succ,List.flatten_cons,ih]; rfl
   ·have h2:k=1:=by simpa using h1
    subst h2
    simp [Qw]
  rw [e] at R
  exact ⟨.ref l,H,I,rfl,Run.now (k:=Val X.K Q) R W _ (Rep.tup_i.mpr ⟨l,vs,rfl,q,r⟩)⟩
 ·by_cases h2:(decide (k≤0) || its.toArray.isEmpty)=true
  ·refine call_meets F.slot_tuple_mul ⟨_,ho,rfl⟩ F.entry_tuple_mul (F.args_tuple_mul_2 _ _) (HT.tuple_mulW2 l its.toArray n dd sl k t hf h1 h2) ⟨ho,?_⟩
   have e:k.toNat=0:=by
    rw [Bool.or_eq_true] at h2 h1
    rcases h2 with h2 | h2
    ·have:=of_decide_eq_true h2; omega
    ·exact absurd (.inl h2) h1
   have hp:=I.hok.fresh (Nat.le_refl s.heap.objs.size)
   rw [e] at R
   refine ⟨.ref s.heap.objs.size,_,I.laid (t':=s.toks) (o:=.tup []) (fun b ob q=>Heap.get?_push_of_some _ q) (Nat.le_refl _) ⟨by decide,[],.nil,IsTup.new _ _,fun o2 e2=>by rw [Heap.get?_push_size _ rfl] at e2; cases e2; rfl⟩,rfl,?_⟩
   exact QP (xs:=Qw xs 0) W (Reps.nil_i.mpr rfl) hp R
  ·have hk0:0<k:=by
    rw [Bool.or_eq_true,not_or] at h2
    have:=of_decide_eq_false (Bool.eq_false_iff.mpr h2.1)
    omega
   have hm:(its.toArray.size:Int) * k≤10000:=by
    have h3:(its.toArray.size:Int)≤10:=by rw [List.size_toArray]; omega
    have h4:(its.toArray.size:Int) * k≤10 * k:=Int.mul_le_mul_of_nonneg_right h3 (by omega)
    omega
   have hlen:((List.replicate k.toNat its).flatten).length≤10000:=by
    rw [len_rep]
    have h3:k.toNat * its.length≤1000 * 10:=Nat.mul_le_mul (by omega) lk
    omega
   have hbig:(10000:Nat)≤sizeLine:=YE
   refine call_meets F.slot_tuple_mul ⟨_,ho,rfl⟩ F.entry_tuple_mul (F.args_tuple_mul_2 _ _) (HT.tuple_mulW3 l its.toArray n dd sl k t hf h1 h2 (by omega) (by
     unfold Builtin.Tuple.tupleTooMany
     intro h
     have:=of_decide_eq_true h
     omega) (by rw [fold,List.size_toArray]; omega)) ⟨ho,?_⟩
   have hp:=I.hok.fresh (Nat.le_refl s.heap.objs.size)
   rw [fold]
   refine ⟨.ref s.heap.objs.size,_,I.laid (t':=s.toks) (o:=.tup (List.replicate k.toNat vs).flatten) (fun b ob q=>Heap.get?_push_of_some _ q) (Nat.le_refl _) ⟨?_,_,hv.rep k.toNat,IsTup.new _ _,fun o2 e2=>by rw [Heap.get?_push_size _ rfl] at e2; cases e2; rfl⟩,rfl,?_⟩
   ·rw [len_rep,hv.length,← len_rep]; omega
   ·exact QP W (r.rep k.toNat) hp R
theorem Qk:OpD X EX (binaryOp .Mult) Yl:=by
 intro pins s σ H x y v u Q I rx ry h
 obtain ⟨O,a,b,st,W,ra,rb,R⟩:=h
 have other:Run X.K EX O H (Zbj a b st) (Val X.K Q)→wpAny (model X.prog X.w) X.A (binaryOp .Mult v u) (EP X pins σ Q) X.xe s:=fun R=>ZmW pins s σ H x y v u Q I rx ry ⟨O,a,b,st,W,ra,rb,R⟩
 cases a <;> cases b <;> first | exact other R | skip
 case tup.int xs k =>
  dsimp only [Yl] at R
  by_cases hk : -1000≤k∧k≤1000∧xs.length≤10
  ·rw [if_pos hk] at R
   rw [Rep.tup_i] at ra
   rw [Rep.int_i] at rb
   subst rb
   obtain ⟨l,vs,rfl,q,r⟩:=ra
   cases rx
   obtain ⟨t,rfl⟩:=ry
   exact ZiB I W q r hk R
  ·rw [if_neg hk] at R; exact R.elim
 case str.int z k =>
  dsimp only [Yl] at R
  by_cases hk : -1000≤k∧k≤1000∧z.length≤10
  ·rw [if_pos hk] at R
   rw [Rep.str_i] at ra
   rw [Rep.int_i] at rb
   subst ra rb
   obtain ⟨t',rfl⟩:=rx
   obtain ⟨t,rfl⟩:=ry
   exact SB.mul (mulOk_of 10 1000 hk.2.2 hk.2.1 (by omega) (by decide) (by decide)) fun t2 k2=>⟨.str (PySem.Txt.mul z k),H,I.tok k2,⟨t2,rfl⟩,Run.now (k:=Val X.K Q) R W _ (Rep.str_i.mpr rfl)⟩
  ·rw [if_neg hk] at R; exact R.elim
end
end DL
end
section
namespace DL
open PySem PySem.Spec PyProof.Rows L2
section
variable {X:Cx} {EX:EXT} {a b e o tg:Expr} {fa fb fo:DE} {g:DA} {pos p px apos cpos:Pos} {x:Str}
noncomputable def Yv (fo fa:DE):DE:=fun ρ st=>(fo ρ st).bind fun d st1=>match d with
 | .res i=>match st1[i]? with
  | some (.lst _)=>(fa ρ st1).bind fun v st2=>match st2[i]? with
   | some (.lst xs)=>if xs.length<small then .ok .non (st2.set i (.lst (xs++[v]))) else .bad
   | _ => .bad
  | _ => .bad
 | _ => .bad
theorem Zdj {K:PySem.W.Frag} {O:List Addr} {H:Hp} {st:Sto} (W:WR K O H st) {i:Nat} {v:V} {xs:List D} (r:Rep K O H (.res i) v) (e:st[i]?=some (.lst xs)):∃ a vs,v = .ref a∧O[i]?=some a∧H a=some (.lst vs)∧Reps K O H xs vs:=by
 rw [Rep.res_i] at r
 obtain ⟨a,rfl,q⟩:=r
 obtain ⟨vs,h1,h2⟩:=W.at_ _ _ _ q e
 exact ⟨a,vs,rfl,q,h1,h2⟩
theorem Qs (ho : PD X EX o fo) (ha : PD X EX a fa) (hbase : attributeBase o "append" X.env (eval o X.env) = eval o X.env := by rfl)
  (hfew:((backTo cpos (starEach [a] X.env)).all (fun x => !x.1) && (backToKw cpos (keywordEach [] X.env)).all (fun x=>x.1.isSome)
   && decide ([a].length+([]:List Keyword).length+(if ([]:List Keyword).isEmpty then 0 else 1)<30))=true:=by rfl)
  (hline : (apos.endLine == cpos.line) = true := by rfl) (hs : starEach [a] X.env = (false, eval a X.env) :: starEach [] X.env := by rfl) (hplain : (backTo cpos (starEach [] X.env)).any (·.1) = false := by rfl) : PD X EX (.Call (.Attribute o "append" apos) [a] [] cpos) (Yv fo fa) := by
 refine PE.mono (Zkc PySem.F.plainAttrs_list PySem.F.slot_list_append PySem.F.type_list_append ZlX ho (Zd ha Zh hs) hbase hfew hline hs hplain) ?_
 rintro σ H Q ⟨O,ρ,st,W,E,R⟩
 refine ⟨O,ρ,st,W,E,R.bind.mono fun d st1 O1 H1 k1 W1 R1 v r => ?_⟩
 cases d with
 | res i =>
  dsimp only at R1
  cases e1:st1[i]? with
  | none=>rw [e1] at R1; exact R1.elim
  | some s1 =>
   rw [e1] at R1
   cases s1 with
   | ins C fs=>exact R1.elim
   | dct kvs=>exact R1.elim
   | dtt kvs=>exact R1.elim
   | fdc kvs=>exact R1.elim
   | lst xs0 =>
    dsimp only at R1
    obtain ⟨pa,vs0,rfl,q0,h0,_⟩:=Zdj W1 r e1
    refine ⟨.inl ⟨rfl,_,SqL.of h0⟩,O1,ρ,st1,W1,E.mono k1,?_⟩
    cases hfa:fa ρ st1 with
    | bad=>rw [hfa] at R1; exact R1.elim
    | exc c st2 =>
     rw [hfa] at R1
     show Run X.K EX O1 H1 (Zc fa Zf ρ st1) _
     unfold Zc
     rw [hfa]
     exact R1
    | ok w st2 =>
     rw [hfa] at R1
     show Run X.K EX O1 H1 (Zc fa Zf ρ st1) _
     unfold Zc
     rw [hfa]
     intro O2 H2 k2 W2 ws rs
     obtain ⟨u,rfl,ru⟩:=Reps.one_of rs
     have R2:=Run.later R1 k2
     dsimp only [Out.bind] at R2
     cases e2:st2[i]? with
     | none=>rw [e2] at R2; exact R2.elim
     | some s2 =>
      rw [e2] at R2
      cases s2 with
      | ins C fs=>exact R2.elim
      | dct kvs=>exact R2.elim
      | dtt kvs=>exact R2.elim
      | fdc kvs=>exact R2.elim
      | lst xs =>
       dsimp only at R2
       by_cases hl:xs.length<small
       ·rw [if_pos hl] at R2
        obtain ⟨pa',vs,e3,q,h1,h2⟩:=Zdj W2 (Rep.mono k2 _ _ r) e2
        cases e3
        refine ⟨pa,vs,u,rfl,rfl,h1,by rw [← h2.length]; exact Nat.lt_of_lt_of_le hl YE,?_⟩
        exact R2 O2 _ (Keep.write W2 q) (W2.writeL q (h2.append (Reps.one ru))) _ (Rep.non_i.mpr rfl)
       ·rw [if_neg hl] at R2; exact R2.elim
 | _=>exact R1.elim
noncomputable def ZaO (fo:DE):DE:=fun ρ st=>(fo ρ st).bind fun d st1=>match d with
 | .res i=>match st1[i]? with
  | some (.lst xs)=>match xs[xs.length - 1]? with
   | some v => .ok v (st1.set i (.lst xs.dropLast))
   | none => .bad
  | _ => .bad
 | _ => .bad
theorem Reps.dropLast {K:PySem.W.Frag} {O:List Addr} {H:Hp} {ds:List D} {vs:List V} (r:Reps K O H ds vs):Reps K O H ds.dropLast vs.dropLast:=by
 rw [List.dropLast_eq_take,List.dropLast_eq_take,r.length]
 exact r.take _
theorem Zk9 (ho : PD X EX o fo) (hbase : attributeBase o "pop" X.env (eval o X.env) = eval o X.env := by rfl) (hline : (apos.endLine == cpos.line) = true := by rfl) : PD X EX (.Call (.Attribute o "pop" apos) [] [] cpos) (ZaO fo) := by
 refine PE.mono (Znl PySem.F.plainAttrs_list PySem.F.slot_list_pop PySem.F.type_list_pop ZjU ho hbase hline) ?_
 rintro σ H Q ⟨O,ρ,st,W,E,R⟩
 refine ⟨O,ρ,st,W,E,R.bind.mono fun d st1 O1 H1 k1 W1 R1 v r => ?_⟩
 cases d with
 | res i =>
  dsimp only at R1
  cases e1:st1[i]? with
  | none=>rw [e1] at R1; exact R1.elim
  | some s1 =>
   rw [e1] at R1
   cases s1 with
   | ins C fs=>exact R1.elim
   | dct kvs=>exact R1.elim
   | dtt kvs=>exact R1.elim
   | fdc kvs=>exact R1.elim
   | lst xs =>
    dsimp only at R1
    obtain ⟨pa,vs,rfl,q,h0,rs⟩:=Zdj W1 r e1
    cases e2:xs[xs.length - 1]? with
    | none=>rw [e2] at R1; exact R1.elim
    | some w =>
     rw [e2] at R1
     obtain ⟨u,h1,h2⟩:=rs.get e2
     refine ⟨.inl ⟨rfl,_,SqL.of h0⟩,pa,vs,u,rfl,rfl,h0,by rw [← rs.length]; exact h1,?_⟩
     exact R1 O1 _ (Keep.write W1 q) (W1.writeL q rs.dropLast) _ (Rep.mono (Keep.write W1 q) _ _ h2)
 | _=>exact R1.elim
end
end DL
end
section
namespace DL
open PySem PySem.Spec PyProof.Rows L2
noncomputable def tyName:D→Option String
 | .non => some "NoneType"
 | .bl _ => some "bool"
 | .int _ => some "int"
 | .str _ => some "str"
 | .tup _ => some "tuple"
 | .lst _ => some "list"
 | _=>none
noncomputable def Qu (t T : String) : Bool := t == T || (t == "bool" && T == "int")
noncomputable def Zc7 : List String := ["NoneType", "bool", "int", "str", "tuple", "list"]
noncomputable def ZbC : List String := ["bool", "int", "str", "tuple", "list"]
theorem Znc (K:PySem.W.Frag):∀ t∈Zc7,∀ T∈ZbC,PySem.W.kitOne K (.type t) (.type T)=some (Qu t T):=by
 intro t ht T hT
 simp only [Zc7,ZbC,List.mem_cons,List.not_mem_nil,or_false] at ht hT
 rcases ht with rfl | rfl | rfl | rfl | rfl | rfl <;> rcases hT with rfl | rfl | rfl | rfl | rfl <;> rfl
theorem Zk3 {d:D} {t:String} (h:tyName d=some t):t∈Zc7:=by
 cases d <;> simp only [tyName,Option.some.injEq,reduceCtorEq] at h <;> subst h <;> decide
section
variable {X:Cx} {EX:EXT} {a b c e o:Expr} {fa fb fc fo:DE} {pos p pT apos:Pos}
theorem ZlS {pins:List (Addr×Obj)} {σ:L2.St} {H:Hp} {s:Shared} {O:List Addr} {st:Sto} {d:D} {v:V} {u:Value} {t T:String} {E:Value→Shared→Prop} {Q:Value→Shared→Prop} (I:Inv X pins σ H s) (W:WR X.K O H st) (r:Rep X.K O H d v) (q:RelV v u) (ht:tyName d=some t) (hT:T∈ZbC)
  (h : ∀ tk, Q (.bool (Qu t T)) { s with toks := tk }) : wpAny (model X.prog X.w) X.A (call (.builtin "isinstance") [u, .type T]) Q E s := by
 have e:=Znc X.K t (Zk3 ht) T hT
 cases d with
 | non=>cases ht; rw [Rep.non_i] at r; subst r; exact ZaF I q .non e h
 | bl b=>cases ht; rw [Rep.bl_i] at r; subst r; exact ZaF I q (.bl b) e h
 | int b=>cases ht; rw [Rep.int_i] at r; subst r; exact ZaF I q (.int b) e h
 | str b=>cases ht; rw [Rep.str_i] at r; subst r; exact ZaF I q (.str b) e h
 | tup ds =>
  cases ht
  rw [Rep.tup_i] at r
  obtain ⟨a,vs,rfl,z,_⟩:=r
  obtain ⟨its,_,⟨o,h1,h2,_⟩,_⟩:=I.tuple (SqT.of z)
  cases q
  exact PySem.W.kia_one PySem.W.kitx_tuple I.kIn ⟨o,h1,h2⟩ e (fun z=>nomatch z) h
 | lst ds =>
  cases ht
  rw [Rep.lst_i] at r
  obtain ⟨a,vs,rfl,_,z,_⟩:=r
  exact ZaF I q (.lst z) e h
 | _=>cases ht
noncomputable def ZaZ (T:String) (f:DE):DE:=fun ρ st=>(f ρ st).bind fun d st1=>match tyName d with
 | some t => .ok (.bl (Qu t T)) st1
 | none => .bad
theorem ZkN {x : Str} {T : String} (hT : T ∈ ZbC) (he : PD X EX e fa) (hg : Gl X "isinstance") (hm : X.mg "isinstance" = none) (hgT : Gl X x) (hmT : X.mg x = none) (hvT : bootBuiltins x = some (.type T)) (hn : x ≠ "__name__" := by decide) (hdb : (x == ("__debug__" : Str)) = false := by decide)
  (hs:starEach [e,.Name x pT] X.env=(false,eval e X.env) :: starEach [.Name x pT] X.env:=by rfl) (hs1:starEach [.Name x pT] X.env=(false,eval (.Name x pT) X.env) :: starEach [] X.env:=by rfl) (hpl:(backTo pos (starEach [.Name x pT] X.env)).any (·.1)=false:=by rfl) :
  PD X EX (.Call (.Name "isinstance" p) [e, .Name x pT] [] pos) (ZaZ T fa) := by
 have hc : YW X (.builtin "isinstance") (fun xs H Q => ∃ v, xs = [v, .ty T] ∧ ∃ O d st t, WR X.K O H st ∧ Rep X.K O H d v ∧ tyName d = some t ∧ Q (.bl (Qu t T)) H) := by
  intro pins s σ H xs us Q I r h
  obtain ⟨v,rfl,O,d,st,t,W,rd,ht,q⟩:=h
  obtain ⟨u,w,rfl,ru,rw'⟩:=vals2 r
  cases rw'
  exact ZlS I W rd ru ht hT fun tk=>⟨.bl _,H,I.tok tk,rfl,q⟩
 refine PE.mono (ZcD hc hg hm PyProof.Rows.boot_isinstance (Zcc he (Zcc (Zkt hgT hmT hvT (v:=.ty T) rfl hn hdb) ZdA hs1) hs) (by decide) (by decide) hs hpl) ?_
 rintro σ H Q ⟨O,ρ,st,W,E,R⟩
 refine ⟨O,ρ,st,W,E,R.bind.mono fun d st1 O1 H1 k1 W1 R1 v r => ?_⟩
 cases ht:tyName d with
 | none=>rw [ht] at R1; exact R1.elim
 | some t =>
  rw [ht] at R1
  exact ⟨v,rfl,O1,d,st1,t,W1,r,ht,Run.now (k:=Val X.K Q) R1 W1 _ (Rep.bl_i.mpr rfl)⟩
noncomputable def Zap (f:DE):DE:=fun ρ st=>(f ρ st).bind fun d st1=>match d with
 | .int i => .ok (.int (-i)) st1
 | _ => .bad
theorem ZcB (ha:PD X EX a fa):PD X EX (.UnaryOp .USub a pos) (Zap fa):=by
 refine PE.mono (ZhI Zni ha) ?_
 rintro σ H Q ⟨O,ρ,st,W,E,R⟩
 refine ⟨O,ρ,st,W,E,R.bind.mono fun d st1 O1 H1 k1 W1 R1 v r => ?_⟩
 cases d with
 | int i=>exact ⟨i,Rep.int_i.mp r,Run.now (k:=Val X.K Q) R1 W1 _ (Rep.int_i.mpr rfl)⟩
 | _=>exact R1.elim
end
structure FnAt (P:Program) (w:World) (K:PySem.W.Frag) (mg:Str→Option Value) (base:Heap) (x:Str) (k:Nat) (F:FD):Prop where
 ex:∃ (f:Addr) (fd:FuncData) (ps:List Str),FnOk P w K mg base CX0 k f fd ps (spD K F)∧mg x=some (.ref f)∧PySem.W.keepIn K (.ref f)=true∧Binds K fd ps []
section
variable {X:Cx} {EX:EXT} {e:Expr} {es:List Expr} {pos p:Pos} {x:Str} {k j:Nat} {F:FD} {g:DA}
theorem ZA (h:FnAt X.prog X.w X.K X.mg X.base x j F) (hr:Room k X.A) (hj:j≤k) (hg:Gl X x) (ha:PDA X EX (e :: es) g)
  (hdb : (x == ("__debug__" : Str)) = false := by decide) (he : starEach (e :: es) X.env = (false, eval e X.env) :: starEach es X.env := by rfl) (hpl : (backTo pos (starEach es X.env)).any (·.1) = false := by rfl) :
  PD X EX (.Call (.Name x p) (e :: es) [] pos) (Zk F g):=by
 obtain ⟨f,fd,ps,G,hm,hk,hb⟩:=h.ex
 exact ZhB G (hr.mono hj) hg hm hk hb xe0 ha hdb he hpl
end
theorem fnAt {P:Program} {w:World} {K:PySem.W.Frag} {mg:Str→Option Value} {base:Heap} {x qual:Str} {st:Stmt} {f:Addr} {fd:FuncData} {N ps:List Str} {k:Nat} {g:DS} (F:Fun K x qual st f fd) (S:FnScope N ps (Zi st)) (hm:mg x=some (.ref f)) (hb:Binds K fd ps [])
  (hbody:∀ (cdv:Value) (A:Around) (outer:List Env) (s:Shared) (H:Hp) (E:XK),Room k (A.deeper (envOfC qual (Zi st) s.heap.objs.size f cdv)) →
   PDS (Z1 CX0 P w K mg base N qual (Zi st) f cdv A outer s H E).nox EX0 (Zv st) g):FnAt P w K mg base x (k+1) (ZQ N.length ps.length g) :=
 ⟨f,fd,ps,fnD F S hbody,hm,F.kp,hb⟩
end DL
end
section
namespace DL
open PySem PySem.Spec PyProof.Rows L2
noncomputable def Wr:List D→Option (List Bool)
 | []=>some []
 | .bl b :: ds=>(Wr ds).map (b :: ·)
 | _=>none
theorem Zjt {K:PySem.W.Frag} {O:List Addr} {H:Hp}:∀ {ds:List D} {vs:List V} {us:List Value} {bs:List Bool},Wr ds=some bs→Reps K O H ds vs→Vals vs us→PyProof.Rows.LSm.BoolsAre us bs:=by
 intro ds
 induction ds with
 | nil =>
  intro vs us bs e r q
  cases e
  rw [Reps.nil_i] at r
  subst r
  cases q
  exact .nil
 | cons d ds ih =>
  intro vs us bs e r q
  obtain ⟨v,ws,rfl,r1,r2⟩:=Reps.cons_i.mp r
  cases d with
  | bl b =>
   dsimp only [Wr] at e
   cases e2:Wr ds with
   | none=>rw [e2] at e; cases e
   | some cs =>
    rw [e2] at e
    cases e
    rw [Rep.bl_i] at r1
    subst r1
    cases q with
    | cons q1 q2 =>
     cases q1
     exact .cons b (ih e2 r2 q2)
  | _=>cases e
end DL
end
section
namespace DL
open PySem PySem.Spec PyProof.Rows L2
noncomputable abbrev Cx.at (X:Cx) (A:Around) (pn:List (Addr×Obj)) (E:Value→Shared→Prop):Cx:={ X with A:=A,calm:=false,pn:=pn,xe:=E }
noncomputable abbrev Cx.pinned (X:Cx) (pn:List (Addr×Obj)) (E:Value→Shared→Prop):Cx:={ X with pn:=pn,xe:=E }
structure RoomH (k:Nat) (A:Around):Prop where
 dp:A.depth+3 * k+5<recursionLimit
 un:A.units+16 * k+200<cLine
theorem RoomH.mono {j k:Nat} {A:Around} (r:RoomH k A) (h:j≤k):RoomH j A:=⟨by have:=r.dp; omega,by have:=r.un; omega⟩
theorem RoomH.deeper {k:Nat} {A:Around} (r:RoomH (k+1) A) (env:Env):RoomH k (A.deeper env):=⟨by have:=r.dp; show A.depth+1+3 * k+5<_; omega,by have:=r.un; show A.units+3+16 * k+200<_; omega⟩
theorem RoomH.of {k:Nat} {A:Around} (r:Room k A) (e:Option Value):RoomH k (A.mark e):=⟨r.dp,r.un⟩
theorem RoomH.units {k:Nat} {A:Around} (r:RoomH k A):A.units+64<cLine:=by have:=r.un; omega
end DL
end
section
namespace DL
open PySem PySem.Spec PyProof.Rows L2
section
variable {ρ:Ev} {st:Sto} {f fo:DE} {da:DA} {g:DS} {C:Addr}
@[simp] theorem ZnY {α β:Type} (c:Addr) (st:Sto) (k:α→Sto→Out β):(Out.exc c st:Out α).bind k = .exc c st:=rfl
@[simp] theorem ZnE {α:Type} (c:Addr) (st:Sto) (k:α→Sto→OutS):(Out.exc c st:Out α).to k = .exc c st:=rfl
end
end DL
end
section
namespace DL
open PySem PySem.Spec PyProof.Rows L2
theorem us1 {P:List Value→Prop} (h:∀ a,P [a]):∀ us:List Value,us.length=1→P us
 | [a],_=>h a
theorem us2 {P:List Value→Prop} (h:∀ a b,P [a,b]):∀ us:List Value,us.length=2→P us
 | [a,b],_=>h a b
theorem us3 {P:List Value→Prop} (h:∀ a b c,P [a,b,c]):∀ us:List Value,us.length=3→P us
 | [a,b,c],_=>h a b c
end DL
end
section
namespace SO
open PySem PySem.W PyProof.Rows
noncomputable def ok {α:Type} (n:Nat) (lt:Nat→Nat→Bool):KasT α→(α→Prop)→Prop
 | .ret a,Q=>Q a
 | .ask i j k,Q=>i<n∧j<n∧ok n lt (k (lt i j)) Q
section
variable {α β:Type} {n:Nat} {lt:Nat→Nat→Bool}
theorem Q9 {f:α→KasT β} {Q:β→Prop}:∀ {t:KasT α},ok n lt t (fun a=>ok n lt (f a) Q)→ok n lt (t.bind f) Q
 | .ret _,h=>h
 | .ask _ _ k,⟨h1,h2,h3⟩=>⟨h1,h2,Q9 (t:=k _) h3⟩
theorem WX {Q Q':α→Prop} (f:∀ a,Q a→Q' a):∀ {t:KasT α},ok n lt t Q→ok n lt t Q'
 | .ret _,h=>f _ h
 | .ask _ _ k,⟨h1,h2,h3⟩=>⟨h1,h2,WX f (t:=k _) h3⟩
theorem ZfK {cmp:Nat→Nat→(Bool→Shared→Prop)→Shared→Prop} {s:Shared} {G:α→Shared→Prop} {Q:α→Prop} (hc:∀ i j C,i<n→j<n→C (lt i j) s→cmp i j C s) (hG:∀ a,Q a→G a s):∀ {t:KasT α},ok n lt t Q→t.kasWp cmp G s
 | .ret _,h=>hG _ h
 | .ask i j k,⟨h1,h2,h3⟩=>hc i j _ h1 h2 (ZfK hc hG (t:=k _) h3)
end
structure Ord (n:Nat) (lt:Nat→Nat→Bool):Prop where
 tot:∀ i j,i<n→j<n→i≠j→lt i j=false→lt j i=true
 asy:∀ i j,i<n→j<n→lt i j=true→lt j i=false
 trn:∀ i j k,i<n→j<n→k<n→lt i j=true→lt j k=true→lt i k=true
noncomputable def Al (n:Nat) (p:Array Nat):Prop:=p.toList.Perm (List.range n)
noncomputable abbrev G (p:Array Nat) (i:Nat):Nat:=p.getD i 0
section
variable {n:Nat} {lt:Nat→Nat→Bool} {p:Array Nat}
theorem Al.size (h:Al n p):p.size=n:=by have:=h.length_eq; simpa using this
theorem Zaq (i:Nat) (h:i<p.size):G p i=p[i]:=by simp [G,Array.getD,h]
theorem Al.bel (h:Al n p) (i:Nat) (hn:0<n):G p i<n:=by
 by_cases hi:i<p.size
 ·rw [Zaq i hi]
  have:p[i]∈p.toList:=by simp
  have:=h.mem_iff.mp this
  simpa using this
 ·simp [G,Array.getD,hi,hn]
theorem Al.inj (h:Al n p) {i j:Nat} (hi:i<n) (hj:j<n) (ne:i≠j):G p i≠G p j:=by
 have nd:p.toList.Nodup:=h.nodup_iff.mpr List.nodup_range
 have hs:=h.size
 rw [Zaq i (by omega),Zaq j (by omega)]
 intro e
 have:=(List.getElem_inj (i:=i) (j:=j) (h₀:=by simpa using (by omega:i<p.size)) (h₁:=by simpa using (by omega:j<p.size)) nd).mp (by simpa using e)
 exact ne this
theorem ZaE {q:Array Nat} {i j:Nat} (h:p[i]?=q[j]?):G p i=G q j:=by
 simp only [G,Array.getD_eq_getD_getElem?,h]
noncomputable def SP (lt:Nat→Nat→Bool) (p:Array Nat) (k:Nat):Prop:=∀ i j,i<j→j<k→lt (G p i) (G p j)=true
noncomputable def DP (lt:Nat→Nat→Bool) (p:Array Nat) (k:Nat):Prop:=∀ i j,i<j→j<k→lt (G p j) (G p i)=true
theorem SP.one:SP lt p 1:=fun i j h1 h2=>by omega
theorem SP.next (O:Ord n lt) (h:Al n p) {m:Nat} (h1:1≤m) (hm:m<n) (s:SP lt p m) (e:lt (G p (m - 1)) (G p m)=true):SP lt p (m+1):=by
 intro i j hij hj
 by_cases hjm:j<m
 ·exact s i j hij hjm
 ·have:j=m:=by omega
  subst this
  by_cases hi:i=j - 1
  ·subst hi; exact e
  ·exact O.trn _ _ _ (h.bel _ (by omega)) (h.bel _ (by omega)) (h.bel _ (by omega)) (s i (j - 1) (by omega) (by omega)) e
theorem DP.next (O:Ord n lt) (h:Al n p) {m:Nat} (h1:1≤m) (hm:m<n) (s:DP lt p m) (e:lt (G p m) (G p (m - 1))=true):DP lt p (m+1):=by
 intro i j hij hj
 by_cases hjm:j<m
 ·exact s i j hij hjm
 ·have:j=m:=by omega
  subst this
  by_cases hi:i=j - 1
  ·subst hi; exact e
  ·exact O.trn _ _ _ (h.bel _ (by omega)) (h.bel _ (by omega)) (h.bel _ (by omega)) e (s i (j - 1) (by omega) (by omega))
theorem ZbR (O:Ord n lt) (h:Al n p):∀ (f m:Nat),1≤m→m+f=n→SP lt p m→ok n lt (kas_asc p f m) (fun r=>m≤r∧r≤n∧SP lt p r∧(r<n→lt (G p r) (G p (r - 1))=true))
 | 0,m,h1,hf,s=>⟨Nat.le_refl _,by omega,s,fun z=>by omega⟩
 | f+1,m,h1,hf,s=>by
  unfold kas_asc
  refine ⟨h.bel _ (by omega),h.bel _ (by omega),?_⟩
  cases e:lt (p.getD m 0) (p.getD (m - 1) 0) with
  | true =>
   dsimp only
   rw [if_pos rfl]
   exact ⟨Nat.le_refl _,by omega,s,fun _=>e⟩
  | false =>
   dsimp only
   rw [if_neg (by simp)]
   have e':=O.tot _ _ (h.bel _ (by omega)) (h.bel _ (by omega)) (h.inj (i:=m) (j:=m - 1) (by omega) (by omega) (by omega)) e
   exact WX (fun r z=>⟨Nat.le_of_succ_le z.1,z.2⟩) (ZbR O h f (m+1) (by omega) (by omega) (s.next O h h1 (by omega) e'))
theorem ZgC (O:Ord n lt) (h:Al n p):∀ (f m:Nat),1≤m→m+f=n→DP lt p m→ok n lt (kas_desc f p m 0) (fun r=>r.1=p∧r.2.2=0∧m≤r.2.1∧r.2.1≤n∧DP lt p r.2.1)
 | 0,m,h1,hf,s=>⟨rfl,rfl,Nat.le_refl _,(by omega:m≤n),s⟩
 | f+1,m,h1,hf,s=>by
  unfold kas_desc
  refine ⟨h.bel _ (by omega),h.bel _ (by omega),?_⟩
  cases e:lt (p.getD m 0) (p.getD (m - 1) 0) with
  | true =>
   dsimp only
   rw [if_pos rfl,if_neg (Nat.lt_irrefl 0)]
   exact WX (fun r z=>⟨z.1,z.2.1,Nat.le_of_succ_le z.2.2.1,z.2.2.2⟩) (ZgC O h f (m+1) (by omega) (by omega) (s.next O h h1 (by omega) e))
  | false =>
   dsimp only
   rw [if_neg (by simp)]
   have e':=O.tot _ _ (h.bel _ (by omega)) (h.bel _ (by omega)) (h.inj (i:=m) (j:=m - 1) (by omega) (by omega) (by omega)) e
   refine ⟨h.bel _ (by omega),h.bel _ (by omega),?_⟩
   rw [e']
   dsimp only
   rw [if_pos rfl]
   exact ⟨rfl,rfl,Nat.le_refl _,(by omega:m≤n),s⟩
theorem Al.rev (h:Al n p) (m:Nat):Al n (kas_rev p 0 m):=((mirror_perm p 0 m _).toList).trans h
theorem Ze3 {m:Nat} (hm:m≤p.size) (k:Nat):G (kas_rev p 0 m) k=if k<m then G p (m - 1 - k) else G p k:=by
 have e:=getElem?_mirror_all (xs:=p) (i:=0) hm k
 by_cases hk:k<m
 ·rw [if_pos hk]
  rw [if_pos ⟨Nat.zero_le _,hk⟩] at e
  rw [show 0+m - 1 - k=m - 1 - k by omega] at e
  exact ZaE e
 ·rw [if_neg hk]
  rw [if_neg (fun z=>hk z.2)] at e
  exact ZaE e
theorem ZiG (h:Al n p) {m:Nat} (hm:m≤n) (d:DP lt p m):SP lt (kas_rev p 0 m) m:=by
 intro i j hij hj
 have hs:=h.size
 rw [Ze3 (by omega),Ze3 (by omega),if_pos (by omega),if_pos hj]
 exact d _ _ (by omega) (by omega)
theorem Zlu (O:Ord n lt) (h:Al n p) {m:Nat} (h1:1≤m) (hm:m≤n) (d:DP lt p m):ok n lt (kas_tail3 m n p) (fun r=>Al n r.2∧1≤r.1∧r.1≤n∧SP lt r.2 r.1):=by
 unfold kas_tail3
 refine Q9 (WX (fun r z => ?_) (ZbR O (h.rev m) (n - m) m h1 (by omega) (ZiG h hm d)))
 exact ⟨h.rev m,by omega,z.2.1,z.2.2.1⟩
theorem ZhW (O:Ord n lt) (h:Al n p) (hn:1≤n):ok n lt (kas_count n p) (fun r=>Al n r.2∧1≤r.1∧r.1≤n∧SP lt r.2 r.1):=by
 unfold kas_count
 refine Q9 (WX (fun r z => ?_) (ZbR O h (n - 1) 1 (Nat.le_refl _) (by omega) SP.one))
 obtain ⟨z1,z2,z3,z4⟩:=z
 by_cases hr:r=n
 ·subst hr
  simp only [beq_self_eq_true,if_true]
  exact ⟨h,z1,z2,z3⟩
 ·have hb:(r == n)=false:=by simp [hr]
  rw [hb,if_neg (by simp)]
  by_cases h1:r > 1
  ·rw [if_pos h1]
   refine ⟨h.bel _ (by omega),h.bel _ (by omega),?_⟩
   have e:lt (p.getD 0 0) (p.getD (r - 1) 0)=true:=z3 0 (r - 1) (by omega) (by omega)
   rw [e]
   dsimp only
   rw [if_pos rfl]
   exact ⟨h,z1,z2,z3⟩
  ·rw [if_neg h1]
   have:r=1:=by omega
   subst this
   unfold kas_descPart
   have d2:DP lt p 2:=by
    intro i j hij hj
    have hi:i=0:=by omega
    have hj':j=1:=by omega
    subst hi hj'
    exact z4 (by omega)
   refine Q9 (WX (fun r w => ?_) (ZgC O h (n - (1+1)) (1+1) (by omega) (by omega) d2))
   obtain ⟨w1,w2,w3,w4,w5⟩:=w
   obtain ⟨r1,r2,r3⟩:=r
   dsimp only at w1 w2 w3 w4 w5 ⊢
   subst w1 w2
   rw [if_neg (Nat.lt_irrefl 0)]
   exact Zlu O h (by omega) w4 w5
theorem Zcw (O:Ord n lt) (h:Al n p) {k:Nat} (hk:k<n):∀ (f l r:Nat),r - l≤f→l≤r→r≤k→(∀ i,i<l→lt (G p i) (G p k)=true)→(∀ i,r≤i→i<k→lt (G p k) (G p i)=true)→SP lt p k →
  ok n lt (kas_place p k f l r) (fun m=>m≤k∧(∀ i,i<m→lt (G p i) (G p k)=true)∧∀ i,m≤i→i<k→lt (G p k) (G p i)=true)
 | 0,l,r,hf,hl,hr,a,b,s=>by
  have:l=r:=by omega
  subst this
  exact ⟨hr,a,b⟩
 | f+1,l,r,hf,hl,hr,a,b,s=>by
  unfold kas_place
  by_cases hlr:l ≥ r
  ·rw [if_pos hlr]
   have:l=r:=by omega
   subst this
   exact ⟨hr,a,b⟩
  ·rw [if_neg hlr]
   refine ⟨h.bel _ (by omega),h.bel _ (by omega),?_⟩
   have hm1:l≤(l+r) / 2:=by omega
   have hm2:(l+r) / 2<r:=by omega
   cases e:lt (p.getD k 0) (p.getD ((l+r) / 2) 0) with
   | true =>
    dsimp only
    rw [if_pos rfl]
    refine Zcw O h hk f l ((l+r) / 2) (by omega) hm1 (by omega) a (fun i hi1 hi2 => ?_) s
    by_cases hi:i=(l+r) / 2
    ·subst hi; exact e
    ·exact O.trn _ _ _ (h.bel _ (by omega)) (h.bel _ (by omega)) (h.bel _ (by omega)) e (s _ _ (by omega) hi2)
   | false =>
    dsimp only
    rw [if_neg (by simp)]
    have e':=O.tot _ _ (h.bel _ (by omega)) (h.bel _ (by omega)) (h.inj (i:=k) (j:=(l+r) / 2) hk (by omega) (by omega)) e
    refine Zcw O h hk f ((l+r) / 2+1) r (by omega) (by omega) hr (fun i hi => ?_) b s
    by_cases hi2:i=(l+r) / 2
    ·subst hi2; exact e'
    ·exact O.trn _ _ _ (h.bel _ (by omega)) (h.bel _ (by omega)) (h.bel _ (by omega)) (s i ((l+r) / 2) (by omega) (by omega)) e'
theorem Al.bub (h:Al n p) (k d:Nat):Al n (bubble p k d):=((bubble_perm p k d).toList).trans h
theorem Zgp {k d:Nat} (hk:k<p.size) (hd:d≤k) (i:Nat):G (bubble p k d) i=if i=k - d then G p k else if k - d<i∧i≤k then G p (i - 1) else G p i:=by
 have e:=getElem?_bubble hk d hd i
 by_cases h1:i=k - d
 ·rw [if_pos h1] at e ⊢; exact ZaE e
 ·rw [if_neg h1] at e ⊢
  by_cases h2:k - d<i∧i≤k
  ·rw [if_pos h2] at e ⊢; exact ZaE e
  ·rw [if_neg h2] at e ⊢; exact ZaE e
theorem ZdO (O:Ord n lt):∀ (f k:Nat) (p:Array Nat),Al n p→k+f=n→SP lt p k→ok n lt (kas_bin f p k) (fun q=>Al n q∧SP lt q n)
 | 0,k,p,h,hf,s=>by
  have:k=n:=by omega
  subst this
  exact ⟨h,s⟩
 | f+1,k,p,h,hf,s=>by
  unfold kas_bin
  refine Q9 (WX (fun m z => ?_) (Zcw O h (by omega) k 0 k (by omega) (Nat.zero_le _) (Nat.le_refl _) (fun i hi=>by omega) (fun i h1 h2=>by omega) s))
  obtain ⟨z1,z2,z3⟩:=z
  refine ZdO O f (k+1) _ (h.bub k (k - m)) (by omega) ?_
  have hs:=h.size
  intro i j hij hj
  rw [Zgp (by omega) (by omega),Zgp (by omega) (by omega)]
  have hkm:k - (k - m)=m:=by omega
  rw [hkm]
  by_cases hi:i=m
  ·rw [if_pos hi,if_neg (by omega),if_pos (by omega)]
   exact z3 _ (by omega) (by omega)
  ·rw [if_neg hi]
   by_cases hj':j=m
   ·rw [if_pos hj',if_neg (by omega)]
    exact z2 _ (by omega)
   ·rw [if_neg hj']
    by_cases hi3:m<i∧i≤k
    ·rw [if_pos hi3,if_pos (by omega)]
     exact s _ _ (by omega) (by omega)
    ·rw [if_neg hi3]
     by_cases hj3:m<j∧j≤k
     ·rw [if_pos hj3]
      by_cases hij2:i=j - 1
      ·omega
      ·exact s _ _ (by omega) (by omega)
     ·rw [if_neg hj3]
      exact s _ _ hij (by omega)
theorem Zly (O:Ord n lt) (hn:1≤n):ok n lt (kas_sort n) (fun q=>Al n q∧SP lt q n):=by
 unfold kas_sort
 refine Q9 (WX (fun r z => ?_) (ZhW O (show Al n (List.toArray (List.range n)) from List.Perm.refl _) hn))
 obtain ⟨z1,z2,z3,z4⟩:=z
 by_cases hr:r.1<n
 ·rw [if_pos hr,show max r.1 1=r.1 by omega]
  exact ZdO O _ _ _ z1 (by omega) z4
 ·rw [if_neg hr]
  have:r.1=n:=by omega
  rw [this] at z4
  exact ⟨z1,z4⟩
end
end SO
end
section
set_option maxHeartbeats 2000000
namespace SO
open PySem PySem.W PyProof.Rows
theorem SP.pw {n:Nat} {lt:Nat→Nat→Bool} {p:Array Nat} (h:Al n p) (s:SP lt p n):p.toList.Pairwise (fun i j=>lt i j=true):=by
 rw [List.pairwise_iff_getElem]
 intro i j hi hj hij
 have hs:=h.size
 simp only [Array.length_toList] at hi hj
 have:=s i j hij (by omega)
 rw [Zaq i hi,Zaq j hj] at this
 simpa using this
section
variable {prog:Program} {w:World} {A:Around} {E:Value→Shared→Prop} {s:Shared}
noncomputable abbrev KB (s:Shared) (a:Addr) (h':Heap):Prop:=∀ b o,b≠a→s.heap.get? b=some o→h'.get? b=some o
structure Cmp (prog:Program) (w:World) (s:Shared) (a:Addr) (vs:List Value) (κ:SortKind) (lt:Nat→Nat→Bool):Prop where
 kind:2≤vs.length→∀ (h':Heap) (A:Around) (E:Value→Shared→Prop) (Q:SortKind→Shared→Prop),KB s a h'→Q κ { s with heap:=h' }→wpAny (model prog w) A (keyKind' vs.toArray) Q E { s with heap:=h' }
 less:2≤vs.length→∀ (h':Heap) (A:Around) (E:Value→Shared→Prop) (Q:Bool→Shared→Prop) (i j:Nat),KB s a h'→i<vs.length→j<vs.length→Q (lt i j) { s with heap:=h' }→wpAny (model prog w) A (keyLt' κ (vs.getD i .none) (vs.getD j .none)) Q E { s with heap:=h' }
theorem Zfs {g : Heap} {a : Addr} {e1 : Nat} {vs : List Value} {p : List Nat} {f : Bool → Sem PySem.Fin} {P : PySem.Fin → Shared → Prop} (hoa : g.get? a = some (seqObj "list" #[] e1)) (h64 : vs.length < 64) (hp : p.Perm (List.range vs.length))
  (k : ∀ h' c, (∀ b o, b ≠ a → g.get? b = some o → h'.get? b = some o) → h'.get? a = some (seqObj "list" (p.map fun i => vs.getD i .none).toArray c) → wpAny (model prog w) A (f false) P E { s with heap := h' }) :
  wpAny (model prog w) A (seqEpoch a >>= fun e=>Builtin.List.listUpdate (.ref a) (fun _=>(p.map fun i=>vs.getD i Value.none).toArray) >>= fun _=>f (e != e1)) P E { s with heap:=g }:=by
 have z:((p.map fun i=>vs.getD i Value.none).toArray).size≤sizeLine+1:=by
  rw [List.size_toArray,List.length_map,hp.length_eq,List.length_range,sizeLine_eq]
  omega
 have s2:=Heap.SameBut.update g a (Obj.mapSeq fun _=>(p.map fun i=>vs.getD i Value.none).toArray)
 refine wpAny_bind (seqEpoch_at hoa rfl (wpAny_bind (listUpdate_at hoa rfl ?_ (Nat.zero_le _) z)))
 rw [bne_self_eq_false]
 exact k _ _ (fun b o ne e=>s2.extBut b o ne e) (get?_update_seq hoa fun _=>(p.map fun i=>vs.getD i Value.none).toArray)
theorem ZmD {a : Addr} {vs : List Value} {n0 : Nat} {κ : SortKind} {lt : Nat → Nat → Bool} {P : PySem.Fin → Shared → Prop} (ho : s.heap.get? a = some (seqObj "list" vs.toArray n0)) (h64 : vs.length < 64)
  (C:Cmp prog w s a vs κ lt) (O:Ord vs.length lt)
  (k : ∀ p : List Nat, p.Perm (List.range vs.length) → p.Pairwise (fun i j => lt i j = true) → ∀ h' c, KB s a h' → h'.get? a = some (seqObj "list" (p.map fun i => vs.getD i .none).toArray c) → P (.done (.ret .none)) { s with heap := h' }) :
  wpAny (model prog w) A (Builtin.«list.sort» ⟨[.ref a],[]⟩) P E s:=by
 have ha:a<s.heap.objs.size:=Heap.lt_size ho
 have s1:=Heap.SameBut.update s.heap a (Obj.mapSeq fun _=>(#[]:Array Value))
 obtain ⟨e1, ho1⟩ : ∃ e1, (s.heap.update a (Obj.mapSeq fun _ => (#[] : Array Value))).get? a = some (seqObj "list" #[] e1) := ⟨_, get?_update_seq ho fun _ => #[]⟩
 have hk : KB s a (((s.heap.update a (Obj.mapSeq fun _ => (#[] : Array Value))).push (seqObj "tuple" vs.toArray 0)).push (seqObj "list" #[] 0)) := fun b o hb e =>
  Heap.get?_push_of_some _ (Heap.get?_push_of_some _ (s1.extBut b o hb e))
 have hoa : (((s.heap.update a (Obj.mapSeq fun _ => (#[] : Array Value))).push (seqObj "tuple" vs.toArray 0)).push (seqObj "list" #[] 0)).get? a = some (seqObj "list" #[] e1) := Heap.get?_push_of_some _ (Heap.get?_push_of_some _ ho1)
 rw [list_sort_plain]
 refine wpAny_bind (listItems_at ho rfl ?_)
 refine wpAny_bind (listUpdate_at ho rfl ?_ (by rw [List.size_toArray,sizeLine_eq]; omega) (Nat.zero_le _))
 refine wpAny_bind (seqEpoch_at ho1 rfl ?_)
 refine wpAny_bind (wpAny_newTuple ?_ (by show vs.length≤_; rw [sizeLine_eq]; omega))
 refine wpAny_bind (wpAny_newList ?_ (Nat.zero_le _))
 refine wpAny_holding ?_
 show wpAny (model prog w) A _ P E { s with heap := ((s.heap.update a (Obj.mapSeq fun _ => (#[] : Array Value))).push (seqObj "tuple" vs.toArray 0)).push (seqObj "list" #[] 0) }
 generalize hg : ((s.heap.update a (Obj.mapSeq fun _ => (#[] : Array Value))).push (seqObj "tuple" vs.toArray 0)).push (seqObj "list" #[] 0) = g at hk hoa
 dsimp only
 by_cases h2:vs.length<2
 ·have hn2:vs.toArray.size<2:=by rw [List.size_toArray]; omega
  rw [if_pos hn2,if_pos hn2]
  refine wpAny_bind (wpAny_pure (wpAny_bind (wpAny_pure ?_)))
  have hm:(arrOf (SortSt.mk' general' (vs.toArray.zip vs.toArray) #[] 7 none)).map (·.2)=((List.range vs.length).map fun i=>vs.getD i Value.none).toArray:=by
   show (vs.toArray.zip vs.toArray).map (·.2)=_
   match vs,h2 with
   | [],_=>simp
   | [v],_=>simp [List.range_succ]
  have hpw:(List.range vs.length).Pairwise (fun i j=>lt i j=true):=by
   match vs,h2 with
   | [],_=>exact .nil
   | [v],_=>exact List.pairwise_singleton _ _
  have hf:failedOf (SortSt.mk' general' (vs.toArray.zip vs.toArray) #[] 7 none)=none:=rfl
  dsimp only
  rw [hm]
  refine Zfs (f:=fun b=>if b=true then _ else _) hoa h64 (List.Perm.refl _) fun h' c hb hc => ?_
  simp only [Bool.false_eq_true,if_false]
  exact wpAny_pure (k _ (List.Perm.refl _) hpw h' c (fun b o ne e=>hb b o ne (hk b o ne e)) hc)
 ·have hn2:¬ vs.toArray.size<2:=by rw [List.size_toArray]; omega
  rw [if_neg hn2,if_neg hn2]
  refine wpAny_bind (C.kind (by omega) g A E _ hk ?_)
  refine wpAny_bind (wpAny_mono (kat_run (κ:=κ) (ks:=vs) (vs:=vs) (G:=fun p s'=>Al vs.length p∧SP lt p vs.length∧s' = { s with heap:=g }) (Q:=fun st' s' => ∃ p:Array Nat,arrOf st'=p.map (kas_item (vs.toArray.zip vs.toArray))∧failedOf st'=none∧Al vs.length p∧SP lt p vs.length∧s' = { s with heap:=g })
   rfl (by omega) h64 (fun p st' s' _ h1 h2 h3=>⟨p,h1,h2,h3⟩) ?_) ?_ fun _ _ e=>e)
  ·refine ZfK (Q:=fun p=>Al vs.length p∧SP lt p vs.length) (fun i j D hi hj hD => ?_) (fun p z=>⟨z.1,z.2,rfl⟩) (Zly O (by omega))
   exact C.less (by omega) g A _ _ i j hk hi hj hD
  ·rintro ⟨⟨⟩,st'⟩ s' ⟨p,har,hf,hA,hS,rfl⟩
   dsimp only
   rw [kat_snds rfl har,hf]
   refine Zfs (f:=fun b=>if b=true then _ else _) hoa h64 hA fun h' c hb hc => ?_
   simp only [Bool.false_eq_true,if_false]
   exact wpAny_pure (k _ hA (hS.pw hA) h' c (fun b o ne e=>hb b o ne (hk b o ne e)) hc)
end
end SO
end
section
set_option maxHeartbeats 2000000
namespace TS
open PySem PyProof.Rows
noncomputable def Wd:Bool→Keyed→Array Keyed→Nat→Nat→Nat→StateT SortSt Sem (Option Nat):=sortPriv% PySem.Builtin.gallop
noncomputable def Wx (left:Bool) (key:Keyed) (arr:Array Keyed) (base i:Nat):StateT SortSt Sem (Option Bool):=do
  let x ← elem' arr (base+i)
  if left then lt' x key else return (← lt' key x).map (!·)
theorem Znm (left:Bool) (key:Keyed) (arr:Array Keyed) (base n hint:Nat):Wd left key arr base n hint=(do
 let mut lastofs:=0
 let mut ofs:=1
 let mut lo:=0
 let mut hi:=0
 let some right ← Wx left key arr base hint | return none
 if right then
  let maxofs:=n - hint
  for _ in [0:n] do
   if ofs ≥ maxofs then break
   let some more ← Wx left key arr base (hint+ofs) | return none
   if !more then break
   lastofs:=ofs
   ofs:=2 * ofs+1
  lo:=hint+lastofs+1
  hi:=hint+min ofs maxofs
 else
  let maxofs:=hint+1
  for _ in [0:n] do
   if ofs ≥ maxofs then break
   let some found ← Wx left key arr base (hint - ofs) | return none
   if found then break
   lastofs:=ofs
   ofs:=2 * ofs+1
  lo:=hint+1 - min ofs maxofs
  hi:=hint - lastofs
 for _ in [0:n] do
  if lo ≥ hi then break
  let m:=lo+(hi - lo) / 2
  let some more ← Wx left key arr base m | return none
  if more then lo:=m+1 else hi:=m
 return some hi):=rfl
section
variable {M:Model} {A:Around} {E:Value→Shared→Prop} {s:Shared} {left:Bool} {key:Keyed} {arr:Array Keyed} {base n hint:Nat} {st:SortSt} {B:Nat→Bool}
theorem Zby {Q:Option Nat→SortSt→Prop} (hb:∀ i,i<n→∀ Q:Option Bool→SortSt→Prop,Q (some (B i)) st→wpS M A E s (Wx left key arr base i) Q st)
  (mono:∀ i j,i≤j→j<n→B j=true→B i=true) (hn:hint<n)
  (h:∀ k,k≤n→(∀ i,i<k→B i=true)→(∀ i,k≤i→i<n→B i=false)→Q (some k) st):wpS M A E s (Wd left key arr base n hint) Q st:=by
 have anti:∀ i j,i≤j→j<n→B i=false→B j=false:=fun i j h1 h2 e=>by
  cases e2:B j with
  | false=>rfl
  | true=>rw [mono i j h1 h2 e2] at e; cases e
 rw [Znm]
 refine wpS_bind (hb hint hn _ ?_)
 cases e:B hint with
 | true =>
  dsimp only
  rw [if_pos rfl]
  refine wpS_bind (wpS_mono (wpS_forRange (fun x c st'=>st=st'∧∃ l o,c=(none,l,o)∧l<o∧x<o∧hint+l<n∧B (hint+l)=true)
   (Q:=fun c st'=>st=st'∧∃ l o,c=(none,l,o)∧l<o∧hint+l<n∧B (hint+l)=true∧(o ≥ n - hint∨B (hint+o)=false)) ?_ ?_ ⟨rfl,0,1,rfl,by omega,by omega,hn,e⟩) ?_)
  ·rintro x c st' _ hx ⟨rfl,l,o,rfl,a1,a2,a3,a4⟩
   dsimp only
   by_cases c1:o ≥ n - hint
   ·rw [if_pos c1]
    exact wpS_pure ⟨rfl,l,o,rfl,a1,a3,a4,.inl c1⟩
   ·rw [if_neg c1]
    refine wpS_bind (hb _ (by omega) _ ?_)
    cases e2:B (hint+o) with
    | true =>
     dsimp only
     rw [if_neg (by simp)]
     exact wpS_pure ⟨rfl,o,_,rfl,by omega,by omega,by omega,e2⟩
    | false =>
     dsimp only
     rw [if_pos (by simp)]
     exact wpS_pure ⟨rfl,l,o,rfl,a1,a3,a4,.inr e2⟩
  ·rintro c st' ⟨rfl,l,o,rfl,a1,a2,a3,a4⟩
   rw [Nat.zero_max] at a2
   exact ⟨rfl,l,o,rfl,a1,a3,a4,.inl (by omega)⟩
  ·rintro c st' ⟨rfl,l,o,rfl,a1,a3,a4,a5⟩
   dsimp only
   have h1:hint+l+1≤hint+min o (n - hint):=by omega
   have h2:hint+min o (n - hint)≤n:=by omega
   have hl:∀ i,i<hint+l+1→B i=true:=fun i hi=>mono i _ (by omega) a3 a4
   have hh:∀ i,hint+min o (n - hint)≤i→i<n→B i=false:=fun i h3 h4=>by
    rcases a5 with a5 | a5
    ·omega
    ·exact anti _ i (by omega) h4 a5
   refine wpS_bind (wpS_mono (wpS_forRange (fun x c st'=>st=st'∧∃ lo hi,c=(none,lo,hi)∧lo≤hi∧hi≤n∧hi - lo+x≤n∧(∀ i,i<lo→B i=true)∧∀ i,hi≤i→i<n→B i=false)
    (Q:=fun c st'=>st=st'∧∃ hi,c=(none,hi,hi)∧hi≤n∧(∀ i,i<hi→B i=true)∧∀ i,hi≤i→i<n→B i=false) ?_ ?_ ⟨rfl,hint+l+1,hint+min o (n - hint),rfl,h1,h2,by omega,hl,hh⟩) ?_)
   ·rintro x c st' _ hx ⟨rfl,lo,hi,rfl,a1,a2,a3,a4,a5⟩
    dsimp only
    by_cases c1:lo ≥ hi
    ·rw [if_pos c1]
     obtain rfl:lo=hi:=by omega
     exact wpS_pure ⟨rfl,lo,rfl,a2,a4,a5⟩
    ·rw [if_neg c1]
     refine wpS_bind (hb _ (by omega) _ ?_)
     cases e:B (lo+(hi - lo) / 2) with
     | true =>
      dsimp only
      rw [if_pos rfl]
      refine wpS_pure ⟨rfl,_,_,rfl,by omega,a2,by omega,fun i hi'=>mono i _ (by omega) (by omega) e,a5⟩
     | false =>
      dsimp only
      rw [if_neg (by simp)]
      refine wpS_pure ⟨rfl,_,_,rfl,by omega,by omega,by omega,a4,fun i h3 h4 => ?_⟩
      cases e2:B i with
      | false=>rfl
      | true=>rw [mono _ i h3 h4 e2] at e; cases e
   ·rintro c st' ⟨rfl,lo,hi,rfl,a1,a2,a3,a4,a5⟩
    rw [Nat.zero_max] at a3
    obtain rfl:lo=hi:=by omega
    exact ⟨rfl,lo,rfl,a2,a4,a5⟩
   ·rintro c st' ⟨rfl,hi,rfl,a2,a4,a5⟩
    exact wpS_pure (h hi a2 a4 a5)
 | false =>
  dsimp only
  rw [if_neg (by simp)]
  refine wpS_bind (wpS_mono (wpS_forRange (fun x c st'=>st=st'∧∃ l o,c=(none,l,o)∧l<o∧x<o∧l≤hint∧B (hint - l)=false)
   (Q:=fun c st'=>st=st'∧∃ l o,c=(none,l,o)∧l<o∧l≤hint∧B (hint - l)=false∧(o ≥ hint+1∨B (hint - o)=true)) ?_ ?_ ⟨rfl,0,1,rfl,by omega,by omega,by omega,e⟩) ?_)
  ·rintro x c st' _ hx ⟨rfl,l,o,rfl,a1,a2,a3,a4⟩
   dsimp only
   by_cases c1:o ≥ hint+1
   ·rw [if_pos c1]
    exact wpS_pure ⟨rfl,l,o,rfl,a1,a3,a4,.inl c1⟩
   ·rw [if_neg c1]
    refine wpS_bind (hb _ (by omega) _ ?_)
    cases e2:B (hint - o) with
    | true =>
     dsimp only
     rw [if_pos rfl]
     exact wpS_pure ⟨rfl,l,o,rfl,a1,a3,a4,.inr e2⟩
    | false =>
     dsimp only
     rw [if_neg (by simp)]
     exact wpS_pure ⟨rfl,o,_,rfl,by omega,by omega,by omega,e2⟩
  ·rintro c st' ⟨rfl,l,o,rfl,a1,a2,a3,a4⟩
   rw [Nat.zero_max] at a2
   exact ⟨rfl,l,o,rfl,a1,a3,a4,.inl (by omega)⟩
  ·rintro c st' ⟨rfl,l,o,rfl,a1,a3,a4,a5⟩
   dsimp only
   have h1:hint+1 - min o (hint+1)≤hint - l:=by omega
   have h2:hint - l≤n:=by omega
   have hl:∀ i,i<hint+1 - min o (hint+1)→B i=true:=fun i hi=>by
    rcases a5 with a5 | a5
    ·omega
    ·exact mono i _ (by omega) (by omega) a5
   have hh:∀ i,hint - l≤i→i<n→B i=false:=fun i h3 h4=>anti _ i (by omega) h4 a4
   refine wpS_bind (wpS_mono (wpS_forRange (fun x c st'=>st=st'∧∃ lo hi,c=(none,lo,hi)∧lo≤hi∧hi≤n∧hi - lo+x≤n∧(∀ i,i<lo→B i=true)∧∀ i,hi≤i→i<n→B i=false)
    (Q:=fun c st'=>st=st'∧∃ hi,c=(none,hi,hi)∧hi≤n∧(∀ i,i<hi→B i=true)∧∀ i,hi≤i→i<n→B i=false) ?_ ?_ ⟨rfl,hint+1 - min o (hint+1),hint - l,rfl,h1,h2,by omega,hl,hh⟩) ?_)
   ·rintro x c st' _ hx ⟨rfl,lo,hi,rfl,a1,a2,a3,a4,a5⟩
    dsimp only
    by_cases c1:lo ≥ hi
    ·rw [if_pos c1]
     obtain rfl:lo=hi:=by omega
     exact wpS_pure ⟨rfl,lo,rfl,a2,a4,a5⟩
    ·rw [if_neg c1]
     refine wpS_bind (hb _ (by omega) _ ?_)
     cases e:B (lo+(hi - lo) / 2) with
     | true =>
      dsimp only
      rw [if_pos rfl]
      refine wpS_pure ⟨rfl,_,_,rfl,by omega,a2,by omega,fun i hi'=>mono i _ (by omega) (by omega) e,a5⟩
     | false =>
      dsimp only
      rw [if_neg (by simp)]
      refine wpS_pure ⟨rfl,_,_,rfl,by omega,by omega,by omega,a4,fun i h3 h4 => ?_⟩
      cases e2:B i with
      | false=>rfl
      | true=>rw [mono _ i h3 h4 e2] at e; cases e
   ·rintro c st' ⟨rfl,lo,hi,rfl,a1,a2,a3,a4,a5⟩
    rw [Nat.zero_max] at a3
    obtain rfl:lo=hi:=by omega
    exact ⟨rfl,lo,rfl,a2,a4,a5⟩
   ·rintro c st' ⟨rfl,hi,rfl,a2,a4,a5⟩
    exact wpS_pure (h hi a2 a4 a5)
end
end TS
end
section
set_option maxHeartbeats 2000000
namespace TS
open PySem PyProof.Rows
noncomputable def ZcJ:Array Keyed→Array Keyed→StateT SortSt Sem (Array Keyed):=sortPriv% PySem.Builtin.mergeLo
noncomputable def setG:Nat→StateT SortSt Sem Unit:=sortPriv% PySem.Builtin.setMinGallop
theorem QJ (g:Nat):setG g=modify fun s=>SortSt.mk' (kindOf s) (arrOf s) (pendingOf s) g (failedOf s):=rfl
theorem Zmn (a b:Array Keyed):ZcJ a b=(do
 rule "list.sort.merge-lo"
 let total:=a.size+b.size
 let done (out:Array Keyed) (ia ib:Nat):=out++a.extract ia a.size++b.extract ib b.size
 let lastOfA (out:Array Keyed) (ia ib:Nat):=out++b.extract ib b.size++a.extract ia a.size
 let mut out:Array Keyed:=#[← elem' b 0]
 let mut ia:=0
 let mut ib:=1
 if ib == b.size then return done out ia ib
 if ia+1 == a.size then return lastOfA out ia ib
 let mut minGallop:=gallopOf (← get)
 for _ in [0:total] do
  let mut acount:=0
  let mut bcount:=0
  for _ in [0:total] do
   let some bWins ← lt' (← elem' b ib) (← elem' a ia) | return done out ia ib
   if bWins then
    out:=out.push (← elem' b ib); ib:=ib+1; bcount:=bcount+1; acount:=0
    if ib == b.size then return done out ia ib
    if bcount ≥ minGallop then break
   else
    out:=out.push (← elem' a ia); ia:=ia+1; acount:=acount+1; bcount:=0
    if ia+1 == a.size then return lastOfA out ia ib
    if acount ≥ minGallop then break
  rule "list.sort.gallop"
  minGallop:=minGallop+1
  for _ in [0:total] do
   if minGallop > 1 then minGallop:=minGallop - 1
   setG minGallop
   let some k ← Wd false (← elem' b ib) a ia (a.size - ia) 0 | return done out ia ib
   acount:=k
   if k > 0 then
    out:=out++a.extract ia (ia+k); ia:=ia+k
    if ia+1 == a.size then return lastOfA out ia ib
    if ia == a.size then return done out ia ib
   out:=out.push (← elem' b ib); ib:=ib+1
   if ib == b.size then return done out ia ib
   let some k ← Wd true (← elem' a ia) b ib (b.size - ib) 0 | return done out ia ib
   bcount:=k
   if k > 0 then
    out:=out++b.extract ib (ib+k); ib:=ib+k
    if ib == b.size then return done out ia ib
   out:=out.push (← elem' a ia); ia:=ia+1
   if ia+1 == a.size then return lastOfA out ia ib
   if acount<7 && bcount<7 then break
  minGallop:=minGallop+1
  setG minGallop
 unsupported "internal:list.sort.merge-bound") := rfl
structure JL (L:Keyed→Keyed→Prop) (S out A B:List Keyed):Prop where
 pm:(out++(A++B)).Perm S
 sr:out.Pairwise L
 lo:∀ o∈out,∀ z∈A++B,L o z
section
variable {L:Keyed→Keyed→Prop} {S out A B T:List Keyed}
theorem JL.takeA (h:JL L S out (T++A) B) (hp:(T++A).Pairwise L) (hx:∀ t∈T,∀ z∈B,L t z):JL L S (out++T) A B:=by
 have hq:=List.pairwise_append.mp hp
 refine ⟨?_,List.pairwise_append.mpr ⟨h.sr,hq.1,fun o ho t ht=>h.lo o ho t (by simp [ht])⟩,fun o ho z hz => ?_⟩
 ·simpa [List.append_assoc] using h.pm
 ·rcases List.mem_append.mp ho with ho | ho
  ·refine h.lo o ho z ?_
   rcases List.mem_append.mp hz with hz | hz <;> simp [hz]
  ·rcases List.mem_append.mp hz with hz | hz
   ·exact hq.2.2 o ho z hz
   ·exact hx o ho z hz
theorem JL.takeB (h:JL L S out A (T++B)) (hp:(T++B).Pairwise L) (hx:∀ t∈T,∀ z∈A,L t z):JL L S (out++T) A B:=by
 have hq:=List.pairwise_append.mp hp
 refine ⟨?_,List.pairwise_append.mpr ⟨h.sr,hq.1,fun o ho t ht=>h.lo o ho t (by simp [ht])⟩,fun o ho z hz => ?_⟩
 ·refine List.Perm.trans ?_ h.pm
  rw [List.append_assoc]
  refine List.Perm.append_left _ ?_
  rw [← List.append_assoc,← List.append_assoc]
  exact List.Perm.append_right _ List.perm_append_comm
 ·rcases List.mem_append.mp ho with ho | ho
  ·refine h.lo o ho z ?_
   rcases List.mem_append.mp hz with hz | hz <;> simp [hz]
  ·rcases List.mem_append.mp hz with hz | hz
   ·exact hx o ho z hz
   ·exact hq.2.2 o ho z hz
theorem JL.fin (h:JL L S out A B) {X:List Keyed} (hX:X.Perm (A++B)) (hp:X.Pairwise L):(out++X).Perm S∧(out++X).Pairwise L :=
 ⟨(List.Perm.append_left _ hX).trans h.pm,List.pairwise_append.mpr ⟨h.sr,hp,fun o ho z hz=>h.lo o ho z (hX.mem_iff.mp hz)⟩⟩
end
structure AB (less:Keyed→Keyed→Bool) (a b:Array Keyed):Prop where
 tr:∀ x∈a.toList++b.toList,∀ y∈a.toList++b.toList,∀ z∈a.toList++b.toList,less x y=true→less y z=true→less x z=true
 sa:a.toList.Pairwise (fun x y=>less x y=true)
 sb:b.toList.Pairwise (fun x y=>less x y=true)
 ne:∀ x∈a.toList,∀ y∈b.toList,less y x = !(less x y)
 za:0<a.size
 zb:0<b.size
 fi:∀ x∈a.toList,less (b[0]'zb) x=true
 la:∀ y∈b.toList,less y (a[a.size - 1]'(by omega))=true
noncomputable def J (less:Keyed→Keyed→Bool) (a b out:Array Keyed) (ia ib:Nat):Prop:=JL (fun x y=>less x y=true) (a.toList++b.toList) out.toList (a.toList.drop ia) (b.toList.drop ib)
noncomputable def Rz (less:Keyed→Keyed→Bool) (a b r:Array Keyed):Prop:=r.toList.Perm (a.toList++b.toList)∧r.toList.Pairwise (fun x y=>less x y=true)
noncomputable abbrev SG (st:SortSt) (g:Nat):SortSt:=SortSt.mk' (kindOf st) (arrOf st) (pendingOf st) g (failedOf st)
section
variable {less:Keyed→Keyed→Bool} {a b out:Array Keyed} {ia ib:Nat}
theorem drop_cons {x:Array Keyed} {i:Nat} (h:i<x.size):x.toList.drop i=[x[i]]++x.toList.drop (i+1):=by
 rw [List.drop_eq_getElem_cons (by simpa using h)]
 simp
theorem Zai {x:Array Keyed} {i k:Nat} (h:i+k≤x.size):x.toList.drop i=(x.extract i (i+k)).toList++x.toList.drop (i+k):=by
 rw [Array.toList_extract,List.extract_eq_drop_take,show i+k - i=k by omega,← List.drop_drop,List.take_append_drop]
theorem WI {x:Array Keyed} {i:Nat}:(x.extract i x.size).toList=x.toList.drop i:=by
 rw [Array.toList_extract,List.extract_eq_drop_take]
 exact List.take_of_length_le (by simp)
theorem ZC {x:Array Keyed} {i:Nat} (h:i<x.size):x[i]∈x.toList:=by simp
theorem Zbk {x:Array Keyed} {i:Nat} {z:Keyed} (h:z∈x.toList.drop i):∃ j,i≤j∧∃ hj:j<x.size,z=x[j]:=by
 obtain ⟨j,hj,rfl⟩:=List.mem_iff_getElem.mp h
 rw [List.length_drop] at hj
 refine ⟨i+j,by omega,by simp at hj; omega,?_⟩
 rw [List.getElem_drop]
 simp
theorem ZdI {x:Array Keyed} {i k:Nat} {z:Keyed} (hk:i+k≤x.size) (h:z∈(x.extract i (i+k)).toList):∃ j,j<k∧∃ hj:i+j<x.size,z=x[i+j]:=by
 obtain ⟨j,hj,rfl⟩:=List.mem_iff_getElem.mp h
 have hj':j<k:=by simp at hj; omega
 exact ⟨j,hj',by omega,by simp⟩
theorem Qm {x:Array Keyed} (h:x.toList.Pairwise (fun x y=>less x y=true)) {i j:Nat} (hij:i<j) (hj:j<x.size):less (x[i]'(by omega)) x[j]=true:=by
 have:=List.pairwise_iff_getElem.mp h i j (by simp; omega) (by simpa using hj) hij
 simpa using this
theorem J.takeA (C:AB less a b) (h:J less a b out ia ib) {k:Nat} (hk:ia+k≤a.size) (hx:∀ j,j<k→∀ hj:ia+j<a.size,∀ z∈b.toList.drop ib,less a[ia+j] z=true):J less a b (out++a.extract ia (ia+k)) (ia+k) ib:=by
 unfold J at h ⊢
 rw [Zai hk] at h
 rw [Array.toList_append]
 refine h.takeA ?_ fun t ht z hz => ?_
 ·rw [← Zai hk]
  exact C.sa.sublist (List.drop_sublist _ _)
 ·obtain ⟨j,hj,hj2,rfl⟩:=ZdI hk ht
  exact hx j hj hj2 z hz
theorem J.takeB (C:AB less a b) (h:J less a b out ia ib) {k:Nat} (hk:ib+k≤b.size) (hx:∀ j,j<k→∀ hj:ib+j<b.size,∀ z∈a.toList.drop ia,less b[ib+j] z=true):J less a b (out++b.extract ib (ib+k)) ia (ib+k):=by
 unfold J at h ⊢
 rw [Zai hk] at h
 rw [Array.toList_append]
 refine h.takeB ?_ fun t ht z hz => ?_
 ·rw [← Zai hk]
  exact C.sb.sublist (List.drop_sublist _ _)
 ·obtain ⟨j,hj,hj2,rfl⟩:=ZdI hk ht
  exact hx j hj hj2 z hz
theorem J.pushA (C:AB less a b) (h:J less a b out ia ib) (hi:ia<a.size) (hx:∀ z∈b.toList.drop ib,less a[ia] z=true):J less a b (out.push a[ia]) (ia+1) ib:=by
 unfold J at h ⊢
 rw [drop_cons hi] at h
 rw [Array.toList_push]
 refine h.takeA ?_ fun t ht z hz => ?_
 ·rw [← drop_cons hi]
  exact C.sa.sublist (List.drop_sublist _ _)
 ·rw [List.mem_singleton.mp ht]
  exact hx z hz
theorem J.pushB (C:AB less a b) (h:J less a b out ia ib) (hi:ib<b.size) (hx:∀ z∈a.toList.drop ia,less b[ib] z=true):J less a b (out.push b[ib]) ia (ib+1):=by
 unfold J at h ⊢
 rw [drop_cons hi] at h
 rw [Array.toList_push]
 refine h.takeB ?_ fun t ht z hz => ?_
 ·rw [← drop_cons hi]
  exact C.sb.sublist (List.drop_sublist _ _)
 ·rw [List.mem_singleton.mp ht]
  exact hx z hz
theorem J.doneB (C:AB less a b) (h:J less a b out ia ib) (hb:ib=b.size):Rz less a b (out++a.extract ia a.size++b.extract ib b.size):=by
 subst hb
 unfold Rz
 rw [Array.toList_append,Array.toList_append,WI,WI,List.append_assoc]
 refine JL.fin h (List.Perm.refl _) ?_
 rw [List.drop_eq_nil_of_le (as:=b.toList) (by simp),List.append_nil]
 exact C.sa.sublist (List.drop_sublist _ _)
theorem J.doneA (C:AB less a b) (h:J less a b out ia ib) (hb:ia=a.size):Rz less a b (out++a.extract ia a.size++b.extract ib b.size):=by
 subst hb
 unfold Rz
 rw [Array.toList_append,Array.toList_append,WI,WI,List.append_assoc]
 refine JL.fin h (List.Perm.refl _) ?_
 rw [List.drop_eq_nil_of_le (by simp),List.nil_append]
 exact C.sb.sublist (List.drop_sublist _ _)
theorem J.last (C:AB less a b) (h:J less a b out ia ib) (hb:ia+1=a.size):Rz less a b (out++b.extract ib b.size++a.extract ia a.size):=by
 unfold Rz
 rw [Array.toList_append,Array.toList_append,WI,WI,List.append_assoc]
 refine JL.fin h List.perm_append_comm (List.pairwise_append.mpr ⟨C.sb.sublist (List.drop_sublist _ _),C.sa.sublist (List.drop_sublist _ _),fun y hy x hx => ?_⟩)
 obtain ⟨j,h1,h2,rfl⟩:=Zbk hx
 obtain rfl:j=a.size - 1:=by omega
 exact C.la y (List.mem_of_mem_drop hy)
theorem AB.all_a (C:AB less a b) {y:Keyed} (hy:y∈a.toList++b.toList) (hi:ia<a.size) (h:less y a[ia]=true):∀ z∈a.toList.drop ia,less y z=true:=by
 intro z hz
 obtain ⟨j,h1,h2,rfl⟩:=Zbk hz
 by_cases e:j=ia
 ·subst e; exact h
 ·exact C.tr y hy a[ia] (by simp) a[j] (by simp) h (Qm C.sa (by omega) h2)
theorem AB.all_b (C:AB less a b) {y:Keyed} (hy:y∈a.toList++b.toList) (hi:ib<b.size) (h:less y b[ib]=true):∀ z∈b.toList.drop ib,less y z=true:=by
 intro z hz
 obtain ⟨j,h1,h2,rfl⟩:=Zbk hz
 by_cases e:j=ib
 ·subst e; exact h
 ·exact C.tr y hy b[ib] (by simp) b[j] (by simp) h (Qm C.sb (by omega) h2)
end
section
variable {M:Model} {A:Around} {E:Value→Shared→Prop} {s:Shared} {less:Keyed→Keyed→Bool} {a b:Array Keyed} {st:SortSt}
theorem Zo {arr:Array Keyed} {i:Nat} {Q:Keyed→SortSt→Prop} (h:i<arr.size) (hq:Q arr[i] st):wpS M A E s (elem' arr i) Q st:=by
 rw [elem'_eq,Array.getElem?_eq_getElem h]
 exact wpS_pure hq
noncomputable def HL (M:Model) (A:Around) (E:Value→Shared→Prop) (s:Shared) (κ:SortKind) (less:Keyed→Keyed→Bool) (xs:List Keyed):Prop:=∀ x∈xs,∀ y∈xs,∀ (st:SortSt) (Q:Option Bool→SortSt→Prop),kindOf st=κ→Q (some (less x y)) st→wpS M A E s (lt' x y) Q st
theorem Zgr {xs:List Keyed} {key:Keyed} {arr:Array Keyed} {base i:Nat} (H:HL M A E s (kindOf st) less xs) (hk:key∈xs) (hi:base+i<arr.size) (hx:arr[base+i]∈xs) (Q:Option Bool→SortSt→Prop) (h:Q (some (less arr[base+i] key)) st):wpS M A E s (Wx true key arr base i) Q st:=by
 unfold Wx
 refine wpS_bind (Zo hi ?_)
 rw [if_pos rfl]
 exact H _ hx _ hk st _ rfl h
theorem ZdR {xs:List Keyed} {key:Keyed} {arr:Array Keyed} {base i:Nat} (H:HL M A E s (kindOf st) less xs) (hk:key∈xs) (hi:base+i<arr.size) (hx:arr[base+i]∈xs) (Q:Option Bool→SortSt→Prop) (h:Q (some (!less key arr[base+i])) st):wpS M A E s (Wx false key arr base i) Q st:=by
 unfold Wx
 refine wpS_bind (Zo hi ?_)
 rw [if_neg (by simp)]
 refine wpS_bind (H _ hk _ hx st _ rfl ?_)
 exact wpS_pure h
theorem ZbG {Q:Option Nat→SortSt→Prop} (C:AB less a b) (H:HL M A E s (kindOf st) less (a.toList++b.toList)) {ia hint m:Nat} (hm:ia+m≤a.size) (hh:hint<m) {y:Keyed} (hy:y∈b.toList)
  (h:∀ k,k≤m→(∀ i,i<k→∀ hi:ia+i<a.size,less a[ia+i] y=true)→(∀ i,k≤i→i<m→∀ hi:ia+i<a.size,less y a[ia+i]=true)→Q (some k) st):wpS M A E s (Wd false y a ia m hint) Q st:=by
 refine Zby (B:=fun i=>if hi:ia+i<a.size then less a[ia+i] y else false) (fun i hi Q hq => ?_) (fun i j hij hj hb => ?_) hh fun k h1 h2 h3=>h k h1 (fun i hi hi2 => ?_) fun i h4 h5 hi2 => ?_
 ·have hi':ia+i<a.size:=by omega
  rw [dif_pos hi'] at hq
  refine ZdR H (by simp [hy]) hi' (by simp) Q ?_
  rw [C.ne _ (by simp) y hy,Bool.not_not]
  exact hq
 ·have hj':ia+j<a.size:=by omega
  have hi':ia+i<a.size:=by omega
  rw [dif_pos hj'] at hb
  rw [dif_pos hi']
  by_cases e:i=j
  ·subst e; exact hb
  ·exact C.tr _ (by simp) _ (by simp) y (by simp [hy]) (Qm C.sa (by omega) hj') hb
 ·have:=h2 i hi
  rw [dif_pos hi2] at this
  exact this
 ·have:=h3 i h4 h5
  rw [dif_pos hi2] at this
  rw [C.ne _ (by simp) y hy,this]
  rfl
theorem WK {Q:Option Nat→SortSt→Prop} (C:AB less a b) (H:HL M A E s (kindOf st) less (a.toList++b.toList)) {ib hint m:Nat} (hm:ib+m≤b.size) (hh:hint<m) {x:Keyed} (hx:x∈a.toList)
  (h:∀ k,k≤m→(∀ i,i<k→∀ hi:ib+i<b.size,less b[ib+i] x=true)→(∀ i,k≤i→i<m→∀ hi:ib+i<b.size,less x b[ib+i]=true)→Q (some k) st):wpS M A E s (Wd true x b ib m hint) Q st:=by
 refine Zby (B:=fun i=>if hi:ib+i<b.size then less b[ib+i] x else false) (fun i hi Q hq => ?_) (fun i j hij hj hb => ?_) hh fun k h1 h2 h3=>h k h1 (fun i hi hi2 => ?_) fun i h4 h5 hi2 => ?_
 ·have hi':ib+i<b.size:=by omega
  rw [dif_pos hi'] at hq
  exact Zgr H (by simp [hx]) hi' (by simp) Q hq
 ·have hj':ib+j<b.size:=by omega
  have hi':ib+i<b.size:=by omega
  rw [dif_pos hj'] at hb
  rw [dif_pos hi']
  by_cases e:i=j
  ·subst e; exact hb
  ·exact C.tr _ (by simp) _ (by simp) x (by simp [hx]) (Qm C.sb (by omega) hj') hb
 ·have:=h2 i hi
  rw [dif_pos hi2] at this
  exact this
 ·have:=h3 i h4 h5
  rw [dif_pos hi2] at this
  rw [C.ne x hx _ (by simp)] at this
  simpa using this
end
section
variable {M:Model} {A:Around} {E:Value→Shared→Prop} {s:Shared} {less:Keyed→Keyed→Bool} {a b:Array Keyed} {st:SortSt}
theorem Zg {α:Type} {c:Prop} [Decidable c] {x y:StateT SortSt Sem α} {Q:α→SortSt→Prop} (h1:c→wpS M A E s x Q st) (h2:¬ c→wpS M A E s y Q st):wpS M A E s (if c then x else y) Q st:=by
 by_cases h:c
 ·rw [if_pos h]; exact h1 h
 ·rw [if_neg h]; exact h2 h
noncomputable def In2 (less:Keyed→Keyed→Bool) (a b:Array Keyed) (st:SortSt) (base:Nat) (c:Option (Array Keyed)×Array Keyed×Nat×Nat×Nat×Nat×Nat) (st':SortSt):Prop:=∃ g out ia ib mg ac bc,st'=SG st g∧c=(none,out,ia,ib,mg,ac,bc)∧J less a b out ia ib∧ia+1<a.size∧ib<b.size∧base≤ia+ib
noncomputable def Po2 (less:Keyed→Keyed→Bool) (a b:Array Keyed) (st:SortSt) (base:Nat) (c:Option (Array Keyed)×Array Keyed×Nat×Nat×Nat×Nat×Nat) (st':SortSt):Prop:=(∃ g r q,st'=SG st g∧c=(some r,q)∧Rz less a b r)∨In2 less a b st base c st'
noncomputable def In1 (less:Keyed→Keyed→Bool) (a b:Array Keyed) (st':SortSt) (base:Nat) (c:Option (Array Keyed)×Array Keyed×Nat×Nat×Nat×Nat) (st'':SortSt):Prop:=∃ out ia ib ac bc,st''=st'∧c=(none,out,ia,ib,ac,bc)∧J less a b out ia ib∧ia+1<a.size∧ib<b.size∧base≤ia+ib
noncomputable def Po1 (less:Keyed→Keyed→Bool) (a b:Array Keyed) (st':SortSt) (base:Nat) (c:Option (Array Keyed)×Array Keyed×Nat×Nat×Nat×Nat) (st'':SortSt):Prop:=(∃ r q,st''=st'∧c=(some r,q)∧Rz less a b r)∨In1 less a b st' base c st''
theorem Zm3 {Q:Array Keyed→SortSt→Prop} (C:AB less a b) (H:HL M A E s (kindOf st) less (a.toList++b.toList)) (hr:∀ {Q':Unit→Shared→Prop} (x:String),Q' () s→wpAny M A (rule x) Q' E s) (h:∀ r g,Rz less a b r→Q r (SG st g)):wpS M A E s (ZcJ a b) Q st:=by
 rw [Zmn]
 refine wpS_bind (wpS_lift (hr _ ⟨rfl,?_⟩))
 have za:=C.za
 have zb:=C.zb
 refine wpS_bind (Zo zb ?_)
 have j0:J less a b #[b[0]] 0 1:=by
  have:J less a b #[] 0 0:=⟨by simp,by simp,by simp⟩
  exact J.pushB C this zb fun z hz=>C.fi z (List.mem_of_mem_drop hz)
 refine Zg (fun c=>wpS_pure (h _ (gallopOf st) (j0.doneB C (by simpa using c)))) fun c => ?_
 refine Zg (fun c'=>wpS_pure (h _ (gallopOf st) (j0.last C (by simpa using c')))) fun c' => ?_
 refine wpS_bind (wpS_get ?_)
 have g1:0+1<a.size:=by simp at c'; omega
 have g2:1<b.size:=by simp at c; omega
 refine wpS_bind (wpS_mono (wpS_forRange (fun x c st' => ∃ g out ia ib mg,st'=SG st g∧c=(none,out,ia,ib,mg)∧J less a b out ia ib∧ia+1<a.size∧ib<b.size∧x+1≤ia+ib)
  (Q:=fun c st' => ∃ g r q,st'=SG st g∧c=(some r,q)∧Rz less a b r) ?_ ?_ ⟨gallopOf st,_,0,1,_,rfl,rfl,j0,g1,g2,by omega⟩) ?_)
 ·rintro x c st' _ hx ⟨g,out,ia,ib,mg,rfl,rfl,j,h1,h2,h3⟩
  dsimp only
  refine wpS_bind (wpS_mono (wpS_forRange (fun y c st'=>In1 less a b (SG st g) (ia+ib+y) c st') (Q:=fun c st'=>Po1 less a b (SG st g) (ia+ib+1) c st') ?_ ?_ ⟨_,_,_,_,_,rfl,rfl,j,h1,h2,by omega⟩) ?_)
  ·rintro y c st' _ hy ⟨out,ia',ib',ac,bc,rfl,rfl,j,h1,h2,h3⟩
   dsimp only
   refine wpS_bind (Zo h2 ?_)
   refine wpS_bind (Zo (by omega) ?_)
   refine wpS_bind (H _ (by simp) _ (by simp) _ _ rfl ?_)
   dsimp only
   refine Zg (fun e => ?_) fun e => ?_
   ·refine wpS_bind (Zo h2 ?_)
    have jb:=J.pushB C j h2 (C.all_a (by simp) (by omega) e)
    refine Zg (fun c4=>wpS_pure (.inl ⟨_,_,rfl,rfl,jb.doneB C (by simpa using c4)⟩)) fun c4 => ?_
    have h2':ib' + 1<b.size:=by simp at c4; omega
    refine Zg (fun c5=>wpS_pure (.inr ⟨_,_,_,_,_,rfl,rfl,jb,h1,h2',by omega⟩)) fun c5=>wpS_pure ⟨_,_,_,_,_,rfl,rfl,jb,h1,h2',by omega⟩
   ·refine wpS_bind (Zo (by omega) ?_)
    have e':less (a[ia']'(by omega)) b[ib']=true:=by
     have:=C.ne (a[ia']'(by omega)) (by simp) b[ib'] (by simp)
     rw [this] at e
     simpa using e
    have ja:=J.pushA C j (by omega) (C.all_b (by simp) h2 e')
    refine Zg (fun c4=>wpS_pure (.inl ⟨_,_,rfl,rfl,ja.last C (by simpa using c4)⟩)) fun c4 => ?_
    have h1':ia' + 1+1<a.size:=by simp at c4; omega
    refine Zg (fun c5=>wpS_pure (.inr ⟨_,_,_,_,_,rfl,rfl,ja,h1',h2,by omega⟩)) fun c5=>wpS_pure ⟨_,_,_,_,_,rfl,rfl,ja,h1',h2,by omega⟩
  ·rintro c st' ⟨out,ia',ib',ac,bc,e1,e2,j,h1,h2,h3⟩
   rw [Nat.zero_max] at h3
   exact .inr ⟨out,ia',ib',ac,bc,e1,e2,j,h1,h2,by omega⟩
  rintro c st' (⟨r,q,rfl,rfl,hz⟩ | ⟨out,ia',ib',ac,bc,rfl,rfl,j,h1,h2,h4⟩)
  ·exact wpS_pure ⟨_,r,_,rfl,rfl,hz⟩
  dsimp only
  refine wpS_bind (wpS_lift (hr _ ⟨rfl,?_⟩))
  refine wpS_bind (wpS_mono (wpS_forRange (fun y c st'=>In2 less a b st (x+2) c st') (Q:=fun c st'=>Po2 less a b st (x+2) c st') ?_ ?_ ⟨g,_,_,_,_,_,_,rfl,rfl,j,h1,h2,by omega⟩) ?_)
  ·clear h4 h3 j h1 h2
   rintro y c st' _ hy ⟨g,out,ia,ib,mg,ac,bc,rfl,rfl,j,h1,h2,h3⟩
   dsimp only
   refine Zg (fun c0 => ?_) fun c0 => ?_
   ·rw [QJ]
    refine wpS_bind (wpS_modify ?_)
    show wpS _ _ _ _ _ _ (SG st (mg - 1))
    refine wpS_bind (Zo h2 ?_)
    refine wpS_bind (ZbG (st:=SG st (mg - 1)) C H (ia:=ia) (hint:=0) (m:=a.size - ia) (by omega) (by omega) (ZC h2) fun k k1 k2 k3 => ?_)
    dsimp only
    refine Zg (fun c1 => ?_) fun c1 => ?_
    ·have ja:=j.takeA C (k:=k) (by omega) (fun i hi hi2 z hz=>C.all_b (by simp) h2 (k2 i hi hi2) z hz)
     refine Zg (fun c2=>wpS_pure (.inl ⟨_,_,_,rfl,rfl,ja.last C (by simpa using c2)⟩)) fun c2 => ?_
     refine Zg (fun c3=>wpS_pure (.inl ⟨_,_,_,rfl,rfl,ja.doneA C (by simpa using c3)⟩)) fun c3 => ?_
     have h1':ia+k+1<a.size:=by simp at c2 c3; omega
     have hz:∀ z∈a.toList.drop (ia+k),less b[ib] z=true:=C.all_a (by simp) (by omega) (k3 k (Nat.le_refl _) (by omega) (by omega))
     refine wpS_bind (Zo h2 ?_)
     have jb:=J.pushB C ja h2 hz
     refine Zg (fun c4=>wpS_pure (.inl ⟨_,_,_,rfl,rfl,jb.doneB C (by simpa using c4)⟩)) fun c4 => ?_
     have h2':ib+1<b.size:=by simp at c4; omega
     refine wpS_bind (Zo (by omega) ?_)
     refine wpS_bind (WK (st:=SG st (mg - 1)) C H (ib:=ib+1) (hint:=0) (m:=b.size - (ib+1)) (by omega) (by omega) (ZC (show ia+k<a.size by omega)) fun q q1 q2 q3 => ?_)
     dsimp only
     refine Zg (fun c5 => ?_) fun c5 => ?_
     ·have jc:=jb.takeB C (k:=q) (by omega) (fun i hi hi2 z hz=>C.all_a (by simp) (show ia+k<a.size by omega) (q2 i hi hi2) z hz)
      refine Zg (fun c6=>wpS_pure (.inl ⟨_,_,_,rfl,rfl,jc.doneB C (by simpa using c6)⟩)) fun c6 => ?_
      have h2z:ib+1+q<b.size:=by simp at c6; omega
      have hy:∀ z∈b.toList.drop (ib+1+q),less (a[ia+k]'(by omega)) z=true:=C.all_b (by simp) h2z (q3 q (Nat.le_refl _) (by omega) h2z)
      refine wpS_bind (Zo (by omega) ?_)
      have jd:=J.pushA C jc (show ia+k<a.size by omega) hy
      refine Zg (fun c7=>wpS_pure (.inl ⟨_,_,_,rfl,rfl,jd.last C (by simpa using c7)⟩)) fun c7 => ?_
      have h1z:ia+k+1+1<a.size:=by simp at c7; omega
      refine Zg (fun c8=>wpS_pure (.inr ⟨_,_,_,_,_,_,_,rfl,rfl,jd,h1z,by omega,by omega⟩)) fun c8 => ?_
      exact wpS_pure ⟨_,_,_,_,_,_,_,rfl,rfl,jd,h1z,by omega,by omega⟩
     ·obtain rfl:q=0:=by omega
      have hy:∀ z∈b.toList.drop (ib+1),less (a[ia+k]'(by omega)) z=true:=C.all_b (by simp) h2' (q3 0 (Nat.le_refl _) (by omega) h2')
      refine wpS_bind (Zo (by omega) ?_)
      have jd:=J.pushA C jb (show ia+k<a.size by omega) hy
      refine Zg (fun c7=>wpS_pure (.inl ⟨_,_,_,rfl,rfl,jd.last C (by simpa using c7)⟩)) fun c7 => ?_
      have h1z:ia+k+1+1<a.size:=by simp at c7; omega
      refine Zg (fun c8=>wpS_pure (.inr ⟨_,_,_,_,_,_,_,rfl,rfl,jd,h1z,by omega,by omega⟩)) fun c8 => ?_
      exact wpS_pure ⟨_,_,_,_,_,_,_,rfl,rfl,jd,h1z,by omega,by omega⟩
    ·obtain rfl:k=0:=by omega
     have hz:∀ z∈a.toList.drop ia,less b[ib] z=true:=C.all_a (by simp) (by omega) (k3 0 (Nat.le_refl _) (by omega) (by omega))
     refine wpS_bind (Zo h2 ?_)
     have jb:=J.pushB C j h2 hz
     refine Zg (fun c4=>wpS_pure (.inl ⟨_,_,_,rfl,rfl,jb.doneB C (by simpa using c4)⟩)) fun c4 => ?_
     have h2':ib+1<b.size:=by simp at c4; omega
     refine wpS_bind (Zo (by omega) ?_)
     refine wpS_bind (WK (st:=SG st (mg - 1)) C H (ib:=ib+1) (hint:=0) (m:=b.size - (ib+1)) (by omega) (by omega) (ZC (show ia<a.size by omega)) fun q q1 q2 q3 => ?_)
     dsimp only
     refine Zg (fun c5 => ?_) fun c5 => ?_
     ·have jc:=jb.takeB C (k:=q) (by omega) (fun i hi hi2 z hz=>C.all_a (by simp) (show ia<a.size by omega) (q2 i hi hi2) z hz)
      refine Zg (fun c6=>wpS_pure (.inl ⟨_,_,_,rfl,rfl,jc.doneB C (by simpa using c6)⟩)) fun c6 => ?_
      have h2z:ib+1+q<b.size:=by simp at c6; omega
      have hy:∀ z∈b.toList.drop (ib+1+q),less (a[ia]'(by omega)) z=true:=C.all_b (by simp) h2z (q3 q (Nat.le_refl _) (by omega) h2z)
      refine wpS_bind (Zo (by omega) ?_)
      have jd:=J.pushA C jc (show ia<a.size by omega) hy
      refine Zg (fun c7=>wpS_pure (.inl ⟨_,_,_,rfl,rfl,jd.last C (by simpa using c7)⟩)) fun c7 => ?_
      have h1z:ia+1+1<a.size:=by simp at c7; omega
      refine Zg (fun c8=>wpS_pure (.inr ⟨_,_,_,_,_,_,_,rfl,rfl,jd,h1z,by omega,by omega⟩)) fun c8 => ?_
      exact wpS_pure ⟨_,_,_,_,_,_,_,rfl,rfl,jd,h1z,by omega,by omega⟩
     ·obtain rfl:q=0:=by omega
      have hy:∀ z∈b.toList.drop (ib+1),less (a[ia]'(by omega)) z=true:=C.all_b (by simp) h2' (q3 0 (Nat.le_refl _) (by omega) h2')
      refine wpS_bind (Zo (by omega) ?_)
      have jd:=J.pushA C jb (show ia<a.size by omega) hy
      refine Zg (fun c7=>wpS_pure (.inl ⟨_,_,_,rfl,rfl,jd.last C (by simpa using c7)⟩)) fun c7 => ?_
      have h1z:ia+1+1<a.size:=by simp at c7; omega
      refine Zg (fun c8=>wpS_pure (.inr ⟨_,_,_,_,_,_,_,rfl,rfl,jd,h1z,by omega,by omega⟩)) fun c8 => ?_
      exact wpS_pure ⟨_,_,_,_,_,_,_,rfl,rfl,jd,h1z,by omega,by omega⟩
   ·rw [QJ]
    refine wpS_bind (wpS_modify ?_)
    show wpS _ _ _ _ _ _ (SG st mg)
    refine wpS_bind (Zo h2 ?_)
    refine wpS_bind (ZbG (st:=SG st mg) C H (ia:=ia) (hint:=0) (m:=a.size - ia) (by omega) (by omega) (ZC h2) fun k k1 k2 k3 => ?_)
    dsimp only
    refine Zg (fun c1 => ?_) fun c1 => ?_
    ·have ja:=j.takeA C (k:=k) (by omega) (fun i hi hi2 z hz=>C.all_b (by simp) h2 (k2 i hi hi2) z hz)
     refine Zg (fun c2=>wpS_pure (.inl ⟨_,_,_,rfl,rfl,ja.last C (by simpa using c2)⟩)) fun c2 => ?_
     refine Zg (fun c3=>wpS_pure (.inl ⟨_,_,_,rfl,rfl,ja.doneA C (by simpa using c3)⟩)) fun c3 => ?_
     have h1':ia+k+1<a.size:=by simp at c2 c3; omega
     have hz:∀ z∈a.toList.drop (ia+k),less b[ib] z=true:=C.all_a (by simp) (by omega) (k3 k (Nat.le_refl _) (by omega) (by omega))
     refine wpS_bind (Zo h2 ?_)
     have jb:=J.pushB C ja h2 hz
     refine Zg (fun c4=>wpS_pure (.inl ⟨_,_,_,rfl,rfl,jb.doneB C (by simpa using c4)⟩)) fun c4 => ?_
     have h2':ib+1<b.size:=by simp at c4; omega
     refine wpS_bind (Zo (by omega) ?_)
     refine wpS_bind (WK (st:=SG st mg) C H (ib:=ib+1) (hint:=0) (m:=b.size - (ib+1)) (by omega) (by omega) (ZC (show ia+k<a.size by omega)) fun q q1 q2 q3 => ?_)
     dsimp only
     refine Zg (fun c5 => ?_) fun c5 => ?_
     ·have jc:=jb.takeB C (k:=q) (by omega) (fun i hi hi2 z hz=>C.all_a (by simp) (show ia+k<a.size by omega) (q2 i hi hi2) z hz)
      refine Zg (fun c6=>wpS_pure (.inl ⟨_,_,_,rfl,rfl,jc.doneB C (by simpa using c6)⟩)) fun c6 => ?_
      have h2z:ib+1+q<b.size:=by simp at c6; omega
      have hy:∀ z∈b.toList.drop (ib+1+q),less (a[ia+k]'(by omega)) z=true:=C.all_b (by simp) h2z (q3 q (Nat.le_refl _) (by omega) h2z)
      refine wpS_bind (Zo (by omega) ?_)
      have jd:=J.pushA C jc (show ia+k<a.size by omega) hy
      refine Zg (fun c7=>wpS_pure (.inl ⟨_,_,_,rfl,rfl,jd.last C (by simpa using c7)⟩)) fun c7 => ?_
      have h1z:ia+k+1+1<a.size:=by simp at c7; omega
      refine Zg (fun c8=>wpS_pure (.inr ⟨_,_,_,_,_,_,_,rfl,rfl,jd,h1z,by omega,by omega⟩)) fun c8 => ?_
      exact wpS_pure ⟨_,_,_,_,_,_,_,rfl,rfl,jd,h1z,by omega,by omega⟩
     ·obtain rfl:q=0:=by omega
      have hy:∀ z∈b.toList.drop (ib+1),less (a[ia+k]'(by omega)) z=true:=C.all_b (by simp) h2' (q3 0 (Nat.le_refl _) (by omega) h2')
      refine wpS_bind (Zo (by omega) ?_)
      have jd:=J.pushA C jb (show ia+k<a.size by omega) hy
      refine Zg (fun c7=>wpS_pure (.inl ⟨_,_,_,rfl,rfl,jd.last C (by simpa using c7)⟩)) fun c7 => ?_
      have h1z:ia+k+1+1<a.size:=by simp at c7; omega
      refine Zg (fun c8=>wpS_pure (.inr ⟨_,_,_,_,_,_,_,rfl,rfl,jd,h1z,by omega,by omega⟩)) fun c8 => ?_
      exact wpS_pure ⟨_,_,_,_,_,_,_,rfl,rfl,jd,h1z,by omega,by omega⟩
    ·obtain rfl:k=0:=by omega
     have hz:∀ z∈a.toList.drop ia,less b[ib] z=true:=C.all_a (by simp) (by omega) (k3 0 (Nat.le_refl _) (by omega) (by omega))
     refine wpS_bind (Zo h2 ?_)
     have jb:=J.pushB C j h2 hz
     refine Zg (fun c4=>wpS_pure (.inl ⟨_,_,_,rfl,rfl,jb.doneB C (by simpa using c4)⟩)) fun c4 => ?_
     have h2':ib+1<b.size:=by simp at c4; omega
     refine wpS_bind (Zo (by omega) ?_)
     refine wpS_bind (WK (st:=SG st mg) C H (ib:=ib+1) (hint:=0) (m:=b.size - (ib+1)) (by omega) (by omega) (ZC (show ia<a.size by omega)) fun q q1 q2 q3 => ?_)
     dsimp only
     refine Zg (fun c5 => ?_) fun c5 => ?_
     ·have jc:=jb.takeB C (k:=q) (by omega) (fun i hi hi2 z hz=>C.all_a (by simp) (show ia<a.size by omega) (q2 i hi hi2) z hz)
      refine Zg (fun c6=>wpS_pure (.inl ⟨_,_,_,rfl,rfl,jc.doneB C (by simpa using c6)⟩)) fun c6 => ?_
      have h2z:ib+1+q<b.size:=by simp at c6; omega
      have hy:∀ z∈b.toList.drop (ib+1+q),less (a[ia]'(by omega)) z=true:=C.all_b (by simp) h2z (q3 q (Nat.le_refl _) (by omega) h2z)
      refine wpS_bind (Zo (by omega) ?_)
      have jd:=J.pushA C jc (show ia<a.size by omega) hy
      refine Zg (fun c7=>wpS_pure (.inl ⟨_,_,_,rfl,rfl,jd.last C (by simpa using c7)⟩)) fun c7 => ?_
      have h1z:ia+1+1<a.size:=by simp at c7; omega
      refine Zg (fun c8=>wpS_pure (.inr ⟨_,_,_,_,_,_,_,rfl,rfl,jd,h1z,by omega,by omega⟩)) fun c8 => ?_
      exact wpS_pure ⟨_,_,_,_,_,_,_,rfl,rfl,jd,h1z,by omega,by omega⟩
     ·obtain rfl:q=0:=by omega
      have hy:∀ z∈b.toList.drop (ib+1),less (a[ia]'(by omega)) z=true:=C.all_b (by simp) h2' (q3 0 (Nat.le_refl _) (by omega) h2')
      refine wpS_bind (Zo (by omega) ?_)
      have jd:=J.pushA C jb (show ia<a.size by omega) hy
      refine Zg (fun c7=>wpS_pure (.inl ⟨_,_,_,rfl,rfl,jd.last C (by simpa using c7)⟩)) fun c7 => ?_
      have h1z:ia+1+1<a.size:=by simp at c7; omega
      refine Zg (fun c8=>wpS_pure (.inr ⟨_,_,_,_,_,_,_,rfl,rfl,jd,h1z,by omega,by omega⟩)) fun c8 => ?_
      exact wpS_pure ⟨_,_,_,_,_,_,_,rfl,rfl,jd,h1z,by omega,by omega⟩
  ·rintro c st' hI
   exact .inr hI
  rintro c st' (⟨g,r,q,rfl,rfl,hz⟩ | ⟨g,out,ia,ib,mg,ac,bc,rfl,rfl,j,h1,h2,h3⟩)
  ·exact wpS_pure ⟨_,r,_,rfl,rfl,hz⟩
  dsimp only
  rw [QJ]
  refine wpS_bind (wpS_modify ?_)
  exact wpS_pure ⟨_,_,_,_,_,rfl,rfl,j,h1,h2,by omega⟩
 ·rintro c st' ⟨g,out,ia,ib,mg,rfl,rfl,j,h1,h2,h3⟩
  rw [Nat.zero_max] at h3
  omega
 ·rintro c st' ⟨g,r,q,rfl,rfl,hz⟩
  exact wpS_pure (h r g hz)
end
end TS
end
section
set_option maxHeartbeats 2000000
namespace TS
open PySem PyProof.Rows
noncomputable def Zb2:Array Keyed→Array Keyed→StateT SortSt Sem (Array Keyed):=sortPriv% PySem.Builtin.mergeHi
theorem Zl0 (a b:Array Keyed):Zb2 a b=(do
 rule "list.sort.merge-hi"
 let total:=a.size+b.size
 let done (out:Array Keyed) (na nb:Nat):=a.extract 0 na++b.extract 0 nb++out.reverse
 let firstOfB (out:Array Keyed) (na nb:Nat):=b.extract 0 nb++a.extract 0 na++out.reverse
 let mut na:=a.size - 1
 let mut nb:=b.size
 let mut out:Array Keyed:=#[← elem' a na]
 if na == 0 then return done out na nb
 if nb == 1 then return firstOfB out na nb
 let mut minGallop:=gallopOf (← get)
 for _ in [0:total] do
  let mut acount:=0
  let mut bcount:=0
  for _ in [0:total] do
   let some aWins ← lt' (← elem' b (nb - 1)) (← elem' a (na - 1)) | return done out na nb
   if aWins then
    na:=na - 1; out:=out.push (← elem' a na); acount:=acount+1; bcount:=0
    if na == 0 then return done out na nb
    if acount ≥ minGallop then break
   else
    nb:=nb - 1; out:=out.push (← elem' b nb); bcount:=bcount+1; acount:=0
    if nb == 1 then return firstOfB out na nb
    if bcount ≥ minGallop then break
  rule "list.sort.gallop"
  minGallop:=minGallop+1
  for _ in [0:total] do
   if minGallop > 1 then minGallop:=minGallop - 1
   setG minGallop
   let some at_ ← Wd false (← elem' b (nb - 1)) a 0 na (na - 1) | return done out na nb
   let k:=na - at_
   acount:=k
   if k > 0 then
    out:=out++(a.extract at_ na).reverse; na:=at_
    if na == 0 then return done out na nb
   nb:=nb - 1; out:=out.push (← elem' b nb)
   if nb == 1 then return firstOfB out na nb
   let some at_ ← Wd true (← elem' a (na - 1)) b 0 nb (nb - 1) | return done out na nb
   let k:=nb - at_
   bcount:=k
   if k > 0 then
    out:=out++(b.extract at_ nb).reverse; nb:=at_
    if nb == 1 then return firstOfB out na nb
    if nb == 0 then return done out na nb
   na:=na - 1; out:=out.push (← elem' a na)
   if na == 0 then return done out na nb
   if acount<7 && bcount<7 then break
  minGallop:=minGallop+1
  setG minGallop
 unsupported "internal:list.sort.merge-bound") := rfl
noncomputable def JH (less:Keyed→Keyed→Bool) (a b out:Array Keyed) (na nb:Nat):Prop:=JL (fun x y=>less y x=true) (a.toList++b.toList) out.toList (a.toList.take na).reverse (b.toList.take nb).reverse
section
variable {less:Keyed→Keyed→Bool} {a b out:Array Keyed} {na nb:Nat}
theorem take_cons {x:Array Keyed} {n:Nat} (h:n<x.size):(x.toList.take (n+1)).reverse=[x[n]]++(x.toList.take n).reverse:=by
 rw [List.take_succ_eq_append_getElem (by simpa using h)]
 simp
theorem ZaT {x:Array Keyed} {i n:Nat} (h:i≤n) (hn:n≤x.size):(x.toList.take n).reverse=(x.extract i n).reverse.toList++(x.toList.take i).reverse:=by
 rw [Array.toList_reverse,Array.toList_extract,List.extract_eq_drop_take,← List.reverse_append]
 congr 1
 obtain ⟨k,rfl⟩:∃ k,n=i+k:=⟨n - i,by omega⟩
 rw [show i+k - i=k by omega,List.take_add]
theorem W7 {x:Array Keyed} {n:Nat}:(x.extract 0 n).toList=x.toList.take n:=by
 rw [Array.toList_extract,List.extract_eq_drop_take]
 simp
theorem ZaH {x:Array Keyed} {n:Nat} {z:Keyed} (h:z∈(x.toList.take n).reverse):∃ j,j<n∧∃ hj:j<x.size,z=x[j]:=by
 rw [List.mem_reverse] at h
 obtain ⟨j,hj,rfl⟩:=List.mem_iff_getElem.mp h
 rw [List.length_take] at hj
 refine ⟨j,by omega,by simp at hj; omega,?_⟩
 rw [List.getElem_take]
 simp
theorem ZeE {x:Array Keyed} {i n:Nat} {z:Keyed} (hk:n≤x.size) (h:z∈(x.extract i n).reverse.toList):∃ j,i≤j∧j<n∧∃ hj:j<x.size,z=x[j]:=by
 rw [Array.toList_reverse,List.mem_reverse] at h
 obtain ⟨j,hj,rfl⟩:=List.mem_iff_getElem.mp h
 have hj':j<n - i:=by simp at hj; omega
 exact ⟨i+j,by omega,by omega,by omega,by simp⟩
theorem ZaV {x:Array Keyed} (h:x.toList.Pairwise (fun x y=>less x y=true)) (n:Nat):(x.toList.take n).reverse.Pairwise (fun x y=>less y x=true):=List.pairwise_reverse.mpr (h.sublist (List.take_sublist _ _))
theorem JH.takeA (C:AB less a b) (h:JH less a b out na nb) {i:Nat} (hi:i≤na) (hn:na≤a.size) (hx:∀ j,i≤j→j<na→∀ hj:j<a.size,∀ z∈(b.toList.take nb).reverse,less z a[j]=true):JH less a b (out++(a.extract i na).reverse) i nb:=by
 unfold JH at h ⊢
 rw [ZaT hi hn] at h
 rw [Array.toList_append]
 refine h.takeA ?_ fun t ht z hz => ?_
 ·rw [← ZaT hi hn]
  exact ZaV C.sa _
 ·obtain ⟨j,h1,h2,h3,rfl⟩:=ZeE hn ht
  exact hx j h1 h2 h3 z hz
theorem JH.takeB (C:AB less a b) (h:JH less a b out na nb) {i:Nat} (hi:i≤nb) (hn:nb≤b.size) (hx:∀ j,i≤j→j<nb→∀ hj:j<b.size,∀ z∈(a.toList.take na).reverse,less z b[j]=true):JH less a b (out++(b.extract i nb).reverse) na i:=by
 unfold JH at h ⊢
 rw [ZaT hi hn] at h
 rw [Array.toList_append]
 refine h.takeB ?_ fun t ht z hz => ?_
 ·rw [← ZaT hi hn]
  exact ZaV C.sb _
 ·obtain ⟨j,h1,h2,h3,rfl⟩:=ZeE hn ht
  exact hx j h1 h2 h3 z hz
theorem JH.pushA (C:AB less a b) {m:Nat} (h:JH less a b out (m+1) nb) (hi:m<a.size) (hx:∀ z∈(b.toList.take nb).reverse,less z a[m]=true):JH less a b (out.push a[m]) m nb:=by
 unfold JH at h ⊢
 rw [take_cons hi] at h
 rw [Array.toList_push]
 refine h.takeA ?_ fun t ht z hz => ?_
 ·rw [← take_cons hi]
  exact ZaV C.sa _
 ·rw [List.mem_singleton.mp ht]
  exact hx z hz
theorem JH.pushB (C:AB less a b) {m:Nat} (h:JH less a b out na (m+1)) (hi:m<b.size) (hx:∀ z∈(a.toList.take na).reverse,less z b[m]=true):JH less a b (out.push b[m]) na m:=by
 unfold JH at h ⊢
 rw [take_cons hi] at h
 rw [Array.toList_push]
 refine h.takeB ?_ fun t ht z hz => ?_
 ·rw [← take_cons hi]
  exact ZaV C.sb _
 ·rw [List.mem_singleton.mp ht]
  exact hx z hz
theorem JH.close (h:JH less a b out na nb) {X:List Keyed} (hX:X.Perm (a.toList.take na++b.toList.take nb)) (hp:X.Pairwise (fun x y=>less x y=true)):(X++out.toList.reverse).Perm (a.toList++b.toList)∧(X++out.toList.reverse).Pairwise (fun x y=>less x y=true):=by
 have:=JL.fin h (X:=X.reverse) ((List.reverse_perm X).trans (hX.trans ((List.Perm.append (List.reverse_perm _) (List.reverse_perm _)).symm))) (List.pairwise_reverse.mpr hp)
 rw [show X++out.toList.reverse=(out.toList++X.reverse).reverse by simp]
 exact ⟨(List.reverse_perm _).trans this.1,List.pairwise_reverse.mpr this.2⟩
theorem JH.doneA (C:AB less a b) (h:JH less a b out na nb) (hb:na=0):Rz less a b (a.extract 0 na++b.extract 0 nb++out.reverse):=by
 subst hb
 unfold Rz
 rw [Array.toList_append,Array.toList_append,W7,W7,Array.toList_reverse]
 refine h.close (List.Perm.refl _) ?_
 rw [List.take_zero,List.nil_append]
 exact C.sb.sublist (List.take_sublist _ _)
theorem JH.doneB (C:AB less a b) (h:JH less a b out na nb) (hb:nb=0):Rz less a b (a.extract 0 na++b.extract 0 nb++out.reverse):=by
 subst hb
 unfold Rz
 rw [Array.toList_append,Array.toList_append,W7,W7,Array.toList_reverse]
 refine h.close (List.Perm.refl _) ?_
 rw [List.take_zero,List.append_nil]
 exact C.sa.sublist (List.take_sublist _ _)
theorem JH.first (C:AB less a b) (h:JH less a b out na nb) (hb:nb=1):Rz less a b (b.extract 0 nb++a.extract 0 na++out.reverse):=by
 subst hb
 unfold Rz
 rw [Array.toList_append,Array.toList_append,W7,W7,Array.toList_reverse]
 refine h.close List.perm_append_comm (List.pairwise_append.mpr ⟨C.sb.sublist (List.take_sublist _ _),C.sa.sublist (List.take_sublist _ _),fun y hy x hx => ?_⟩)
 obtain ⟨j,h1,h2,rfl⟩:=ZaH (List.mem_reverse.mpr hy)
 obtain rfl:j=0:=by omega
 exact C.fi x (List.mem_of_mem_take hx)
theorem AB.all_a' (C:AB less a b) {y:Keyed} (hy:y∈a.toList++b.toList) {m:Nat} (hi:m<a.size) (h:less a[m] y=true):∀ z∈(a.toList.take (m+1)).reverse,less z y=true:=by
 intro z hz
 obtain ⟨j,h1,h2,rfl⟩:=ZaH hz
 by_cases e:j=m
 ·subst e; exact h
 ·exact C.tr a[j] (by simp) a[m] (by simp) y hy (Qm C.sa (by omega) hi) h
theorem AB.all_b' (C:AB less a b) {y:Keyed} (hy:y∈a.toList++b.toList) {m:Nat} (hi:m<b.size) (h:less b[m] y=true):∀ z∈(b.toList.take (m+1)).reverse,less z y=true:=by
 intro z hz
 obtain ⟨j,h1,h2,rfl⟩:=ZaH hz
 by_cases e:j=m
 ·subst e; exact h
 ·exact C.tr b[j] (by simp) b[m] (by simp) y hy (Qm C.sb (by omega) hi) h
end
section
variable {M:Model} {A:Around} {E:Value→Shared→Prop} {s:Shared} {less:Keyed→Keyed→Bool} {a b:Array Keyed} {st:SortSt}
noncomputable def Hn2 (less:Keyed→Keyed→Bool) (a b:Array Keyed) (st:SortSt) (base:Nat) (c:Option (Array Keyed)×Nat×Nat×Array Keyed×Nat×Nat×Nat) (st':SortSt):Prop:=∃ g out na nb mg ac bc,st'=SG st g∧c=(none,na,nb,out,mg,ac,bc)∧JH less a b out na nb∧0<na∧1<nb∧na≤a.size∧nb≤b.size∧na+nb+base≤a.size+b.size
noncomputable def Ho2 (less:Keyed→Keyed→Bool) (a b:Array Keyed) (st:SortSt) (base:Nat) (c:Option (Array Keyed)×Nat×Nat×Array Keyed×Nat×Nat×Nat) (st':SortSt):Prop:=(∃ g r q,st'=SG st g∧c=(some r,q)∧Rz less a b r)∨Hn2 less a b st base c st'
noncomputable def Hn1 (less:Keyed→Keyed→Bool) (a b:Array Keyed) (st':SortSt) (base:Nat) (c:Option (Array Keyed)×Nat×Nat×Array Keyed×Nat×Nat) (st'':SortSt):Prop:=∃ out na nb ac bc,st''=st'∧c=(none,na,nb,out,ac,bc)∧JH less a b out na nb∧0<na∧1<nb∧na≤a.size∧nb≤b.size∧na+nb+base≤a.size+b.size
noncomputable def Ho1 (less:Keyed→Keyed→Bool) (a b:Array Keyed) (st':SortSt) (base:Nat) (c:Option (Array Keyed)×Nat×Nat×Array Keyed×Nat×Nat) (st'':SortSt):Prop:=(∃ r q,st''=st'∧c=(some r,q)∧Rz less a b r)∨Hn1 less a b st' base c st''
theorem ZiI {Q:Array Keyed→SortSt→Prop} (C:AB less a b) (H:HL M A E s (kindOf st) less (a.toList++b.toList)) (hr:∀ {Q':Unit→Shared→Prop} (x:String),Q' () s→wpAny M A (rule x) Q' E s) (h:∀ r g,Rz less a b r→Q r (SG st g)):wpS M A E s (Zb2 a b) Q st:=by
 rw [Zl0]
 refine wpS_bind (wpS_lift (hr _ ⟨rfl,?_⟩))
 have za:=C.za
 have zb:=C.zb
 obtain ⟨n,hn⟩:∃ n,a.size=n+1:=⟨a.size - 1,by omega⟩
 have hn':a.size - 1=n:=by omega
 dsimp only
 refine wpS_bind (Zo (show a.size - 1<a.size by omega) ?_)
 have j0:JH less a b #[a[a.size - 1]'(by omega)] (a.size - 1) b.size:=by
  have e:JH less a b #[] a.size b.size:=by
   refine ⟨?_,by simp,by simp⟩
   rw [← Array.length_toList,List.take_length,← Array.length_toList (xs:=b),List.take_length]
   simpa using (List.Perm.append (List.reverse_perm _) (List.reverse_perm _))
  have e2:JH less a b #[] (a.size - 1+1) b.size:=by rw [show a.size - 1+1=a.size by omega]; exact e
  exact JH.pushA C e2 (show a.size - 1<a.size by omega) fun z hz=>C.la z (List.mem_of_mem_take (List.mem_reverse.mp hz))
 refine Zg (fun c=>wpS_pure (h _ (gallopOf st) (j0.doneA C (by simpa using c)))) fun c => ?_
 refine Zg (fun c'=>wpS_pure (h _ (gallopOf st) (j0.first C (by simpa using c')))) fun c' => ?_
 refine wpS_bind (wpS_get ?_)
 have g1:0<a.size - 1:=by simp at c; omega
 have g2:1<b.size:=by simp at c'; omega
 refine wpS_bind (wpS_mono (wpS_forRange (fun x c st' => ∃ g out na nb mg,st'=SG st g∧c=(none,na,nb,out,mg)∧JH less a b out na nb∧0<na∧1<nb∧na≤a.size∧nb≤b.size∧na+nb+(x+1)≤a.size+b.size)
  (Q:=fun c st' => ∃ g r q,st'=SG st g∧c=(some r,q)∧Rz less a b r) ?_ ?_ ⟨gallopOf st,_,_,_,_,rfl,rfl,j0,g1,g2,by omega,by omega,by omega⟩) ?_)
 ·rintro x c st' _ hx ⟨g,out,na,nb,mg,rfl,rfl,j,h1,h2,h5,h6,h3⟩
  dsimp only
  refine wpS_bind (wpS_mono (wpS_forRange (fun y c st'=>Hn1 less a b (SG st g) (x+1+y) c st') (Q:=fun c st'=>Ho1 less a b (SG st g) (x+2) c st') ?_ ?_ ⟨_,_,_,_,_,rfl,rfl,j,h1,h2,h5,h6,by omega⟩) ?_)
  ·clear j h1 h2 h5 h6 h3
   rintro y c st' _ hy ⟨out,na',nb',ac,bc,rfl,rfl,j,h1,h2,h5,h6,h3⟩
   obtain ⟨p,rfl⟩:∃ p,na'=p+1:=⟨na' - 1,by omega⟩
   obtain ⟨q,rfl⟩:∃ q,nb'=q+1:=⟨nb' - 1,by omega⟩
   dsimp only
   show wpS _ _ _ _ (elem' b q >>= _) _ _
   refine wpS_bind (Zo (show q<b.size by omega) ?_)
   show wpS _ _ _ _ (elem' a p >>= _) _ _
   refine wpS_bind (Zo (show p<a.size by omega) ?_)
   refine wpS_bind (H _ (by simp) _ (by simp) _ _ rfl ?_)
   dsimp only
   refine Zg (fun e => ?_) fun e => ?_
   ·show wpS _ _ _ _ (elem' a p >>= _) _ _
    refine wpS_bind (Zo (show p<a.size by omega) ?_)
    have ja:=JH.pushA C j (show p<a.size by omega) (C.all_b' (by simp) (show q<b.size by omega) e)
    refine Zg (fun c4=>wpS_pure (.inl ⟨_,_,rfl,rfl,ja.doneA C (by simpa using c4)⟩)) fun c4 => ?_
    have h1':0<p:=by simp at c4; omega
    refine Zg (fun c5=>wpS_pure (.inr ⟨_,_,_,_,_,rfl,rfl,ja,h1',h2,by omega,by omega,by omega⟩)) fun c5=>wpS_pure ⟨_,_,_,_,_,rfl,rfl,ja,h1',h2,by omega,by omega,by omega⟩
   ·show wpS _ _ _ _ (elem' b q >>= _) _ _
    refine wpS_bind (Zo (show q<b.size by omega) ?_)
    have e':less (a[p]'(by omega)) (b[q]'(by omega))=true:=by
     have:=C.ne (a[p]'(by omega)) (by simp) (b[q]'(by omega)) (by simp)
     rw [this] at e
     simpa using e
    have jb:=JH.pushB C j (show q<b.size by omega) (C.all_a' (by simp) (show p<a.size by omega) e')
    refine Zg (fun c4=>wpS_pure (.inl ⟨_,_,rfl,rfl,jb.first C (by simpa using c4)⟩)) fun c4 => ?_
    have h2':1<q:=by simp at c4; omega
    refine Zg (fun c5=>wpS_pure (.inr ⟨_,_,_,_,_,rfl,rfl,jb,h1,h2',by omega,by omega,by omega⟩)) fun c5=>wpS_pure ⟨_,_,_,_,_,rfl,rfl,jb,h1,h2',by omega,by omega,by omega⟩
  ·rintro c st' ⟨out,na',nb',ac,bc,e1,e2,j,h1,h2,h5,h6,h3⟩
   rw [Nat.zero_max] at h3
   exact .inr ⟨out,na',nb',ac,bc,e1,e2,j,h1,h2,h5,h6,by omega⟩
  clear j h1 h2 h5 h6 h3
  rintro c st' (⟨r,q,rfl,rfl,hz⟩ | ⟨out,na,nb,ac,bc,rfl,rfl,j,h1,h2,h5,h6,h4⟩)
  ·exact wpS_pure ⟨_,r,_,rfl,rfl,hz⟩
  dsimp only
  refine wpS_bind (wpS_lift (hr _ ⟨rfl,?_⟩))
  refine wpS_bind (wpS_mono (wpS_forRange (fun y c st'=>Hn2 less a b st (x+2) c st') (Q:=fun c st'=>Ho2 less a b st (x+2) c st') ?_ ?_ ⟨g,_,_,_,_,_,_,rfl,rfl,j,h1,h2,h5,h6,by omega⟩) ?_)
  ·clear h4 j h1 h2 h5 h6
   rintro y c st' _ hy ⟨g,out,na,nb,mg,ac,bc,rfl,rfl,j,h1,h2,h5,h6,h3⟩
   obtain ⟨p,rfl⟩:∃ p,na=p+1:=⟨na - 1,by omega⟩
   obtain ⟨q,rfl⟩:∃ q,nb=q+1+1:=⟨nb - 2,by omega⟩
   dsimp only
   refine Zg (fun c0 => ?_) fun c0 => ?_
   ·rw [QJ]
    refine wpS_bind (wpS_modify ?_)
    show wpS _ _ _ _ _ _ (SG st (mg - 1))
    show wpS _ _ _ _ (elem' b (q+1) >>= _) _ _
    refine wpS_bind (Zo (show q+1<b.size by omega) ?_)
    refine wpS_bind (ZbG (st:=SG st (mg - 1)) C H (ia:=0) (hint:=p+1 - 1) (m:=p+1) (by omega) (by omega) (ZC (show q+1<b.size by omega)) fun at_ k1 k2 k3 => ?_)
    dsimp only
    refine Zg (fun c1 => ?_) fun c1 => ?_
    ·have ja:=j.takeA C (i:=at_) k1 (by omega) (fun i hi hi2 hi3 z hz=>C.all_b' (by simp) (show q+1<b.size by omega) (by have:=k3 i hi hi2 (by omega); simpa using this) z hz)
     refine Zg (fun c3=>wpS_pure (.inl ⟨_,_,_,rfl,rfl,ja.doneA C (by simpa using c3)⟩)) fun c3 => ?_
     obtain ⟨v,rfl⟩:∃ v,at_=v+1:=⟨at_ - 1,by simp at c3; omega⟩
     have hz:∀ z∈(a.toList.take (v+1)).reverse,less z (b[q+1]'(by omega))=true:=C.all_a' (by simp) (show v<a.size by omega) (by have:=k2 v (by omega) (by omega); simpa using this)
     show wpS _ _ _ _ (elem' b (q+1) >>= _) _ _
     refine wpS_bind (Zo (show q+1<b.size by omega) ?_)
     have jb:=JH.pushB C ja (show q+1<b.size by omega) hz
     refine Zg (fun c4=>wpS_pure (.inl ⟨_,_,_,rfl,rfl,jb.first C (by simpa using c4)⟩)) fun c4 => ?_
     have h2':0<q:=by simp at c4; omega
     show wpS _ _ _ _ (elem' a (v) >>= _) _ _
     refine wpS_bind (Zo (show v<a.size by omega) ?_)
     refine wpS_bind (WK (st:=SG st (mg - 1)) C H (ib:=0) (hint:=q+1 - 1) (m:=q+1) (by omega) (by omega) (ZC (show v<a.size by omega)) fun at2 r1 r2 r3 => ?_)
     dsimp only
     refine Zg (fun c5 => ?_) fun c5 => ?_
     ·have jc:=jb.takeB C (i:=at2) r1 (by omega) (fun i hi hi2 hi3 z hz=>C.all_a' (by simp) (show v<a.size by omega) (by have:=r3 i hi hi2 (by omega); simpa using this) z hz)
      refine Zg (fun c6=>wpS_pure (.inl ⟨_,_,_,rfl,rfl,jc.first C (by simpa using c6)⟩)) fun c6 => ?_
      refine Zg (fun c9=>wpS_pure (.inl ⟨_,_,_,rfl,rfl,jc.doneB C (by simpa using c9)⟩)) fun c9 => ?_
      have h2z:1<at2:=by simp at c6 c9; omega
      obtain ⟨u,rfl⟩:∃ u,at2=u+1:=⟨at2 - 1,by omega⟩
      have hy:∀ z∈(b.toList.take (u+1)).reverse,less z (a[v]'(by omega))=true:=C.all_b' (by simp) (show u<b.size by omega) (by have:=r2 u (by omega) (by omega); simpa using this)
      refine wpS_bind (Zo (show v<a.size by omega) ?_)
      have jd:=JH.pushA C jc (show v<a.size by omega) hy
      refine Zg (fun c7=>wpS_pure (.inl ⟨_,_,_,rfl,rfl,jd.doneA C (by simpa using c7)⟩)) fun c7 => ?_
      have h1z:0<v:=by simp at c7; omega
      refine Zg (fun c8=>wpS_pure (.inr ⟨_,_,_,_,_,_,_,rfl,rfl,jd,h1z,by omega,by omega,by omega,by omega⟩)) fun c8 => ?_
      exact wpS_pure ⟨_,_,_,_,_,_,_,rfl,rfl,jd,h1z,by omega,by omega,by omega,by omega⟩
     ·obtain rfl:at2=q+1:=by omega
      have hy:∀ z∈(b.toList.take (q+1)).reverse,less z (a[v]'(by omega))=true:=C.all_b' (by simp) (show q<b.size by omega) (by have:=r2 q (by omega) (by omega); simpa using this)
      refine wpS_bind (Zo (show v<a.size by omega) ?_)
      have jd:=JH.pushA C jb (show v<a.size by omega) hy
      refine Zg (fun c7=>wpS_pure (.inl ⟨_,_,_,rfl,rfl,jd.doneA C (by simpa using c7)⟩)) fun c7 => ?_
      have h1z:0<v:=by simp at c7; omega
      refine Zg (fun c8=>wpS_pure (.inr ⟨_,_,_,_,_,_,_,rfl,rfl,jd,h1z,by omega,by omega,by omega,by omega⟩)) fun c8 => ?_
      exact wpS_pure ⟨_,_,_,_,_,_,_,rfl,rfl,jd,h1z,by omega,by omega,by omega,by omega⟩
    ·obtain rfl:at_=p+1:=by omega
     have hz:∀ z∈(a.toList.take (p+1)).reverse,less z (b[q+1]'(by omega))=true:=C.all_a' (by simp) (show p<a.size by omega) (by have:=k2 p (by omega) (by omega); simpa using this)
     show wpS _ _ _ _ (elem' b (q+1) >>= _) _ _
     refine wpS_bind (Zo (show q+1<b.size by omega) ?_)
     have jb:=JH.pushB C j (show q+1<b.size by omega) hz
     refine Zg (fun c4=>wpS_pure (.inl ⟨_,_,_,rfl,rfl,jb.first C (by simpa using c4)⟩)) fun c4 => ?_
     have h2':0<q:=by simp at c4; omega
     show wpS _ _ _ _ (elem' a (p) >>= _) _ _
     refine wpS_bind (Zo (show p<a.size by omega) ?_)
     refine wpS_bind (WK (st:=SG st (mg - 1)) C H (ib:=0) (hint:=q+1 - 1) (m:=q+1) (by omega) (by omega) (ZC (show p<a.size by omega)) fun at2 r1 r2 r3 => ?_)
     dsimp only
     refine Zg (fun c5 => ?_) fun c5 => ?_
     ·have jc:=jb.takeB C (i:=at2) r1 (by omega) (fun i hi hi2 hi3 z hz=>C.all_a' (by simp) (show p<a.size by omega) (by have:=r3 i hi hi2 (by omega); simpa using this) z hz)
      refine Zg (fun c6=>wpS_pure (.inl ⟨_,_,_,rfl,rfl,jc.first C (by simpa using c6)⟩)) fun c6 => ?_
      refine Zg (fun c9=>wpS_pure (.inl ⟨_,_,_,rfl,rfl,jc.doneB C (by simpa using c9)⟩)) fun c9 => ?_
      have h2z:1<at2:=by simp at c6 c9; omega
      obtain ⟨u,rfl⟩:∃ u,at2=u+1:=⟨at2 - 1,by omega⟩
      have hy:∀ z∈(b.toList.take (u+1)).reverse,less z (a[p]'(by omega))=true:=C.all_b' (by simp) (show u<b.size by omega) (by have:=r2 u (by omega) (by omega); simpa using this)
      refine wpS_bind (Zo (show p<a.size by omega) ?_)
      have jd:=JH.pushA C jc (show p<a.size by omega) hy
      refine Zg (fun c7=>wpS_pure (.inl ⟨_,_,_,rfl,rfl,jd.doneA C (by simpa using c7)⟩)) fun c7 => ?_
      have h1z:0<p:=by simp at c7; omega
      refine Zg (fun c8=>wpS_pure (.inr ⟨_,_,_,_,_,_,_,rfl,rfl,jd,h1z,by omega,by omega,by omega,by omega⟩)) fun c8 => ?_
      exact wpS_pure ⟨_,_,_,_,_,_,_,rfl,rfl,jd,h1z,by omega,by omega,by omega,by omega⟩
     ·obtain rfl:at2=q+1:=by omega
      have hy:∀ z∈(b.toList.take (q+1)).reverse,less z (a[p]'(by omega))=true:=C.all_b' (by simp) (show q<b.size by omega) (by have:=r2 q (by omega) (by omega); simpa using this)
      refine wpS_bind (Zo (show p<a.size by omega) ?_)
      have jd:=JH.pushA C jb (show p<a.size by omega) hy
      refine Zg (fun c7=>wpS_pure (.inl ⟨_,_,_,rfl,rfl,jd.doneA C (by simpa using c7)⟩)) fun c7 => ?_
      have h1z:0<p:=by simp at c7; omega
      refine Zg (fun c8=>wpS_pure (.inr ⟨_,_,_,_,_,_,_,rfl,rfl,jd,h1z,by omega,by omega,by omega,by omega⟩)) fun c8 => ?_
      exact wpS_pure ⟨_,_,_,_,_,_,_,rfl,rfl,jd,h1z,by omega,by omega,by omega,by omega⟩
   ·rw [QJ]
    refine wpS_bind (wpS_modify ?_)
    show wpS _ _ _ _ _ _ (SG st mg)
    show wpS _ _ _ _ (elem' b (q+1) >>= _) _ _
    refine wpS_bind (Zo (show q+1<b.size by omega) ?_)
    refine wpS_bind (ZbG (st:=SG st mg) C H (ia:=0) (hint:=p+1 - 1) (m:=p+1) (by omega) (by omega) (ZC (show q+1<b.size by omega)) fun at_ k1 k2 k3 => ?_)
    dsimp only
    refine Zg (fun c1 => ?_) fun c1 => ?_
    ·have ja:=j.takeA C (i:=at_) k1 (by omega) (fun i hi hi2 hi3 z hz=>C.all_b' (by simp) (show q+1<b.size by omega) (by have:=k3 i hi hi2 (by omega); simpa using this) z hz)
     refine Zg (fun c3=>wpS_pure (.inl ⟨_,_,_,rfl,rfl,ja.doneA C (by simpa using c3)⟩)) fun c3 => ?_
     obtain ⟨v,rfl⟩:∃ v,at_=v+1:=⟨at_ - 1,by simp at c3; omega⟩
     have hz:∀ z∈(a.toList.take (v+1)).reverse,less z (b[q+1]'(by omega))=true:=C.all_a' (by simp) (show v<a.size by omega) (by have:=k2 v (by omega) (by omega); simpa using this)
     show wpS _ _ _ _ (elem' b (q+1) >>= _) _ _
     refine wpS_bind (Zo (show q+1<b.size by omega) ?_)
     have jb:=JH.pushB C ja (show q+1<b.size by omega) hz
     refine Zg (fun c4=>wpS_pure (.inl ⟨_,_,_,rfl,rfl,jb.first C (by simpa using c4)⟩)) fun c4 => ?_
     have h2':0<q:=by simp at c4; omega
     show wpS _ _ _ _ (elem' a (v) >>= _) _ _
     refine wpS_bind (Zo (show v<a.size by omega) ?_)
     refine wpS_bind (WK (st:=SG st mg) C H (ib:=0) (hint:=q+1 - 1) (m:=q+1) (by omega) (by omega) (ZC (show v<a.size by omega)) fun at2 r1 r2 r3 => ?_)
     dsimp only
     refine Zg (fun c5 => ?_) fun c5 => ?_
     ·have jc:=jb.takeB C (i:=at2) r1 (by omega) (fun i hi hi2 hi3 z hz=>C.all_a' (by simp) (show v<a.size by omega) (by have:=r3 i hi hi2 (by omega); simpa using this) z hz)
      refine Zg (fun c6=>wpS_pure (.inl ⟨_,_,_,rfl,rfl,jc.first C (by simpa using c6)⟩)) fun c6 => ?_
      refine Zg (fun c9=>wpS_pure (.inl ⟨_,_,_,rfl,rfl,jc.doneB C (by simpa using c9)⟩)) fun c9 => ?_
      have h2z:1<at2:=by simp at c6 c9; omega
      obtain ⟨u,rfl⟩:∃ u,at2=u+1:=⟨at2 - 1,by omega⟩
      have hy:∀ z∈(b.toList.take (u+1)).reverse,less z (a[v]'(by omega))=true:=C.all_b' (by simp) (show u<b.size by omega) (by have:=r2 u (by omega) (by omega); simpa using this)
      refine wpS_bind (Zo (show v<a.size by omega) ?_)
      have jd:=JH.pushA C jc (show v<a.size by omega) hy
      refine Zg (fun c7=>wpS_pure (.inl ⟨_,_,_,rfl,rfl,jd.doneA C (by simpa using c7)⟩)) fun c7 => ?_
      have h1z:0<v:=by simp at c7; omega
      refine Zg (fun c8=>wpS_pure (.inr ⟨_,_,_,_,_,_,_,rfl,rfl,jd,h1z,by omega,by omega,by omega,by omega⟩)) fun c8 => ?_
      exact wpS_pure ⟨_,_,_,_,_,_,_,rfl,rfl,jd,h1z,by omega,by omega,by omega,by omega⟩
     ·obtain rfl:at2=q+1:=by omega
      have hy:∀ z∈(b.toList.take (q+1)).reverse,less z (a[v]'(by omega))=true:=C.all_b' (by simp) (show q<b.size by omega) (by have:=r2 q (by omega) (by omega); simpa using this)
      refine wpS_bind (Zo (show v<a.size by omega) ?_)
      have jd:=JH.pushA C jb (show v<a.size by omega) hy
      refine Zg (fun c7=>wpS_pure (.inl ⟨_,_,_,rfl,rfl,jd.doneA C (by simpa using c7)⟩)) fun c7 => ?_
      have h1z:0<v:=by simp at c7; omega
      refine Zg (fun c8=>wpS_pure (.inr ⟨_,_,_,_,_,_,_,rfl,rfl,jd,h1z,by omega,by omega,by omega,by omega⟩)) fun c8 => ?_
      exact wpS_pure ⟨_,_,_,_,_,_,_,rfl,rfl,jd,h1z,by omega,by omega,by omega,by omega⟩
    ·obtain rfl:at_=p+1:=by omega
     have hz:∀ z∈(a.toList.take (p+1)).reverse,less z (b[q+1]'(by omega))=true:=C.all_a' (by simp) (show p<a.size by omega) (by have:=k2 p (by omega) (by omega); simpa using this)
     show wpS _ _ _ _ (elem' b (q+1) >>= _) _ _
     refine wpS_bind (Zo (show q+1<b.size by omega) ?_)
     have jb:=JH.pushB C j (show q+1<b.size by omega) hz
     refine Zg (fun c4=>wpS_pure (.inl ⟨_,_,_,rfl,rfl,jb.first C (by simpa using c4)⟩)) fun c4 => ?_
     have h2':0<q:=by simp at c4; omega
     show wpS _ _ _ _ (elem' a (p) >>= _) _ _
     refine wpS_bind (Zo (show p<a.size by omega) ?_)
     refine wpS_bind (WK (st:=SG st mg) C H (ib:=0) (hint:=q+1 - 1) (m:=q+1) (by omega) (by omega) (ZC (show p<a.size by omega)) fun at2 r1 r2 r3 => ?_)
     dsimp only
     refine Zg (fun c5 => ?_) fun c5 => ?_
     ·have jc:=jb.takeB C (i:=at2) r1 (by omega) (fun i hi hi2 hi3 z hz=>C.all_a' (by simp) (show p<a.size by omega) (by have:=r3 i hi hi2 (by omega); simpa using this) z hz)
      refine Zg (fun c6=>wpS_pure (.inl ⟨_,_,_,rfl,rfl,jc.first C (by simpa using c6)⟩)) fun c6 => ?_
      refine Zg (fun c9=>wpS_pure (.inl ⟨_,_,_,rfl,rfl,jc.doneB C (by simpa using c9)⟩)) fun c9 => ?_
      have h2z:1<at2:=by simp at c6 c9; omega
      obtain ⟨u,rfl⟩:∃ u,at2=u+1:=⟨at2 - 1,by omega⟩
      have hy:∀ z∈(b.toList.take (u+1)).reverse,less z (a[p]'(by omega))=true:=C.all_b' (by simp) (show u<b.size by omega) (by have:=r2 u (by omega) (by omega); simpa using this)
      refine wpS_bind (Zo (show p<a.size by omega) ?_)
      have jd:=JH.pushA C jc (show p<a.size by omega) hy
      refine Zg (fun c7=>wpS_pure (.inl ⟨_,_,_,rfl,rfl,jd.doneA C (by simpa using c7)⟩)) fun c7 => ?_
      have h1z:0<p:=by simp at c7; omega
      refine Zg (fun c8=>wpS_pure (.inr ⟨_,_,_,_,_,_,_,rfl,rfl,jd,h1z,by omega,by omega,by omega,by omega⟩)) fun c8 => ?_
      exact wpS_pure ⟨_,_,_,_,_,_,_,rfl,rfl,jd,h1z,by omega,by omega,by omega,by omega⟩
     ·obtain rfl:at2=q+1:=by omega
      have hy:∀ z∈(b.toList.take (q+1)).reverse,less z (a[p]'(by omega))=true:=C.all_b' (by simp) (show q<b.size by omega) (by have:=r2 q (by omega) (by omega); simpa using this)
      refine wpS_bind (Zo (show p<a.size by omega) ?_)
      have jd:=JH.pushA C jb (show p<a.size by omega) hy
      refine Zg (fun c7=>wpS_pure (.inl ⟨_,_,_,rfl,rfl,jd.doneA C (by simpa using c7)⟩)) fun c7 => ?_
      have h1z:0<p:=by simp at c7; omega
      refine Zg (fun c8=>wpS_pure (.inr ⟨_,_,_,_,_,_,_,rfl,rfl,jd,h1z,by omega,by omega,by omega,by omega⟩)) fun c8 => ?_
      exact wpS_pure ⟨_,_,_,_,_,_,_,rfl,rfl,jd,h1z,by omega,by omega,by omega,by omega⟩
  ·rintro c st' hI
   exact .inr hI
  rintro c st' (⟨g,r,q,rfl,rfl,hz⟩ | ⟨g,out,na,nb,mg,ac,bc,rfl,rfl,j,h1,h2,h5,h6,h3⟩)
  ·exact wpS_pure ⟨_,r,_,rfl,rfl,hz⟩
  dsimp only
  rw [QJ]
  refine wpS_bind (wpS_modify ?_)
  exact wpS_pure ⟨_,_,_,_,_,rfl,rfl,j,h1,h2,h5,h6,by omega⟩
 ·rintro c st' ⟨g,out,na,nb,mg,rfl,rfl,j,h1,h2,h5,h6,h3⟩
  rw [Nat.zero_max] at h3
  omega
 ·rintro c st' ⟨g,r,q,rfl,rfl,hz⟩
  exact wpS_pure (h r g hz)
end
end TS
end
section
set_option maxHeartbeats 2000000
namespace TS
open PySem PyProof.Rows
theorem ZmI (i:Nat):mergeAt' i=(do
 let s ← get
 let (some (sa, na, power), some (sb, nb, _)) := ((pendingOf s)[i]?, (pendingOf s)[i + 1]?) | unsupported "internal:list.sort.pending"
 set (setPending s (((pendingOf s).setIfInBounds i (sa,na+nb,power)).eraseIdxIfInBounds (i+1)))
 let some k ← Wd false (← elem' (arrOf s) sb) (arrOf s) sa na 0 | return false
 let (sa,na):=(sa+k,na - k)
 if na == 0 then return true
 let some nb ← Wd true (← elem' (arrOf s) (sa+na - 1)) (arrOf s) sb nb (nb - 1) | return false
 if nb == 0 then return true
 let x:=(arrOf s).extract sa sb
 let y:=(arrOf s).extract sb (sb+nb)
 let merged ← if na≤nb then ZcJ x y else Zb2 x y
 modify fun s=>setArr s (merged.toList.zipIdx.foldl (fun a (p,j)=>a.setIfInBounds (sa+j) p) (arrOf s))
 return (failedOf (← get)).isNone):=rfl
theorem Zjq {M:Model} {A:Around} {E:Value→Shared→Prop} {s:Shared} {st:SortSt} {x:SortSt} {Q:PUnit→SortSt→Prop} (h:Q ⟨⟩ x):wpS M A E s (set x:StateT SortSt Sem PUnit) Q st:=by
 unfold wpS; rw [StateT.run_set]; exact wpAny_pure ⟨rfl,h⟩
theorem splice (k:Nat):∀ (r:List Keyed) (o:Nat) (arr:Array Keyed),k+o+r.length≤arr.size→((r.zipIdx o).foldl (fun a x=>a.setIfInBounds (k+x.snd) x.fst) arr).toList=arr.toList.take (k+o)++r++arr.toList.drop (k+o+r.length)
 | [],o,arr,h=>by simp
 | x :: r,o,arr,h=>by
  rw [List.zipIdx_cons,List.foldl_cons,splice k r (o+1) _ (by simp at h ⊢; omega)]
  have hlt:k+o<arr.size:=by simp at h; omega
  have e1:(arr.setIfInBounds (k+o) x).toList.take (k+(o+1))=arr.toList.take (k+o)++[x]:=by
   rw [Array.toList_setIfInBounds,show k+(o+1)=k+o+1 by omega,List.take_succ_eq_append_getElem (by simpa using hlt),List.take_set_of_le (Nat.le_refl _)]
   simp
  have e2:(arr.setIfInBounds (k+o) x).toList.drop (k+(o+1)+r.length)=arr.toList.drop (k+o+(x :: r).length):=by
   rw [Array.toList_setIfInBounds,List.drop_set_of_lt (by omega)]
   simp
   congr 1
   omega
  rw [e1,e2]
  simp
structure Tot (less:Keyed→Keyed→Bool) (xs:List Keyed):Prop where
 tr:∀ x∈xs,∀ y∈xs,∀ z∈xs,less x y=true→less y z=true→less x z=true
 ne:xs.Pairwise (fun x y=>less y x = !(less x y))
theorem Tot.perm {less:Keyed→Keyed→Bool} {xs ys:List Keyed} (T:Tot less xs) (h:ys.Perm xs):Tot less ys :=
 ⟨fun x hx y hy z hz=>T.tr x (h.mem_iff.mp hx) y (h.mem_iff.mp hy) z (h.mem_iff.mp hz),(h.pairwise_iff (fun {x y} e=>by rw [e,Bool.not_not])).mpr T.ne⟩
theorem Tot.at_ {less:Keyed→Keyed→Bool} {x:Array Keyed} (T:Tot less x.toList) {i j:Nat} (hi:i<x.size) (hj:j<x.size) (h:i≠j):less x[j] x[i] = !(less x[i] x[j]):=by
 rcases Nat.lt_or_gt_of_ne h with h | h
 ·have:=List.pairwise_iff_getElem.mp T.ne i j (by simpa using hi) (by simpa using hj) h
  simp only [Array.getElem_toList] at this
  exact this
 ·have:=List.pairwise_iff_getElem.mp T.ne j i (by simpa using hj) (by simpa using hi) h
  simp only [Array.getElem_toList] at this
  rw [this,Bool.not_not]
noncomputable def Srt (less:Keyed→Keyed→Bool) (x:Array Keyed) (lo hi:Nat):Prop:=∀ i j (hij:i<j) (hj:j<x.size),lo≤i→j<hi→less (x[i]'(by omega)) x[j]=true
theorem WA {x:Array Keyed} {i n:Nat} {z:Keyed} (h:z∈(x.extract i n).toList):∃ j,i≤j∧j<n∧∃ hj:j<x.size,z=x[j]:=by
 obtain ⟨j,hj,rfl⟩:=List.mem_iff_getElem.mp h
 have hj':j<min n x.size - i:=by simp at hj; omega
 exact ⟨i+j,by omega,by omega,by omega,by simp⟩
theorem ZaJ {less:Keyed→Keyed→Bool} {x:Array Keyed} {i n:Nat} (h:Srt less x i n):(x.extract i n).toList.Pairwise (fun x y=>less x y=true):=by
 rw [List.pairwise_iff_getElem]
 intro p q hp hq hpq
 have hq':q<min n x.size - i:=by simp at hq; omega
 have:=h (i+p) (i+q) (by omega) (by omega) (by omega) (by omega)
 simpa using this
theorem Ze4 {less:Keyed→Keyed→Bool} {x:Array Keyed} (h:Srt less x 0 x.size):x.toList.Pairwise (fun x y=>less x y=true):=by
 have:=ZaJ h
 rw [WI] at this
 simpa using this
section
variable {M:Model} {A:Around} {E:Value→Shared→Prop} {s:Shared} {less:Keyed→Keyed→Bool} {st:SortSt}
theorem ZmN {Q:Bool→SortSt→Prop} {n1 n2 pw:Nat} (hp:pendingOf st = #[(0,n1,pw),(n1,n2,0)]) (hf:failedOf st=none) (hs:(arrOf st).size=n1+n2) (h1:0<n1) (h2:0<n2)
  (T:Tot less (arrOf st).toList) (s1:Srt less (arrOf st) 0 n1) (s2:Srt less (arrOf st) n1 (n1+n2)) (H:HL M A E s (kindOf st) less (arrOf st).toList) (hr:∀ {Q':Unit→Shared→Prop} (x:String),Q' () s→wpAny M A (rule x) Q' E s)
  (h:∀ arr' g,arr'.toList.Perm (arrOf st).toList→arr'.toList.Pairwise (fun x y=>less x y=true)→Q true (SortSt.mk' (kindOf st) arr' #[(0,n1+n2,pw)] g none)):wpS M A E s (mergeAt' 0) Q st:=by
 rw [ZmI]
 refine wpS_bind (wpS_get ?_)
 rw [hp]
 dsimp only
 show wpS _ _ _ _ (set _ >>= _) _ _
 refine wpS_bind (Zjq ?_)
 have hpend:(((#[(0,n1,pw),(n1,n2,0)]:Array (Nat×Nat×Nat)).setIfInBounds 0 (0,n1+n2,pw)).eraseIdxIfInBounds (0+1)) = #[(0,n1+n2,pw)]:=by
  apply Array.toList_inj.mp
  simp [Array.eraseIdxIfInBounds]
 rw [hpend]
 have hst:∀ Q':Bool→SortSt→Prop,True:=fun _=>trivial
 generalize hx:arrOf st=x at *
 rw [show setPending st #[(0,n1+n2,pw)]=SortSt.mk' (kindOf st) x #[(0,n1+n2,pw)] (gallopOf st) (failedOf st) from by rw [← hx]]
 have whole0:Srt less x 0 x.size→Q true (SortSt.mk' (kindOf st) x #[(0,n1+n2,pw)] (gallopOf st) none):=fun w=>h x _ (List.Perm.refl _) (Ze4 w)
 refine wpS_bind (Zo (show n1<x.size by omega) ?_)
 refine wpS_bind (Zby (st:=SortSt.mk' (kindOf st) x #[(0,n1+n2,pw)] (gallopOf st) (failedOf st)) (B:=fun i=>if hi:i<x.size then less x[i] (x[n1]'(by omega)) else false) (fun i hi Q hq => ?_) (fun i j hij hj hb => ?_) h1 fun k k1 k2 k3 => ?_)
 ·have hi':i<x.size:=by omega
  rw [dif_pos hi'] at hq
  refine ZdR (st:=SortSt.mk' (kindOf st) x #[(0,n1+n2,pw)] (gallopOf st) (failedOf st)) H (ZC (show n1<x.size by omega)) (show 0+i<x.size by omega) (ZC (show 0+i<x.size by omega)) Q ?_
  have:=T.at_ hi' (show n1<x.size by omega) (by omega)
  simp only [Nat.zero_add]
  rw [this,Bool.not_not]
  exact hq
 ·have hj':j<x.size:=by omega
  have hi':i<x.size:=by omega
  rw [dif_pos hj'] at hb
  rw [dif_pos hi']
  by_cases e:i=j
  ·subst e; exact hb
  ·exact T.tr _ (by simp) _ (by simp) _ (by simp) (s1 i j (by omega) hj' (by omega) hj) hb
 have low:∀ i (hi:i<k) (hi':i<x.size),less x[i] (x[n1]'(by omega))=true:=fun i hi hi'=>by
  have:=k2 i hi
  rw [dif_pos hi'] at this
  exact this
 have high:∀ i (hi:k≤i) (hi':i<n1),less (x[n1]'(by omega)) (x[i]'(by omega))=true:=fun i hi hi'=>by
  have:=k3 i hi hi'
  rw [dif_pos (show i<x.size by omega)] at this
  rw [T.at_ (show i<x.size by omega) (show n1<x.size by omega) (by omega),this]
  rfl
 have lowb:∀ i (hi:i<k) j (hj:n1≤j) (hj':j<x.size),less (x[i]'(by omega)) x[j]=true:=fun i hi j hj hj'=>by
  by_cases e:j=n1
  ·subst e; exact low i hi (by omega)
  ·exact T.tr _ (by simp) _ (by simp) _ (by simp) (low i hi (by omega)) (s2 n1 j (by omega) hj' (by omega) (by omega))
 dsimp only
 refine Zg (fun c => ?_) fun c => ?_
 ·have hk:k=n1:=by simp at c; omega
  have hz:=whole0 fun i j hij hj _ _=>by
   by_cases e1:j<n1
   ·exact s1 i j hij hj (by omega) e1
   ·by_cases e2:n1≤i
    ·exact s2 i j hij hj e2 (by omega)
    ·exact lowb i (by omega) j (by omega) hj
  rw [← hf] at hz
  exact wpS_pure hz
 have hk:k<n1:=by simp at c; omega
 refine wpS_bind (Zo (show 0+k+(n1 - k) - 1<x.size by omega) ?_)
 have ei:0+k+(n1 - k) - 1=n1 - 1:=by omega
 simp only [ei]
 refine wpS_bind (Zby (st:=SortSt.mk' (kindOf st) x #[(0,n1+n2,pw)] (gallopOf st) (failedOf st)) (B:=fun i=>if hi:n1+i<x.size then less x[n1+i] (x[n1 - 1]'(by omega)) else false) (fun i hi Q hq => ?_) (fun i j hij hj hb => ?_) (show n2 - 1<n2 by omega) fun m m1 m2 m3 => ?_)
 ·have hi':n1+i<x.size:=by omega
  rw [dif_pos hi'] at hq
  exact Zgr (st:=SortSt.mk' (kindOf st) x #[(0,n1+n2,pw)] (gallopOf st) (failedOf st)) H (ZC (show n1 - 1<x.size by omega)) hi' (ZC hi') Q hq
 ·have hj':n1+j<x.size:=by omega
  have hi':n1+i<x.size:=by omega
  rw [dif_pos hj'] at hb
  rw [dif_pos hi']
  by_cases e:i=j
  ·subst e; exact hb
  ·exact T.tr _ (by simp) _ (by simp) _ (by simp) (s2 (n1+i) (n1+j) (by omega) hj' (by omega) (by omega)) hb
 have low2:∀ i (hi:i<m) (hi':n1+i<x.size),less x[n1+i] (x[n1 - 1]'(by omega))=true:=fun i hi hi'=>by
  have:=m2 i hi
  rw [dif_pos hi'] at this
  exact this
 have high2:∀ i (hi:m≤i) (hi':i<n2),less (x[n1 - 1]'(by omega)) (x[n1+i]'(by omega))=true:=fun i hi hi'=>by
  have:=m3 i hi hi'
  rw [dif_pos (show n1+i<x.size by omega)] at this
  rw [T.at_ (show n1+i<x.size by omega) (show n1 - 1<x.size by omega) (by omega),this]
  rfl
 have higha:∀ i (hi:i<n1) j (hj:n1+m≤j) (hj':j<x.size),less (x[i]'(by omega)) x[j]=true:=fun i hi j hj hj'=>by
  have e0:=high2 (j - n1) (by omega) (by omega)
  simp only [show n1+(j - n1)=j by omega] at e0
  by_cases e:i=n1 - 1
  ·subst e; exact e0
  ·exact T.tr _ (by simp) _ (ZC (show n1 - 1<x.size by omega)) _ (by simp) (s1 i (n1 - 1) (by omega) (by omega) (by omega) (by omega)) e0
 dsimp only
 refine Zg (fun c2 => ?_) fun c2 => ?_
 ·have hm:m=0:=by simpa using c2
  have hz:=whole0 fun i j hij hj _ _=>by
   by_cases e1:j<n1
   ·exact s1 i j hij hj (by omega) e1
   ·by_cases e2:n1≤i
    ·exact s2 i j hij hj e2 (by omega)
    ·exact higha i (by omega) j (by omega) hj
  rw [← hf] at hz
  exact wpS_pure hz
 have hm:0<m:=by simp at c2; omega
 have hsub:∀ z∈(x.extract (0+k) n1).toList++(x.extract n1 (n1+m)).toList,z∈x.toList:=fun z hz=>by
  rcases List.mem_append.mp hz with hz | hz
  ·obtain ⟨j,_,_,hj,rfl⟩:=WA hz
   simp
  ·obtain ⟨j,_,_,hj,rfl⟩:=WA hz
   simp
 have C:AB less (x.extract (0+k) n1) (x.extract n1 (n1+m)):=by
  have z1:0<(x.extract (0+k) n1).size:=by simp; omega
  have z2:0<(x.extract n1 (n1+m)).size:=by simp; omega
  refine ⟨fun u hu v hv w hw=>T.tr u (hsub u hu) v (hsub v hv) w (hsub w hw),ZaJ fun i j a b c d=>s1 i j a b (by omega) d,ZaJ fun i j a b c d=>s2 i j a b c (by omega),fun u hu v hv => ?_,z1,z2,fun u hu => ?_,fun v hv => ?_⟩
  ·obtain ⟨i,i1,i2,hi,rfl⟩:=WA hu
   obtain ⟨j,j1,j2,hj,rfl⟩:=WA hv
   exact T.at_ hi hj (by omega)
  ·obtain ⟨i,i1,i2,hi,rfl⟩:=WA hu
   have:=high i (by omega) i2
   simpa using this
  ·obtain ⟨j,j1,j2,hj,rfl⟩:=WA hv
   have:=low2 (j - n1) (by omega) (by omega)
   simp only [show n1+(j - n1)=j by omega] at this
   have el:(x.extract (0+k) n1).size - 1=n1 - 1 - k:=by simp; omega
   simp only [Array.getElem_extract,el,show 0+k+(n1 - 1 - k)=n1 - 1 by omega]
   exact this
 have whole:∀ r,Rz less (x.extract (0+k) n1) (x.extract n1 (n1+m)) r→(r.toList.zipIdx.foldl (fun a x=>a.setIfInBounds (0+k+x.snd) x.fst) x).toList.Perm x.toList∧(r.toList.zipIdx.foldl (fun a x=>a.setIfInBounds (0+k+x.snd) x.fst) x).toList.Pairwise (fun x y=>less x y=true):=by
  rintro r ⟨r1,r2⟩
  have hlen:r.toList.length=n1+m - k:=by
   rw [r1.length_eq]
   simp
   omega
  rw [splice (0+k) r.toList 0 x (by omega),hlen]
  simp only [Nat.add_zero,Nat.zero_add] at r1 ⊢
  rw [show k+(n1+m - k)=n1+m by omega]
  have hdec:x.toList=x.toList.take k++((x.extract k n1).toList++(x.extract n1 (n1+m)).toList)++x.toList.drop (n1+m):=by
   have e1:(x.extract k n1).toList++(x.extract n1 (n1+m)).toList=(x.extract k (n1+m)).toList:=by
    rw [← Array.toList_append,Array.extract_append_extract]
    congr 2
    ·omega
    ·omega
   rw [e1,List.append_assoc,show n1+m=k+(n1+m - k) by omega,← Zai (by omega),List.take_append_drop]
  have mem:∀ v∈r.toList,(∃ j,k≤j∧j<n1∧∃ hj:j<x.size,v=x[j])∨∃ j,n1≤j∧j<n1+m∧∃ hj:j<x.size,v=x[j]:=fun v hv=>by
   rcases List.mem_append.mp (r1.mem_iff.mp hv) with hv | hv
   ·exact .inl (WA hv)
   ·exact .inr (WA hv)
  constructor
  ·conv=>rhs; rw [hdec]
   exact ((r1.append_left _).append_right _)
  ·refine List.pairwise_append.mpr ⟨List.pairwise_append.mpr ⟨?_,r2,fun u hu v hv => ?_⟩,?_,fun u hu w hw => ?_⟩
   ·have:=ZaJ (x:=x) (i:=0) (n:=k) fun i j a b c d=>s1 i j a b c (by omega)
    rw [W7] at this
    exact this
   ·obtain ⟨i,i1,hi,rfl⟩:=ZaH (List.mem_reverse.mpr hu)
    rcases mem v hv with ⟨j,j1,j2,hj,rfl⟩ | ⟨j,j1,j2,hj,rfl⟩
    ·exact s1 i j (by omega) hj (by omega) j2
    ·exact lowb i i1 j j1 hj
   ·have:=ZaJ (x:=x) (i:=n1+m) (n:=x.size) fun i j a b c d=>s2 i j a b (by omega) (by omega)
    rw [WI] at this
    exact this
   ·obtain ⟨j,j1,hj,rfl⟩:=Zbk hw
    rcases List.mem_append.mp hu with hu | hu
    ·obtain ⟨i,i1,hi,rfl⟩:=ZaH (List.mem_reverse.mpr hu)
     exact lowb i i1 j (by omega) hj
    ·rcases mem u hu with ⟨i,i1,i2,hi,rfl⟩ | ⟨i,i1,i2,hi,rfl⟩
     ·exact higha i i2 j j1 hj
     ·exact s2 i j (by omega) hj i1 (by omega)
 refine Zg (fun c3 => ?_) fun c3 => ?_
 ·refine wpS_bind (Zm3 (st:=SortSt.mk' (kindOf st) x #[(0,n1+n2,pw)] (gallopOf st) (failedOf st)) C (fun x hx y hy st Q e q=>H x (hsub x hx) y (hsub y hy) st Q e q) hr fun r g R => ?_)
  refine wpS_bind (wpS_modify (wpS_bind (wpS_get (wpS_pure ?_))))
  have hz:=h _ g (whole r R).1 (whole r R).2
  rw [← hf] at hz
  have hi:(failedOf st).isNone=true:=by rw [hf]; rfl
  rw [← hi] at hz
  exact hz
 ·refine wpS_bind (ZiI (st:=SortSt.mk' (kindOf st) x #[(0,n1+n2,pw)] (gallopOf st) (failedOf st)) C (fun x hx y hy st Q e q=>H x (hsub x hx) y (hsub y hy) st Q e q) hr fun r g R => ?_)
  refine wpS_bind (wpS_modify (wpS_bind (wpS_get (wpS_pure ?_))))
  have hz:=h _ g (whole r R).1 (whole r R).2
  rw [← hf] at hz
  have hi:(failedOf st).isNone=true:=by rw [hf]; rfl
  rw [← hi] at hz
  exact hz
end
end TS
end
section
set_option maxHeartbeats 2000000
namespace TS
open PySem PyProof.Rows
section
variable {less:Keyed→Keyed→Bool} {x:Array Keyed}
theorem Zlo {i j k:Nat} (hj:j≤x.size) (hk:k<x.size):(mirror x i j ((j - i) / 2))[k]'(by rw [mirror_size]; exact hk)=if h:i≤k∧k<j then x[i+j - 1 - k]'(by omega) else x[k]:=by
 have e:=getElem?_mirror_all (i:=i) hj k
 rw [Array.getElem?_eq_getElem (by rw [mirror_size]; exact hk)] at e
 by_cases h:i≤k∧k<j
 ·rw [if_pos h,Array.getElem?_eq_getElem (by omega)] at e
  rw [dif_pos h]
  exact Option.some.inj e
 ·rw [if_neg h,Array.getElem?_eq_getElem hk] at e
  rw [dif_neg h]
  exact Option.some.inj e
theorem Zia {src d k:Nat} (hs:src<x.size) (hd:d≤src) (hk:k<x.size):(bubble x src d)[k]'(by rw [bubble_size]; exact hk)=if k=src - d then x[src] else if src - d<k∧k≤src then x[k - 1]'(by omega) else x[k]:=by
 have e:=getElem?_bubble hs d hd k
 rw [Array.getElem?_eq_getElem (by rw [bubble_size]; exact hk)] at e
 by_cases h:k=src - d
 ·rw [if_pos h,Array.getElem?_eq_getElem hs] at e
  rw [if_pos h]
  exact Option.some.inj e
 ·rw [if_neg h] at e
  rw [if_neg h]
  by_cases h2:src - d<k∧k≤src
  ·rw [if_pos h2,Array.getElem?_eq_getElem (by omega)] at e
   rw [if_pos h2]
   exact Option.some.inj e
  ·rw [if_neg h2,Array.getElem?_eq_getElem hk] at e
   rw [if_neg h2]
   exact Option.some.inj e
noncomputable def Dsc (less:Keyed→Keyed→Bool) (x:Array Keyed) (lo hi:Nat):Prop:=∀ i j (hij:i<j) (hj:j<x.size),lo≤i→j<hi→less x[j] (x[i]'(by omega))=true
theorem Srt.next (T:Tot less x.toList) {lo m:Nat} (h:Srt less x lo (lo+m)) (h1:1≤m) (hm:lo+m<x.size) (e:less (x[lo+m - 1]'(by omega)) x[lo+m]=true):Srt less x lo (lo+(m+1)):=by
 intro i j hij hj hi hj2
 by_cases c:j<lo+m
 ·exact h i j hij hj hi c
 ·obtain rfl:j=lo+m:=by omega
  by_cases c2:i=lo+m - 1
  ·subst c2; exact e
  ·exact T.tr _ (ZC (by omega)) _ (ZC (by omega)) _ (ZC (by omega)) (h i (lo+m - 1) (by omega) (by omega) hi (by omega)) e
theorem Dsc.next (T:Tot less x.toList) {lo m:Nat} (h:Dsc less x lo (lo+m)) (h1:1≤m) (hm:lo+m<x.size) (e:less x[lo+m] (x[lo+m - 1]'(by omega))=true):Dsc less x lo (lo+(m+1)):=by
 intro i j hij hj hi hj2
 by_cases c:j<lo+m
 ·exact h i j hij hj hi c
 ·obtain rfl:j=lo+m:=by omega
  by_cases c2:i=lo+m - 1
  ·subst c2; exact e
  ·exact T.tr _ (ZC (by omega)) _ (ZC (by omega)) _ (ZC (by omega)) e (h i (lo+m - 1) (by omega) (by omega) hi (by omega))
theorem Srt.one {lo:Nat}:Srt less x lo (lo+1):=fun i j hij hj hi hj2=>by omega
noncomputable def Out_ (x y:Array Keyed) (lo hi:Nat):Prop:=y.size=x.size∧∀ k (h1:k<x.size) (h2:k<y.size),k<lo∨hi≤k→y[k]=x[k]
theorem Out_.refl {lo hi:Nat}:Out_ x x lo hi:=⟨rfl,fun _ _ _ _=>rfl⟩
end
section
variable {M:Model} {A:Around} {E:Value→Shared→Prop} {s:Shared} {less:Keyed→Keyed→Bool} {st:SortSt}
theorem Q6 {i j:Nat} {Q:Option Bool→SortSt→Prop} (H:HL M A E s (kindOf st) less (arrOf st).toList) (hi:i<(arrOf st).size) (hj:j<(arrOf st).size) (h:Q (some (less (arrOf st)[i] (arrOf st)[j])) st):wpS M A E s (ltAt' i j) Q st:=by
 rw [ltAt'_eq]
 refine wpS_bind (wpS_get ?_)
 dsimp only
 refine wpS_bind (Zo hi (wpS_bind (Zo hj ?_)))
 exact H _ (ZC hi) _ (ZC hj) st _ rfl h
theorem Zga {Q:Option Nat→SortSt→Prop} {lo nrem:Nat} (H:HL M A E s (kindOf st) less (arrOf st).toList) (T:Tot less (arrOf st).toList) (h1:1≤nrem) (hz:lo+nrem≤(arrOf st).size) (hr:∀ {Q':Unit→Shared→Prop} (x:String),Q' () s→wpAny M A (rule x) Q' E s)
  (h:∀ m y,1≤m→m≤nrem→y.toList.Perm (arrOf st).toList→Out_ (arrOf st) y lo (lo+nrem)→Srt less y lo (lo+m)→Q (some m) (setArr st y)):wpS M A E s (countRun' lo nrem) Q st:=by
 rw [countRun'_eq]
 obtain ⟨x,hx⟩:∃ x,x=arrOf st:=⟨_,rfl⟩
 rw [← hx] at T hz h
 have hxs:(arrOf st).size=x.size:=by rw [hx]
 have ES:setArr st x=st:=by rw [hx]
 have fin0:∀ m,1≤m→m≤nrem→Srt less x lo (lo+m)→Q (some m) st:=fun m a1 a2 a3=>by
  have:=h m x a1 a2 (List.Perm.refl _) Out_.refl a3
  rw [ES] at this
  exact this
 refine wpS_bind (wpS_mono (wpS_forRange (fun y c st'=>st=st'∧c=(none,y)∧Srt less (arrOf st) lo (lo+y)) (Q:=fun c st'=>st=st'∧∃ n,c=(none,n)∧1≤n∧n≤nrem∧Srt less (arrOf st) lo (lo+n)∧(n=nrem∨∃ h:lo+n<(arrOf st).size,less (arrOf st)[lo+n] ((arrOf st)[lo+n - 1]'(by omega))=true)) ?_ ?_ ⟨rfl,rfl,Srt.one⟩) ?_)
 ·rintro y c st' hy1 hy2 ⟨rfl,rfl,hS⟩
  dsimp only
  refine wpS_bind (Q6 H (show lo+y<(arrOf st).size by omega) (show lo+y - 1<(arrOf st).size by omega) ?_)
  dsimp only
  refine Zg (fun e=>wpS_pure ⟨rfl,y,rfl,hy1,by omega,hS,.inr ⟨by omega,e⟩⟩) fun e=>wpS_pure ⟨rfl,rfl,?_⟩
  refine hS.next (hx ▸ T) (by omega) (by omega) ?_
  have:=Tot.at_ (hx ▸ T) (show lo+y - 1<(arrOf st).size by omega) (show lo+y<(arrOf st).size by omega) (by omega)
  rw [this] at e
  simpa using e
 ·rintro c st' ⟨rfl,rfl,hS⟩
  rw [Nat.max_eq_right (by omega)] at hS ⊢
  exact ⟨rfl,nrem,rfl,by omega,Nat.le_refl _,hS,.inl rfl⟩
 rintro c st' ⟨rfl,n,rfl,n1,n2,hS,hE⟩
 rw [← hx] at hS
 dsimp only
 refine Zg (fun c1=>wpS_pure (fin0 n n1 n2 hS)) fun c1 => ?_
 have hn:n<nrem:=by simp at c1; omega
 refine Zg (fun c2 => ?_) fun c2 => ?_
 ·refine wpS_bind (Q6 H (show lo<(arrOf st).size by rw [← hx]; omega) (show lo+n - 1<(arrOf st).size by rw [← hx]; omega) ?_)
  dsimp only
  refine Zg (fun e=>wpS_pure (fin0 n n1 n2 hS)) fun e=>absurd ?_ e
  have:=hS lo (lo+n - 1) (by omega) (by omega) (Nat.le_refl _) (by omega)
  simpa only [hx] using this
 obtain rfl:n=1:=by omega
 have e0:less (x[lo+1]'(by omega)) (x[lo]'(by omega))=true:=by
  rcases hE with hE | ⟨hE,e⟩
  ·omega
  ·simpa only [hx,Nat.add_sub_cancel] using e
 refine wpS_bind (wpS_lift (hr _ ⟨rfl,?_⟩))
 refine wpS_bind (wpS_mono (wpS_forRange (fun y c st'=>st=st'∧c=(none,y,0)∧Dsc less x lo (lo+y)) (Q:=fun c st'=>st=st'∧∃ n,c=(none,n,0)∧2≤n∧n≤nrem∧Dsc less x lo (lo+n)) ?_ ?_ ⟨rfl,rfl,?_⟩) ?_)
 ·rintro y c st' hy1 hy2 ⟨rfl,rfl,hD⟩
  dsimp only
  refine wpS_bind (Q6 H (show lo+y<(arrOf st).size by rw [← hx]; omega) (show lo+y - 1<(arrOf st).size by rw [← hx]; omega) ?_)
  dsimp only
  refine Zg (fun e => ?_) fun e => ?_
  ·refine Zg (fun c3=>absurd c3 (by omega)) fun c3=>wpS_pure ⟨rfl,rfl,?_⟩
   exact hD.next T (by omega) (by omega) (by simpa only [hx] using e)
  ·refine wpS_bind (Q6 H (show lo+y - 1<(arrOf st).size by rw [← hx]; omega) (show lo+y<(arrOf st).size by rw [← hx]; omega) ?_)
   dsimp only
   refine Zg (fun e2=>wpS_pure ⟨rfl,y,rfl,by omega,by omega,hD⟩) fun e2=>absurd ?_ e2
   have:=Tot.at_ T (show lo+y - 1<x.size by omega) (show lo+y<x.size by omega) (by omega)
   simp only [hx] at this
   rw [this] at e
   simpa using e
 ·rintro c st' ⟨rfl,rfl,hD⟩
  rw [Nat.max_eq_right (by omega)] at hD ⊢
  exact ⟨rfl,nrem,rfl,by omega,Nat.le_refl _,hD⟩
 ·intro i j hij hj hi hj2
  obtain rfl:i=lo:=by omega
  obtain rfl:j=i+1:=by omega
  exact e0
 rintro c st' ⟨rfl,n,rfl,n3,n4,hD⟩
 dsimp only
 refine Zg (fun c3=>absurd c3 (by omega)) fun c3 => ?_
 rw [reverseSlice'_eq]
 refine wpS_bind (wpS_modify ?_)
 rw [← hx]
 obtain ⟨y,hy⟩:∃ y,y=mirror x lo (lo+n) ((lo+n - lo) / 2):=⟨_,rfl⟩
 rw [← hy]
 have hp:y.toList.Perm x.toList:=by rw [hy]; exact (mirror_perm _ _ _ _).toList
 have hsz:y.size=x.size:=by rw [hy,mirror_size]
 have hat:∀ k (hk:k<x.size) (hk':k<y.size),y[k]=if h:lo≤k∧k<lo+n then x[lo+(lo+n) - 1 - k]'(by omega) else x[k]:=fun k hk hk'=>by
  subst hy
  exact Zlo (by omega) hk
 have hO:Out_ x y lo (lo+nrem):=⟨hsz,fun k k1 k2 k3=>by rw [hat k k1 k2,dif_neg (by omega)]⟩
 have hS2:Srt less y lo (lo+n):=by
  intro i j hij hj hi hj2
  rw [hat i (by omega) (by omega),hat j (by omega) hj,dif_pos (by omega),dif_pos (by omega)]
  exact hD (lo+(lo+n) - 1 - j) (lo+(lo+n) - 1 - i) (by omega) (by omega) (by omega) (by omega)
 have T2:Tot less y.toList:=T.perm hp
 have H2:HL M A E s (kindOf (setArr st y)) less (arrOf (setArr st y)).toList:=fun u hu v hv=>H u (by rw [← hx]; exact hp.mem_iff.mp hu) v (by rw [← hx]; exact hp.mem_iff.mp hv)
 refine wpS_bind (wpS_mono (wpS_forRange (fun q c st'=>setArr st y=st'∧c=(none,q)∧Srt less y lo (lo+q)) (Q:=fun c st'=>setArr st y=st'∧∃ k0,c=(none,k0)∧n≤k0∧k0≤nrem∧Srt less y lo (lo+k0)∧True) ?_ ?_ ⟨rfl,rfl,hS2⟩) ?_)
 ·rintro q c st' hy1 hy2 ⟨rfl,rfl,hS⟩
  dsimp only
  refine wpS_bind (Q6 (st:=setArr st y) H2 (show lo+q<(y).size by omega) (show lo+q - 1<(y).size by omega) ?_)
  dsimp only
  refine Zg (fun e=>wpS_pure ⟨rfl,q,rfl,hy1,by omega,hS,trivial⟩) fun e=>wpS_pure ⟨rfl,rfl,?_⟩
  refine hS.next T2 (by omega) (by omega) ?_
  have:=Tot.at_ T2 (show lo+q - 1<(y).size by omega) (show lo+q<(y).size by omega) (by omega)
  rw [this] at e
  simpa using e
 ·rintro c st' ⟨rfl,rfl,hS⟩
  rw [Nat.max_eq_right (by omega)] at hS ⊢
  exact ⟨rfl,nrem,rfl,by omega,Nat.le_refl _,hS,trivial⟩
 rintro c st' ⟨rfl,m,rfl,m1,m2,hS3,_⟩
 exact wpS_pure (h m y (by omega) m2 hp hO hS3)
theorem Zd4 {Q:Bool→SortSt→Prop} {lo n ok:Nat} (H:HL M A E s (kindOf st) less (arrOf st).toList) (T:Tot less (arrOf st).toList) (h1:1≤ok) (hok:ok≤n) (hz:lo+n≤(arrOf st).size) (hs:Srt less (arrOf st) lo (lo+ok))
  (h:∀ y,y.toList.Perm (arrOf st).toList→Out_ (arrOf st) y lo (lo+n)→Srt less y lo (lo+n)→Q true (setArr st y)):wpS M A E s (binarySort' lo n ok) Q st:=by
 rw [binarySort'_eq]
 rw [show max ok 1=ok by omega]
 obtain ⟨x,hx⟩:∃ x,x=arrOf st:=⟨_,rfl⟩
 rw [← hx] at T hz h hs
 have ES:st=setArr st x:=by rw [hx]
 refine wpS_bind (wpS_mono (wpS_forRange (fun k c st'=>c=(none,())∧∃ y,st'=setArr st y∧y.toList.Perm x.toList∧Out_ x y lo (lo+n)∧Srt less y lo (lo+k)) (Q:=fun c st'=>c=(none,())∧∃ y,st'=setArr st y∧y.toList.Perm x.toList∧Out_ x y lo (lo+n)∧Srt less y lo (lo+n)) ?_ ?_ ⟨rfl,x,ES,List.Perm.refl _,Out_.refl,hs⟩) ?_)
 ·rintro k c st' hk1 hk2 ⟨rfl,y,rfl,hp,hO,hS⟩
  have T2:Tot less y.toList:=T.perm hp
  have H2:HL M A E s (kindOf (setArr st y)) less (arrOf (setArr st y)).toList:=fun u hu v hv=>H u (by rw [← hx]; exact hp.mem_iff.mp hu) v (by rw [← hx]; exact hp.mem_iff.mp hv)
  have hsz:=hO.1
  dsimp only
  refine wpS_bind (wpS_mono (wpS_forRange (fun z c st'=>st'=setArr st y∧∃ l r,c=(none,l,r)∧l≤r∧r≤k∧r - l+z≤k∧(∀ i (hi:i<l) (hi2:i<k),less (y[lo+i]'(by omega)) (y[lo+k]'(by omega))=true)∧∀ i (hi:r≤i) (hi2:i<k),less (y[lo+k]'(by omega)) (y[lo+i]'(by omega))=true)
   (Q:=fun c st'=>st'=setArr st y∧∃ l,c=(none,l,l)∧l≤k∧(∀ i (hi:i<l) (hi2:i<k),less (y[lo+i]'(by omega)) (y[lo+k]'(by omega))=true)∧∀ i (hi:l≤i) (hi2:i<k),less (y[lo+k]'(by omega)) (y[lo+i]'(by omega))=true) ?_ ?_ ⟨rfl,0,k,rfl,by omega,by omega,by omega,fun i hi hi2=>by omega,fun i hi hi2=>by omega⟩) ?_)
  ·rintro z c st' _ hz2 ⟨rfl,l,r,rfl,a1,a2,a3,a4,a5⟩
   dsimp only
   refine Zg (fun c1 => ?_) fun c1 => ?_
   ·obtain rfl:l=r:=by omega
    exact wpS_pure ⟨rfl,l,rfl,a2,a4,a5⟩
   ·refine wpS_bind (Q6 (st:=setArr st y) H2 (show lo+k<y.size by omega) (show lo+(l+r) / 2<y.size by omega) ?_)
    dsimp only
    refine Zg (fun e => ?_) fun e => ?_
    ·refine wpS_pure ⟨rfl,l,_,rfl,by omega,by omega,by omega,a4,fun i hi hi2 => ?_⟩
     by_cases c2:i=(l+r) / 2
     ·subst c2; exact e
     ·exact T2.tr _ (ZC (by omega)) _ (ZC (show lo+(l+r) / 2<y.size by omega)) _ (ZC (by omega)) e (hS (lo+(l+r) / 2) (lo+i) (by omega) (by omega) (by omega) (by omega))
    ·refine wpS_pure ⟨rfl,_,r,rfl,by omega,by omega,by omega,fun i hi hi2 => ?_,a5⟩
     have e':less (y[lo+(l+r) / 2]'(by omega)) (y[lo+k]'(by omega))=true:=by
      have:=Tot.at_ T2 (show lo+(l+r) / 2<y.size by omega) (show lo+k<y.size by omega) (by omega)
      have e2:¬ less (y[lo+k]'(by omega)) (y[lo+(l+r) / 2]'(by omega))=true:=e
      rw [this] at e2
      simpa using e2
     by_cases c2:i=(l+r) / 2
     ·subst c2; exact e'
     ·exact T2.tr _ (ZC (by omega)) _ (ZC (show lo+(l+r) / 2<y.size by omega)) _ (ZC (by omega)) (hS (lo+i) (lo+(l+r) / 2) (by omega) (by omega) (by omega) (by omega)) e'
  ·rintro c st' ⟨rfl,l,r,rfl,a1,a2,a3,a4,a5⟩
   rw [Nat.zero_max] at a3
   obtain rfl:l=r:=by omega
   exact ⟨rfl,l,rfl,a2,a4,a5⟩
  rintro c st' ⟨rfl,l,rfl,a2,a4,a5⟩
  dsimp only
  rw [moveDown'_eq]
  refine wpS_bind (wpS_modify (wpS_pure ?_))
  show _∧∃ v,SortSt.mk' _ _ _ _ _=setArr st v∧_
  obtain ⟨v,hv⟩:∃ v,v=bubble y (lo+k) (lo+k - (lo+l)):=⟨_,rfl⟩
  have hvs:v.size=y.size:=by rw [hv,bubble_size]
  have hat:∀ j (hj:j<y.size) (hj':j<v.size),v[j]=if j=lo+l then y[lo+k]'(by omega) else if lo+l<j∧j≤lo+k then y[j - 1]'(by omega) else y[j]:=fun j hj hj'=>by
   subst hv
   rw [Zia (by omega) (by omega) hj]
   simp only [show lo+k - (lo+k - (lo+l))=lo+l by omega]
  refine ⟨rfl,v,by rw [hv],?_,⟨by omega,fun j j1 j2 j3 => ?_⟩,fun i j hij hj hi hj2 => ?_⟩
  ·rw [hv]
   exact (bubble_perm _ _ _).toList.trans hp
  ·rw [hat j (by omega) j2,if_neg (by omega),if_neg (by omega)]
   exact hO.2 j j1 (by omega) j3
  ·rw [hat i (by omega) (by omega),hat j (by omega) hj]
   by_cases c1:j=lo+l
   ·rw [if_pos c1,if_neg (by omega),if_neg (by omega)]
    have:=a4 (i - lo) (by omega) (by omega)
    simpa only [show lo+(i - lo)=i by omega] using this
   ·rw [if_neg c1]
    by_cases c2:lo+l<j∧j≤lo+k
    ·rw [if_pos c2]
     by_cases c3:i=lo+l
     ·rw [if_pos c3]
      have:=a5 (j - 1 - lo) (by omega) (by omega)
      simpa only [show lo+(j - 1 - lo)=j - 1 by omega] using this
     ·rw [if_neg c3]
      by_cases c4:lo+l<i∧i≤lo+k
      ·rw [if_pos c4]
       exact hS (i - 1) (j - 1) (by omega) (by omega) (by omega) (by omega)
      ·rw [if_neg c4]
       exact hS i (j - 1) (by omega) (by omega) (by omega) (by omega)
    ·rw [if_neg c2,if_neg (by omega),if_neg (by omega)]
     exact hS i j hij (by omega) hi (by omega)
 ·rintro c st' ⟨rfl,y,rfl,hp,hO,hS⟩
  rw [Nat.max_eq_right hok] at hS
  exact ⟨rfl,y,rfl,hp,hO,hS⟩
 ·rintro c st' ⟨rfl,y,rfl,hp,hO,hS⟩
  exact wpS_pure (h y hp hO hS)
end
end TS
end
section
set_option maxHeartbeats 2000000
namespace TS
open PySem PyProof.Rows
theorem ZhK {n:Nat} (h2:2≤n) (h:n≤127):1≤minRun' n n 0∧minRun' n n 0≤n∧n≤2 * minRun' n n 0:=by
 obtain ⟨k,hk⟩:∃ k,n=k+2:=⟨n - 2,by omega⟩
 have e:minRun' n n 0=if n<64 then n+0 else if n / 2<64 then n / 2+max 0 (n % 2) else minRun' k (n / 2 / 2) (max (max 0 (n % 2)) (n / 2 % 2)):=by
  conv=>lhs; arg 1; rw [hk]
  rw [minRun'_succ,minRun'_succ]
 rw [e]
 by_cases c:n<64
 ·rw [if_pos c]; omega
 ·rw [if_neg c,if_pos (by omega)]; omega
section
variable {M:Model} {A:Around} {E:Value→Shared→Prop} {s:Shared} {less:Keyed→Keyed→Bool} {st:SortSt}
noncomputable abbrev ST (st:SortSt) (y:Array Keyed) (p:Array (Nat×Nat×Nat)) (g:Nat):SortSt:=SortSt.mk' (kindOf st) y p g none
noncomputable def Two (less:Keyed→Keyed→Bool) (x:Array Keyed) (st st':SortSt):Prop:=∃ y g,y.toList.Perm x.toList∧((∃ pw,st'=ST st y #[(0,x.size,pw)] g∧Srt less y 0 x.size)∨∃ n1 n2 pw,st'=ST st y #[(0,n1,pw),(n1,n2,0)] g∧0<n1∧0<n2∧n1+n2=x.size∧Srt less y 0 n1∧Srt less y n1 (n1+n2))
theorem Zkp {Q:Unit→SortSt→Prop} (H:HL M A E s (kindOf st) less (arrOf st).toList) (T:Tot less (arrOf st).toList) (hp:pendingOf st = #[]) (hf:failedOf st=none) (h2:2≤(arrOf st).size) (h127:(arrOf st).size≤127)
  (hr:∀ {Q':Unit→Shared→Prop} (x:String),Q' () s→wpAny M A (rule x) Q' E s) (h:∀ st',(arrOf st').toList.Perm (arrOf st).toList→(arrOf st').toList.Pairwise (fun x y=>less x y=true)→failedOf st'=none→Q () st'):wpS M A E s sortRuns' Q st:=by
 rw [sortRuns'_eq]
 refine wpS_bind (wpS_get ?_)
 obtain ⟨x,hx⟩:∃ x,x=arrOf st:=⟨_,rfl⟩
 dsimp only
 rw [← hx] at T h2 h127 h H ⊢
 have ES:st=ST st x #[] (gallopOf st):=by
  have e1:ST st x #[] (gallopOf st)=SortSt.mk' (kindOf st) (arrOf st) (pendingOf st) (gallopOf st) (failedOf st):=by rw [hp,hf,hx]
  rw [e1]
 obtain ⟨r1,r2,r3⟩:=ZhK h2 h127
 generalize minRun' x.size x.size 0=mr at *
 have HH:∀ (y:Array Keyed) (p:Array (Nat×Nat×Nat)) (g:Nat),y.toList.Perm x.toList→HL M A E s (kindOf (ST st y p g)) less (arrOf (ST st y p g)).toList:=fun y p g hy u hu v hv=>H u (hy.mem_iff.mp hu) v (hy.mem_iff.mp hv)
 refine wpS_bind (wpS_mono (wpS_forRange (fun k c st'=>(k=0∧c=(none,0)∧st'=ST st x #[] (gallopOf st))∨(k=1∧∃ n1 y,c=(none,n1)∧st'=ST st y #[(0,n1,0)] (gallopOf st)∧y.toList.Perm x.toList∧Srt less y 0 n1∧mr≤n1∧n1<x.size)∨(c=(none,x.size)∧Two less x st st'))
  (Q:=fun c st'=>c=(none,x.size)∧Two less x st st') ?_ ?_ (.inl ⟨rfl,rfl,ES⟩)) ?_)
 ·rintro k c st' _ hk (⟨rfl,rfl,rfl⟩ | ⟨rfl,n1,y,rfl,rfl,hy,hS,g1,g2⟩ | ⟨rfl,hT⟩)
  ·dsimp only
   refine Zg (fun c1=>absurd c1 (by omega)) fun _ => ?_
   refine wpS_bind (Zga (st:=ST st x #[] (gallopOf st)) (HH x #[] _ (List.Perm.refl _)) T (show 1≤x.size - 0 by omega) (show 0+(x.size - 0)≤x.size by omega) hr fun m y m1 m2 hy hO hS => ?_)
   have hsz:y.size=x.size:=hO.1
   have fin:∀ n z,1≤n→mr≤n→n≤x.size→z.toList.Perm x.toList→Srt less z 0 n→(0+1=0∧((none:Option Unit),0+n)=(none,0)∧ST st z #[(0,n,0)] (gallopOf st)=ST st x #[] (gallopOf st))∨(0+1=1∧∃ n1 y,((none:Option Unit),0+n)=(none,n1)∧ST st z #[(0,n,0)] (gallopOf st)=ST st y #[(0,n1,0)] (gallopOf st)∧y.toList.Perm x.toList∧Srt less y 0 n1∧mr≤n1∧n1<x.size)∨(((none:Option Unit),0+n)=(none,x.size)∧Two less x st (ST st z #[(0,n,0)] (gallopOf st))):=fun n z a1 a2 a3 a4 a5=>by
    by_cases c2:n<x.size
    ·exact .inr (.inl ⟨rfl,n,z,by rw [Nat.zero_add],rfl,a4,a5,a2,c2⟩)
    ·obtain rfl:n=x.size:=by omega
     exact .inr (.inr ⟨by rw [Nat.zero_add],z,_,a4,.inl ⟨0,rfl,a5⟩⟩)
   dsimp only
   refine Zg (fun c1 => ?_) fun c1 => ?_
   ·refine wpS_bind (wpS_lift (hr _ ⟨rfl,?_⟩))
    rw [show min (x.size - 0) mr=mr by omega]
    refine wpS_bind (Zd4 (st:=ST st y #[] (gallopOf st)) (HH y #[] _ hy) (T.perm hy) m1 (show m≤mr by omega) (show 0+mr≤y.size by omega) hS fun z hz hO2 hS2 => ?_)
    refine Zg (fun c2=>absurd c2 (by simp)) fun _ => ?_
    refine wpS_bind (wpS_get ?_)
    show wpS _ _ _ _ (modify _ >>= _) _ _
    refine wpS_bind (wpS_modify (wpS_pure ?_))
    exact fin mr z r1 (Nat.le_refl _) r2 (hz.trans hy) (by simpa only [Nat.zero_add] using hS2)
   ·refine wpS_bind (wpS_get ?_)
    show wpS _ _ _ _ (modify _ >>= _) _ _
    refine wpS_bind (wpS_modify (wpS_pure ?_))
    exact fin m y m1 (by omega) (by omega) hy (by simpa only [Nat.zero_add] using hS)
  ·have hys:y.size=x.size:=by
    have:=hy.length_eq
    simpa using this
   dsimp only
   refine Zg (fun c1=>absurd c1 (by omega)) fun _ => ?_
   refine wpS_bind (Zga (st:=ST st y #[(0,n1,0)] (gallopOf st)) (HH y _ _ hy) (T.perm hy) (show 1≤x.size - n1 by omega) (show n1+(x.size - n1)≤y.size by omega) hr fun m z m1 m2 hz hO hS2 => ?_)
   have hzs:z.size=y.size:=hO.1
   have low:∀ v:Array Keyed,Out_ y v n1 x.size→Srt less v 0 n1:=fun v hv i j hij hj hi hj2=>by
    rw [hv.2 i (by have:=hv.1; omega) (by omega) (.inl (by omega)),hv.2 j (by have:=hv.1; omega) hj (.inl hj2)]
    exact hS i j hij (by have:=hv.1; omega) hi hj2
   have fin:∀ v:Array Keyed,v.toList.Perm x.toList→Srt less v 0 n1→Srt less v n1 (n1+(x.size - n1))→∀ pw,(1+1=0∧((none:Option Unit),n1+(x.size - n1))=(none,0)∧ST st v #[(0,n1,pw),(n1,x.size - n1,0)] (gallopOf st)=ST st x #[] (gallopOf st))∨(1+1=1∧∃ m1 y,((none:Option Unit),n1+(x.size - n1))=(none,m1)∧ST st v #[(0,n1,pw),(n1,x.size - n1,0)] (gallopOf st)=ST st y #[(0,m1,0)] (gallopOf st)∧y.toList.Perm x.toList∧Srt less y 0 m1∧mr≤m1∧m1<x.size)∨(((none:Option Unit),n1+(x.size - n1))=(none,x.size)∧Two less x st (ST st v #[(0,n1,pw),(n1,x.size - n1,0)] (gallopOf st))):=fun v a1 a2 a3 pw =>
    .inr (.inr ⟨by rw [show n1+(x.size - n1)=x.size by omega],v,_,a1,.inr ⟨n1,x.size - n1,pw,rfl,by omega,by omega,by omega,a2,a3⟩⟩)
   have ex:n1+(x.size - n1)=x.size:=by omega
   dsimp only
   refine Zg (fun c1 => ?_) fun c1 => ?_
   ·refine wpS_bind (wpS_lift (hr _ ⟨rfl,?_⟩))
    rw [show min (x.size - n1) mr=x.size - n1 by omega]
    refine wpS_bind (Zd4 (st:=ST st z #[(0,n1,0)] (gallopOf st)) (HH z _ _ (hz.trans hy)) (T.perm (hz.trans hy)) m1 (show m≤x.size - n1 by omega) (show n1+(x.size - n1)≤z.size by omega) hS2 fun v hv hO2 hS3 => ?_)
    refine Zg (fun c2=>absurd c2 (by simp)) fun _ => ?_
    have hO2:Out_ z v n1 (n1+(x.size - n1)):=hO2
    have hO:Out_ y z n1 (n1+(x.size - n1)):=hO
    have hO3:Out_ y v n1 x.size:=⟨by have:=hO2.1; omega,fun k k1 k2 k3=>by rw [ex] at hO hO2; rw [hO2.2 k (by omega) k2 k3,hO.2 k k1 (by omega) k3]⟩
    refine wpS_bind (wpS_get ?_)
    show wpS _ _ _ _ (forIn _ _ _ >>= _) _ _
    refine wpS_bind (wpS_mono (wpS_forRange (fun k c st'=>k=0∧c=(none,())∧st'=ST st v #[(0,n1,0)] (gallopOf st)) (Q:=fun c st'=>c=(none,())∧st'=ST st v #[(0,n1,0)] (gallopOf st)) ?_ ?_ ⟨rfl,rfl,rfl⟩) ?_)
    ·rintro k c st' _ _ ⟨rfl,rfl,rfl⟩
     refine wpS_bind (wpS_get ?_)
     exact wpS_pure ⟨rfl,rfl⟩
    ·rintro c st' ⟨h0,h1,h3⟩
     exact ⟨h1,h3⟩
    rintro c st' ⟨rfl,rfl⟩
    dsimp only
    refine wpS_bind (wpS_modify (wpS_bind (wpS_modify (wpS_pure ?_))))
    exact fin v (hv.trans (hz.trans hy)) (low v hO3) hS3 _
   ·obtain rfl:m=x.size - n1:=by omega
    have hO3:Out_ y z n1 x.size:=by rw [ex] at hO; exact hO
    refine wpS_bind (wpS_get ?_)
    show wpS _ _ _ _ (forIn _ _ _ >>= _) _ _
    refine wpS_bind (wpS_mono (wpS_forRange (fun k c st'=>k=0∧c=(none,())∧st'=ST st z #[(0,n1,0)] (gallopOf st)) (Q:=fun c st'=>c=(none,())∧st'=ST st z #[(0,n1,0)] (gallopOf st)) ?_ ?_ ⟨rfl,rfl,rfl⟩) ?_)
    ·rintro k c st' _ _ ⟨rfl,rfl,rfl⟩
     refine wpS_bind (wpS_get ?_)
     exact wpS_pure ⟨rfl,rfl⟩
    ·rintro c st' ⟨h0,h1,h3⟩
     exact ⟨h1,h3⟩
    rintro c st' ⟨rfl,rfl⟩
    dsimp only
    refine wpS_bind (wpS_modify (wpS_bind (wpS_modify (wpS_pure ?_))))
    exact fin z (hz.trans hy) (low z hO3) hS2 _
  ·dsimp only
   refine Zg (fun _=>wpS_pure ⟨rfl,hT⟩) fun c1=>absurd (Nat.le_refl _) c1
 ·rintro c st' (⟨h0,_,_⟩ | ⟨h0,_⟩ | hT)
  ·omega
  ·omega
  ·exact hT
 rintro c st' ⟨rfl,hT⟩
 dsimp only
 refine wpS_bind (wpS_mono (wpS_forRange (fun k c st'=>c=(none,())∧Two less x st st'∧(k=0∨∃ y pw g,st'=ST st y #[(0,x.size,pw)] g)) (Q:=fun c st'=>c=(none,())∧∃ y pw g,st'=ST st y #[(0,x.size,pw)] g∧y.toList.Perm x.toList∧Srt less y 0 x.size) ?_ ?_ ⟨rfl,hT,.inl rfl⟩) ?_)
 ·rintro k c st' _ _ ⟨rfl,⟨y,g,hy,hT⟩,_⟩
  have hys:y.size=x.size:=by
   have:=hy.length_eq
   simpa using this
  refine wpS_bind (wpS_get ?_)
  rcases hT with ⟨pw,rfl,hS⟩ | ⟨n1,n2,pw,rfl,a1,a2,a3,a4,a5⟩
  ·refine Zg (fun _=>wpS_pure ⟨rfl,y,pw,g,rfl,hy,hS⟩) fun c1=>absurd (Nat.le_refl 1) c1
  ·refine Zg (fun c1=>absurd c1 (by show ¬ (2≤1); decide)) fun _ => ?_
   show wpS _ _ _ _ (mergeAt' 0 >>= _) _ _
   refine wpS_bind (ZmN (st:=ST st y #[(0,n1,pw),(n1,n2,0)] g) rfl rfl (show y.size=n1+n2 by omega) a1 a2 (T.perm hy) a4 a5 (HH y _ _ hy) hr fun z g' hz1 hz2 => ?_)
   refine Zg (fun c2=>absurd c2 (by simp)) fun _=>wpS_pure ⟨rfl,?_⟩
   have hzs:z.size=x.size:=by
    have:=(hz1.trans hy).length_eq
    simpa using this
   refine ⟨⟨z,g',hz1.trans hy,.inl ⟨pw,by rw [a3],fun i j hij hj _ _=>Qm hz2 hij hj⟩⟩,.inr ⟨z,pw,g',by rw [a3]⟩⟩
 ·rintro c st' ⟨h0,⟨y,g,hy,hT⟩,h3⟩
  rcases h3 with h3 | ⟨y2,pw2,g2,h3⟩
  ·omega
  ·rcases hT with ⟨pw,rfl,hS⟩ | ⟨n1,n2,pw,rfl,a1,a2,a3,a4,a5⟩
   ·exact ⟨h0,y,pw,g,rfl,hy,hS⟩
   ·have:=congrArg pendingOf h3
    have h4:(#[(0,n1,pw),(n1,n2,0)]:Array (Nat×Nat×Nat)) = #[(0,x.size,pw2)]:=this
    have:=congrArg Array.size h4
    simp at this
 rintro c st' ⟨rfl,y,pw,g,rfl,hy,hS⟩
 have hys:y.size=x.size:=by
  have:=hy.length_eq
  simpa using this
 exact wpS_pure (h _ hy (Ze4 (by rw [hys]; exact hS)) rfl)
end
end TS
end
section
set_option maxHeartbeats 2000000
namespace SO
open PySem PySem.W PyProof.Rows TS
section
variable {prog:Program} {w:World} {A:Around} {E:Value→Shared→Prop} {s:Shared}
theorem Zcn (vs:List Value):(vs.toArray.zip vs.toArray).toList=(List.range vs.length).map fun i=>(vs.getD i Value.none,vs.getD i Value.none):=by
 refine List.ext_getElem (by simp) fun i h1 h2 => ?_
 have hi:i<vs.length:=by simpa using h1
 simp [List.getD_eq_getElem?_getD,List.getElem?_eq_getElem hi]
theorem Zlk {vs:List Value} {κ:SortKind} {lt:Nat→Nat→Bool} {Q:SortSt→Shared→Prop} (h2:2≤vs.length) (h128:vs.length<128)
  (inj:∀ i j,i<vs.length→j<vs.length→vs.getD i .none=vs.getD j .none→i=j)
  (hl:∀ (E:Value→Shared→Prop) (Q:Bool→Shared→Prop) (i j:Nat),i<vs.length→j<vs.length→Q (lt i j) s→wpAny (model prog w) A (keyLt' κ (vs.getD i .none) (vs.getD j .none)) Q E s) (O:Ord vs.length lt)
  (h:∀ (st':SortSt) (p:Array Nat),p.toList.Perm (List.range vs.length)→p.toList.Pairwise (fun i j=>lt i j=true)→arrOf st'=p.map (kas_item (vs.toArray.zip vs.toArray))→failedOf st'=none→Q st' s) :
  wpAny (model prog w) A ((sortRuns').run (SortSt.mk' κ (vs.toArray.zip vs.toArray) #[] 7 none)) (fun r s'=>Q r.2 s') E s:=by
 classical
 obtain ⟨idx,hidx⟩:∃ idx:Keyed→Nat,∀ i,i<vs.length→idx (vs.getD i Value.none,vs.getD i Value.none)=i:=by
  refine ⟨fun x=>if h:∃ i,i<vs.length∧vs.getD i Value.none=x.1 then Classical.choose h else 0,fun i hi => ?_⟩
  have h:∃ k,k<vs.length∧vs.getD k Value.none=vs.getD i Value.none:=⟨i,hi,rfl⟩
  dsimp only
  rw [dif_pos h]
  exact inj _ _ (Classical.choose_spec h).1 hi (Classical.choose_spec h).2
 have mem:∀ x∈(vs.toArray.zip vs.toArray).toList,∃ i,i<vs.length∧x=(vs.getD i Value.none,vs.getD i Value.none):=fun x hx=>by
  rw [Zcn] at hx
  obtain ⟨i,hi,rfl⟩:=List.mem_map.mp hx
  exact ⟨i,List.mem_range.mp hi,rfl⟩
 have hsz:(vs.toArray.zip vs.toArray).size=vs.length:=by simp
 have run:=Zkp (M:=model prog w) (A:=A) (E:=E) (s:=s) (less:=fun x y=>lt (idx x) (idx y)) (st:=SortSt.mk' κ (vs.toArray.zip vs.toArray) #[] 7 none) (Q:=fun _ st'=>Q st' s) ?H ?T rfl rfl (show 2≤(vs.toArray.zip vs.toArray).size by omega) (show (vs.toArray.zip vs.toArray).size≤127 by omega) (fun x q=>wpAny_rule q) ?K
 ·exact wpAny_mono run (fun r s' h'=>by obtain ⟨rfl,q⟩:=h'; exact q) fun _ _ e=>e
 case H =>
  intro x hx y hy st Q hk q
  obtain ⟨i,hi,rfl⟩:=mem x hx
  obtain ⟨j,hj,rfl⟩:=mem y hy
  rw [lt'_eq]
  refine wpS_bind (wpS_get ?_)
  have hk':kindOf st=κ:=hk
  rw [hk']
  refine wpS_bind (wpS_lift (wpAny_attempt (hl _ _ i j hi hj ⟨rfl,?_⟩)))
  dsimp only at q
  rw [hidx i hi,hidx j hj] at q
  exact wpS_pure q
 case T =>
  refine ⟨fun x hx y hy z hz h1 h2 => ?_,?_⟩
  ·obtain ⟨i,hi,rfl⟩:=mem x hx
   obtain ⟨j,hj,rfl⟩:=mem y hy
   obtain ⟨k,hk,rfl⟩:=mem z hz
   try dsimp only at h1 h2 ⊢
   rw [hidx i hi,hidx j hj] at h1
   rw [hidx j hj,hidx k hk] at h2
   rw [hidx i hi,hidx k hk]
   exact O.trn i j k hi hj hk h1 h2
  ·show List.Pairwise _ (vs.toArray.zip vs.toArray).toList
   rw [Zcn,List.pairwise_map]
   refine List.Pairwise.imp_of_mem (R:=fun i j=>i<j) (fun {i j} hi hj hij => ?_) (List.pairwise_lt_range)
   have hi':=List.mem_range.mp hi
   have hj':=List.mem_range.mp hj
   rw [hidx i hi',hidx j hj']
   cases e:lt i j with
   | true=>exact O.asy i j hi' hj' e
   | false=>exact O.tot i j hi' hj' (by omega) e
 case K =>
  intro st' hp hw hf
  have hp':(arrOf st').toList.Perm (vs.toArray.zip vs.toArray).toList:=hp
  have hm:∀ x∈(arrOf st').toList,∃ i,i<vs.length∧x=(vs.getD i Value.none,vs.getD i Value.none):=fun x hx=>mem x (hp'.mem_iff.mp hx)
  refine h st' ((arrOf st').map idx) ?_ ?_ ?_ hf
  ·rw [Array.toList_map]
   refine (hp'.map idx).trans (List.Perm.of_eq ?_)
   rw [Zcn,List.map_map]
   refine (List.map_congr_left fun i hi => ?_).trans (List.map_id _)
   exact hidx i (List.mem_range.mp hi)
  ·rw [Array.toList_map,List.pairwise_map]
   exact hw
  ·rw [Array.map_map]
   apply Array.toList_inj.mp
   rw [Array.toList_map]
   symm
   refine (List.map_congr_left fun x hx => ?_).trans (List.map_id _)
   obtain ⟨i,hi,rfl⟩:=hm x hx
   show kas_item (vs.toArray.zip vs.toArray) (idx _)=_
   rw [hidx i hi]
   exact kas_item_eq vs i
end
end SO
end
section
set_option maxHeartbeats 2000000
namespace DL
open PySem PySem.Spec PyProof.Rows L2 PySem.W
section
variable {X:Cx} {EX:EXT}
theorem Zca {α:Type} {f:α→V} {g:α→Value}:∀ (l:List α),(∀ i∈l,RelV (f i) (g i))→Vals (l.map f) (l.map g)
 | [],_ => .nil
 | i :: l,h => .cons (h i (.head _)) (Zca l fun j hj=>h j (.tail _ hj))
theorem Zdc {α:Type} {K:PySem.W.Frag} {O:List Addr} {H:Hp} {f:α→D} {g:α→V}:∀ (l:List α),(∀ i∈l,Rep K O H (f i) (g i))→Reps K O H (l.map f) (l.map g)
 | [],_=>Reps.nil_i.mpr rfl
 | i :: l,h=>Reps.cons_i.mpr ⟨_,_,rfl,h i (.head _),Zdc l fun j hj=>h j (.tail _ hj)⟩
end
end DL
namespace DL
open PySem PySem.Spec PyProof.Rows L2
section
variable {X:Cx} {EX:EXT} {e:Expr} {pos:Pos}
theorem ZbD {x : Str} {p : Pos} {es : List Expr} {id : String} {g : List D → Sto → Out (List D)} {f : DA} (hc : Za3 X EX (.builtin id) g) (hg : Gl X x) (hm : X.mg x = none) (hv : bootBuiltins x = some (.builtin id)) (ha : PDA X EX (e :: es) f) (hn : x ≠ "__name__" := by decide) (hdb : (x == ("__debug__" : Str)) = false := by decide)
  (he:starEach (e :: es) X.env=(false,eval e X.env) :: starEach es X.env:=by rfl) (hpl:(backTo pos (starEach es X.env)).any (·.1)=false:=by rfl):PDF X EX (.Call (.Name x p) (e :: es) [] pos) (Zk g f):=PE.mono (ZcD hc hg hm hv ha hn hdb he hpl) ZbS
end
end DL
end
section
set_option maxHeartbeats 2000000
end
section
namespace L2
open PySem PySem.Spec PyProof.Rows
section
variable {κ:Type} [DecidableEq κ]
noncomputable def YC (kvs:List (κ×V)) (k:κ):Option V:=(kvs.find? fun kv=>decide (kv.1=k)).map (·.2)
noncomputable def putK (kvs:List (κ×V)) (k:κ) (v:V):List (κ×V) :=
 if (kvs.any fun kv=>decide (kv.1=k))=true then kvs.map (fun kv=>if kv.1=k then (kv.1,v) else kv) else kvs++[(k,v)]
noncomputable def ZgH (kvs:List (κ×V)) (k:κ):List (κ×V):=kvs.filter fun kv=>decide (kv.1≠k)
theorem Zbf {p:κ×V} {r:List (κ×V)} {k:κ} (e:p.1=k):YC (p :: r) k=some p.2:=by simp [YC,List.find?_cons,e]
theorem Zbt {p:κ×V} {r:List (κ×V)} {k:κ} (e:¬ p.1=k):YC (p :: r) k=YC r k:=by simp [YC,List.find?_cons,e]
theorem Zdk (k:κ):∀ kvs:List (κ×V),(kvs.any fun kv=>decide (kv.1=k))=(YC kvs k).isSome
 | []=>rfl
 | p :: r=>by
  rw [List.any_cons]
  by_cases e:p.1=k
  ·simp only [Zbf e,decide_eq_true e,Bool.true_or,Option.isSome_some]
  ·rw [Zbt e,decide_eq_false e,Bool.false_or]; exact Zdk k r
theorem Zb8 (kvs:List (κ×V)) (k:κ) (v:V):(putK kvs k v).length≤kvs.length+1:=by
 unfold putK
 split
 ·rw [List.length_map]; omega
 ·rw [List.length_append,List.length_cons,List.length_nil]; omega
theorem RelO.isSome_eq {o:Option V} {u:Option Value} (r:RelO o u):o.isSome=u.isSome:=by
 cases o with
 | none=>cases u with
  | none=>rfl
  | some _=>exact (show False from r).elim
 | some _=>cases u with
  | none=>exact (show False from r).elim
  | some _=>rfl
theorem RelO.getD {o:Option V} {u:Option Value} {d:V} {d':Value} (r:RelO o u) (rd:RelV d d'):RelV (o.getD d) (u.getD d'):=by
 cases o with
 | none=>cases u with
  | none=>exact rd
  | some _=>exact (show False from r).elim
 | some _=>cases u with
  | none=>exact (show False from r).elim
  | some _=>exact r
theorem KV.val {kvs:List (κ×V)} {vs:List (κ×Value)} (r:KV kvs vs) (k:κ):RelO (YC kvs k) (valueAt vs k):=by
 unfold KV at r
 induction r with
 | nil=>exact True.intro
 | @cons p q ps qs h t ih =>
  obtain ⟨h1,h2⟩:=h
  by_cases e:p.1=k
  ·have e':q.1=k:=h1.symm.trans e
   have b:valueAt (q :: qs) k=some q.2:=by simp [valueAt,List.find?_cons,e']
   rw [Zbf e,b]; exact h2
  ·have e':¬ q.1=k:=fun z=>e (h1.trans z)
   have b:valueAt (q :: qs) k=valueAt qs k:=by simp [valueAt,List.find?_cons,e']
   rw [Zbt e,b]; exact ih
theorem KV.any {kvs:List (κ×V)} {vs:List (κ×Value)} (r:KV kvs vs) (k:κ):(kvs.any fun kv=>decide (kv.1=k))=vs.any fun kv=>decide (kv.1=k):=by
 unfold KV at r
 induction r with
 | nil=>rfl
 | cons h t ih=>rw [List.any_cons,List.any_cons,ih,h.1]
theorem KV.repl {kvs:List (κ×V)} {vs:List (κ×Value)} (r:KV kvs vs) (k:κ) {y:V} {u:Value} (ry:RelV y u) :
  KV (kvs.map fun kv=>if kv.1=k then (kv.1,y) else kv) (vs.map fun kv=>if kv.1=k then (kv.1,u) else kv):=by
 unfold KV at r ⊢
 induction r with
 | nil=>exact .nil
 | @cons p q ps qs h t ih =>
  rw [List.map_cons,List.map_cons]
  refine .cons ?_ ih
  obtain ⟨h1,h2⟩:=h
  by_cases e:p.1=k
  ·rw [if_pos e,if_pos (h1.symm.trans e)]; exact ⟨h1,ry⟩
  ·rw [if_neg e,if_neg (fun z=>e (h1.trans z))]; exact ⟨h1,h2⟩
theorem KV.put {kvs:List (κ×V)} {vs:List (κ×Value)} (r:KV kvs vs) (k:κ) {y:V} {u:Value} (ry:RelV y u):KV (putK kvs k y) (stored vs k u):=by
 unfold putK stored
 rw [r.any k]
 by_cases e:(vs.any fun kv=>decide (kv.1=k))=true
 ·rw [if_pos e,if_pos e]; exact r.repl k ry
 ·rw [if_neg e,if_neg e]; exact Paired.snoc r ⟨rfl,ry⟩
theorem KV.drop {kvs:List (κ×V)} {vs:List (κ×Value)} (r:KV kvs vs) (k:κ):KV (ZgH kvs k) (without vs k):=by
 unfold KV at r ⊢
 unfold ZgH without
 induction r with
 | nil=>exact .nil
 | @cons p q ps qs h t ih =>
  obtain ⟨h1,h2⟩:=h
  rw [List.filter_cons,List.filter_cons]
  by_cases e:p.1=k
  ·have a:¬ decide (p.1≠k)=true:=by simp [e]
   have b:¬ decide (q.1≠k)=true:=by simp [h1.symm.trans e]
   rw [if_neg a,if_neg b]; exact ih
  ·have e':¬ q.1=k:=fun z=>e (h1.trans z)
   have a:decide (p.1≠k)=true:=by simp [e]
   have b:decide (q.1≠k)=true:=by simp [e']
   rw [if_pos a,if_pos b]; exact .cons ⟨h1,h2⟩ ih
theorem KV.length {kvs:List (κ×V)} {vs:List (κ×Value)} (r:KV kvs vs):kvs.length=vs.length:=Paired.length r
end
theorem Zay {P:Program} {w:World} {k:Key} {u:Value} (r:RelV (kV k) u):(Yr P w).is k u=true:=by
 cases k with
 | inl i=>obtain ⟨t,e⟩:=(show ∃ t,u=Value.int i t from r); subst e; exact Zm4 P w i t
 | inr x=>obtain ⟨t,e⟩:=(show ∃ t,u=Value.str x t from r); subst e; exact ZkJ P w x t
theorem Zdn {P:Program} {w:World}:∀ {ks:List Key} {us:List Value},Vals (ks.map kV) us→ItemsAre (Yr P w) ks us
 | [],_,r=>by rw [List.map_nil] at r; cases r; exact .nil
 | k :: ks,_,r=>by
  rw [List.map_cons] at r
  cases r with
  | cons h t=>exact .cons (Zay h) (Zdn t)
noncomputable abbrev KT (H:Hp):List (List Key×V)→List (List Key×Addr×Value)→Prop:=Paired fun p q=>p.1=q.1∧H q.2.1=some (.tup (p.1.map kV))∧RelV p.2 q.2.2
theorem KT.val {H:Hp} {kvs:List (List Key×V)} {xs:List (List Key×Addr×Value)} (r:KT H kvs xs) (k:List Key):RelO (YC kvs k) ((atKey xs k).map (·.2)):=by
 induction r with
 | nil=>exact True.intro
 | @cons p q ps qs h t ih =>
  obtain ⟨h1,_,h2⟩:=h
  by_cases e:p.1=k
  ·have e':q.1=k:=h1.symm.trans e
   have b:atKey (q :: qs) k=some q.2:=by simp [atKey,List.find?_cons,e']
   rw [Zbf e,b]; exact h2
  ·have e':¬ q.1=k:=fun z=>e (h1.trans z)
   have b:atKey (q :: qs) k=atKey qs k:=by simp [atKey,List.find?_cons,e']
   rw [Zbt e,b]; exact ih
theorem KT.repl {H:Hp} {kvs:List (List Key×V)} {xs:List (List Key×Addr×Value)} (r:KT H kvs xs) (k:List Key) {y:V} {u:Value} (ry:RelV y u) :
  KT H (kvs.map fun kv=>if kv.1=k then (kv.1,y) else kv) (xs.map (putAt k u)):=by
 induction r with
 | nil=>exact .nil
 | @cons p q ps qs h t ih =>
  rw [List.map_cons,List.map_cons]
  refine .cons ?_ ih
  obtain ⟨h1,h2,h3⟩:=h
  unfold putAt
  by_cases e:p.1=k
  ·rw [if_pos e,if_pos (h1.symm.trans e)]; exact ⟨h1,h2,ry⟩
  ·rw [if_neg e,if_neg (fun z=>e (h1.trans z))]; exact ⟨h1,h2,h3⟩
theorem KT.put {H:Hp} {kvs:List (List Key×V)} {xs:List (List Key×Addr×Value)} (r:KT H kvs xs) (k:List Key) {b:Addr} {y:V} {u:Value} (hb:H b=some (.tup (k.map kV))) (ry:RelV y u) :
  KT H (putK kvs k y) (storedH xs k b u):=by
 have e:(kvs.any fun kv=>decide (kv.1=k))=(atKey xs k).isSome:=by
  rw [Zdk,(r.val k).isSome_eq,Option.isSome_map]
 unfold putK storedH
 rw [e]
 by_cases q:(atKey xs k).isSome=true
 ·rw [if_pos q,if_pos q]; exact r.repl k ry
 ·rw [if_neg q,if_neg q]; exact Paired.snoc r ⟨rfl,hb,ry⟩
theorem KT.keeps {H H':Hp} {kvs:List (List Key×V)} {xs:List (List Key×Addr×Value)} (r:KT H kvs xs) (ht:∀ b ys,H b=some (.tup ys)→H' b=some (.tup ys)):KT H' kvs xs :=
 Paired.mapP r fun _ _ z=>⟨z.1,ht _ _ z.2.1,z.2.2⟩
section
variable {P:Program} {w:World} {H:Hp} {h:Heap} {a:Addr}
theorem Zfm {u:HO} (ok:HOk P w H h) (e:Rd H a u):ObjOk P w H h a u:=e.ok ok
theorem Qp {kvs:List (Key×V)} (ok:HOk P w H h) (e:Rd H a (.dK kvs)):kvs.length≤sizeLine∧(a == sysModules)=false∧∃ vs,KV kvs vs∧h.DictOf (Yr P w) a vs :=
 show ObjOk P w H h a (.dK kvs) from Zfm ok e
theorem Znb {kvs:List (Key×V)} (ok:HOk P w H h) (e:H a=some (.dK kvs)):kvs.length≤sizeLine∧(a == sysModules)=false∧∃ vs,KV kvs vs∧h.DictOf (Yr P w) a vs:=Qp ok (.inl e)
theorem QY {ks:List Key} (ok:HOk P w H h) (e:H a=some (.tup (ks.map kV))):(tupleKind (Yr P w)).is h ks a:=by
 obtain ⟨_,its,r,⟨o,h1,h2,n,h3⟩,_⟩:=(show ObjOk P w H h a (.tup (ks.map kV)) from ok a _ e)
 exact ⟨o,its.toArray,n,h1,h2,h3,by simpa using Zdn r⟩
theorem WH {kvs:List (List Key×V)} (ok:HOk P w H h) (e:Rd H a (.dT kvs)):kvs.length≤sizeLine∧(a == sysModules)=false ∧
  ∃ xs,KT H kvs xs∧h.DictOfH (tupleKind (Yr P w)) a xs:=by
 obtain ⟨z,y,xs,r,o,es,ep,h1,h2,h3,h4,h5⟩:=(show ObjOk P w H h a (.dT kvs) from Zfm ok e)
 refine ⟨z,y,xs,r,o,es,ep,h1,h2,h3,h4,fun x hx => ?_,h5⟩
 have all:∀ {l:List (List Key×V)} {m:List (List Key×Addr×Value)},KT H l m→∀ x∈m,(tupleKind (Yr P w)).is h x.1 x.2.1:=by
  intro l m q
  induction q with
  | nil=>intro x hx; exact nomatch hx
  | @cons p q ps qs hq t ih =>
   intro x hx
   rcases List.mem_cons.mp hx with e | hx
   ·subst e
    exact QY ok (by rw [← hq.1]; exact hq.2.1)
   ·exact ih x hx
 exact all r x hx
theorem Zfw {kvs:List (List Key×V)} (ok:HOk P w H h) (e:H a=some (.dT kvs)):kvs.length≤sizeLine∧(a == sysModules)=false ∧
  ∃ xs,KT H kvs xs∧h.DictOfH (tupleKind (Yr P w)) a xs:=WH ok (.inl e)
end
noncomputable def DGet (H:Hp) (a:Addr) (y:V) (r:Option V):Prop :=
 (∃ kvs k,Rd H a (.dK kvs)∧y=kV k∧r=YC kvs k)∨∃ kvs k b,Rd H a (.dT kvs)∧y = .ref b∧H b=some (.tup (k.map kV))∧r=YC kvs k
noncomputable def DPut (H:Hp) (a:Addr) (y v:V) (H':Hp):Prop :=
 (∃ kvs k,H a=some (.dK kvs)∧y=kV k∧kvs.length<sizeLine∧H'=upd H a (.dK (putK kvs k v))) ∨
 ∃ kvs k b,H a=some (.dT kvs)∧y = .ref b∧H b=some (.tup (k.map kV))∧kvs.length<sizeLine∧H'=upd H a (.dT (putK kvs k v))
theorem DGet.k {H:Hp} {a:Addr} {kvs:List (Key×V)} {k:Key} (e:H a=some (.dK kvs)):DGet H a (kV k) (YC kvs k):=.inl ⟨kvs,k,.inl e,rfl,rfl⟩
theorem DGet.t {H:Hp} {a b:Addr} {kvs:List (List Key×V)} {k:List Key} (e:H a=some (.dT kvs)) (eb:H b=some (.tup (k.map kV))):DGet H a (.ref b) (YC kvs k):=.inr ⟨kvs,k,b,.inl e,rfl,eb,rfl⟩
theorem DPut.k {H:Hp} {a:Addr} {kvs:List (Key×V)} {k:Key} {v:V} (e:H a=some (.dK kvs)) (hl:kvs.length<sizeLine):DPut H a (kV k) v (upd H a (.dK (putK kvs k v))):=.inl ⟨kvs,k,e,rfl,hl,rfl⟩
theorem DPut.t {H:Hp} {a b:Addr} {kvs:List (List Key×V)} {k:List Key} {v:V} (e:H a=some (.dT kvs)) (eb:H b=some (.tup (k.map kV))) (hl:kvs.length<sizeLine) :
  DPut H a (.ref b) v (upd H a (.dT (putK kvs k v))):=.inr ⟨kvs,k,b,e,rfl,eb,hl,rfl⟩
section
variable {X:Cx} {pins:List (Addr×Obj)} {σ:St} {H:Hp} {s:Shared} {a:Addr} {y v:V} {u r:Value} {o:Option V} {A:Around} {E:Value→Shared→Prop}
theorem Inv.big (I:Inv X pins σ H s):sysModules<s.heap.objs.size:=by
 have h:mainGlobals<s.heap.objs.size:=(I.mod.glob.keeps I.bk).lt
 exact Nat.lt_trans (by decide) h
theorem ZkF {Q:Value→Shared→Prop} (hu:A.units+1<cLine) (I:Inv X pins σ H s) (g:DGet H a y (some v)) (ry:RelV y u) (h:∀ w' s',Inv X pins σ H s'→RelV v w'→Q w' s') :
  wpAny (model X.prog X.w) A (getItem (.ref a) u) Q E s:=by
 rcases g with ⟨kvs,k,e,ey,l⟩ | ⟨kvs,k,b,e,ey,eb,l⟩
 ·subst ey
  obtain ⟨z,hd,vs,rel,dd⟩:=Qp I.hok e
  obtain ⟨w',hw,rw'⟩:=RelO.some_of (v:=v) (o:=valueAt vs k) (by rw [l]; exact rel.val k)
  exact wpAny_getItem_of (Zay ry) dd.mapOf hw (h w' _ (I.tok _) rw')
 ·subst ey
  cases (show u=Value.ref b from ry)
  obtain ⟨z,hd,xs,rel,dd⟩:=WH I.hok e
  obtain ⟨w',hw,rw'⟩:=RelO.some_of (v:=v) (o:=(atKey xs k).map (·.2)) (by rw [l]; exact rel.val k)
  obtain ⟨p,hp,hp2⟩:=Option.map_eq_some_iff.mp hw
  refine wpAny_getItem_heap (tupleKind_room_in1 hu) (QY I.hok eb) dd hp ?_
  rw [hp2]
  exact h w' _ (I.tok _) rw'
theorem Ziq {Q:Value→Shared→Prop} (hu:A.units+1<cLine) (I:Inv X pins σ H s) (g:DGet H a y o) (ry:RelV y u) (h:∀ s',Inv X pins σ H s'→Q (.bool (!o.isSome)) s') :
  wpAny (model X.prog X.w) A (compareOp .NotIn u (.ref a)) Q E s:=by
 rcases g with ⟨kvs,k,e,ey,l⟩ | ⟨kvs,k,b,e,ey,eb,l⟩
 ·subst ey
  obtain ⟨z,hd,vs,rel,dd⟩:=Qp I.hok e
  refine wpAny_notIn_of (Zay ry) hd dd.mapOf ?_
  rw [← (rel.val k).isSome_eq,← l]
  exact h _ (I.tok _)
 ·subst ey
  cases (show u=Value.ref b from ry)
  obtain ⟨z,hd,xs,rel,dd⟩:=WH I.hok e
  refine wpAny_notIn_heap (tupleKind_room_in1 hu) (QY I.hok eb) hd dd ?_
  have q:=(rel.val k).isSome_eq
  rw [Option.isSome_map] at q
  rw [← q,← l]
  exact h _ (I.tok _)
theorem Zc8 {h':Heap} {t':Nat} {ob:HO} (I:Inv X pins σ H s) (mu:Mut (H a)) (hs:Heap.SameBut a s.heap h') (he:∃ q,h'.get? a=some q) (new:ObjOk X.prog X.w (upd H a ob) h' a ob) :
  Inv X pins σ (upd H a ob) { s with heap:=h',toks:=t' } :=
 I.write (x:=a) (e:=a) mu (.inl rfl) (fun b q hb z=>(hs.2 b hb).trans z) he new
theorem ZhD {P:Program} {w:World} {H':Hp} {h':Heap} {kvs:List (Key×V)} {vs:List (Key×Value)} (z:kvs.length≤sizeLine) (hd:(a == sysModules)=false) (rel:KV kvs vs) (dd:h'.DictOf (Yr P w) a vs) :
  ObjOk P w H' h' a (.dK kvs):=⟨z,hd,vs,rel,dd⟩
theorem ZhS {H':Hp} {Q:Unit→Shared→Prop} (hu:A.units+1<cLine) (I:Inv X pins σ H s) (g:DPut H a y v H') (ry:RelV y u) (rv:RelV v r) (h:∀ s',Inv X pins σ H' s'→Q () s') :
  wpAny (model X.prog X.w) A (setItem (.ref a) u r) Q E s:=by
 rcases g with ⟨kvs,k,e,ey,l,eH⟩ | ⟨kvs,k,b,e,ey,eb,l,eH⟩
 ·subst ey eH
  obtain ⟨z,hd,vs,rel,dd⟩:=Znb I.hok e
  have hz:vs.length≤sizeLine:=by rw [← rel.length]; exact z
  have hl:(putK kvs k v).length≤sizeLine:=by have:=Zb8 kvs k v; omega
  refine wpAny_setItem_pairs (hsz:=hz) (Zay ry) dd fun h' dd' hs=>h _ ?_
  have he:∃ q,h'.get? a=some q:=let ⟨q,_,_,hq,_⟩:=dd'; ⟨q,hq⟩
  exact Zc8 I (by rw [e]; exact True.intro) hs he (ZhD hl hd (rel.put k rv) dd')
 ·subst ey eH
  cases (show u=Value.ref b from ry)
  obtain ⟨z,hd,xs,rel,dd⟩:=Zfw I.hok e
  have hz:xs.length≤sizeLine:=by rw [← Paired.length rel]; exact z
  have hl:(putK kvs k v).length≤sizeLine:=by have:=Zb8 kvs k v; omega
  refine wpAny_setItem_heap (hsz:=hz) (tupleKind_room_in1 hu) (QY I.hok eb) dd fun h' dd' hs=>h _ ?_
  obtain ⟨q,es,ep,hq,h2,h3,h4,_,h5⟩:=dd'
  refine Zc8 I (by rw [e]; exact True.intro) hs ⟨q,hq⟩ ⟨hl,hd,_,(rel.put k eb rv).keeps fun c ys ec => ?_,q,es,ep,hq,h2,h3,h4,h5⟩
  rw [Zt (ne_of ec e (fun z=>nomatch z))]
  exact ec
end
section
variable {X:Cx} {pins:List (Addr×Obj)} {σ:St} {H:Hp} {s:Shared} {a:Addr} {kvs:List (Key×V)} {k:Key} {u:Value} {A:Around} {E:Value→Shared→Prop}
theorem Zkg {Q : Value → Shared → Prop} (I : Inv X pins σ H s) (e : Rd H a (.dK kvs)) (h : ∀ t s', Inv X pins σ H s' → Q (.int kvs.length t) s') : wpAny (model X.prog X.w) A (call (.builtin "len") [.ref a]) Q E s := by
 obtain ⟨z,hd,vs,rel,dd⟩:=Qp I.hok e
 refine call_len_dict hd dd (by rw [← rel.length]; rw [sizeLine_eq] at z; omega) ?_
 rw [← rel.length]
 exact h _ _ (I.tok _)
end
noncomputable def ZcU (i:Expr):Prop:=∀ ov iv,subscripted i false ov iv=operate [ov,iv] (getItem ov iv)
theorem ZjL {prog:Program} {w:World} {A:Around} {E:Value→Shared→Prop} {s:Shared} {env:Env} {value slice:Expr} {pos:Pos} {T id:String} {Q:Value→Shared→Prop}
  (hl : typeLookup (.type T) "__getitem__" = pure (some (.builtin id))) (hs : ZcU slice)
  (h:wpAny (model prog w) A (eval value env) (fun o s₁=>wpAny (model prog w) A (eval slice env) (fun i s₂=>s₂.TypeIs o T∧wpAny (model prog w) A (getItem o i) Q E s₂) E s₁) E s) :
  wpAny (model prog w) A (eval (.Subscript value slice pos) env) Q E s:=by
 refine Subscript_ (wpAny_mono h (fun o s₁ h₁=>wpAny_mono h₁ (fun i s₂ h₂ => ?_) fun _ _ x=>x) fun _ _ x=>x)
 obtain ⟨hT,h₂⟩:=h₂
 unfold subscriptTail
 refine wpAny_bind ?_
 rw [getitemInPython_of_ne hT.not_modules]
 refine wpAny_bind (wpAny_specialOf hT hl ?_)
 have fin:wpAny (model prog w) A (subscripted slice false o i) (fun r s₃=>wpAny (model prog w) A (letTemporaryGo value o r >>= fun _=>pure r) Q E s₃) E s₂:=by
  rw [hs o i]
  exact wpAny_operating (wpAny_mono h₂ (fun r s₃ h₃=>wpAny_bind (wpAny_letTemporaryGo (wpAny_pure h₃))) fun _ _ x=>x)
 first
  | exact wpAny_pure (wpAny_bind fin)
  | exact wpAny_bind (wpAny_pure (wpAny_bind fin))
  | exact wpAny_bind fin
theorem Zjb {X : Cx} {pins : List (Addr × Obj)} {σ : St} {H : Hp} {s : Shared} {a : Addr} {y : V} {o : Option V} (I : Inv X pins σ H s) (g : DGet H a y o) : s.TypeIs (.ref a) "dict" := by
 rcases g with ⟨kvs,k,e,_,_⟩ | ⟨kvs,k,b,e,_,_,_⟩
 ·obtain ⟨_,_,vs,_,dd⟩:=Qp I.hok e
  exact dd.typeIs
 ·obtain ⟨_,_,xs,_,dd⟩:=WH I.hok e
  exact dd.typeIs
noncomputable def Znt (td ty:TE):TE:=fun σ H Q=>td σ H fun x H1=>ty σ H1 fun y H2 => ∃ a v,x = .ref a∧DGet H2 a y (some v)∧Q v H2
noncomputable def Zmr (td ty tv:TE):TS:=fun D σ H=>tv σ H fun v H1=>td σ H1 fun x H2=>ty σ H2 fun y H3 => ∃ a H4,x = .ref a∧DPut H3 a y v H4∧D.nx σ H4
section
variable {X:Cx} {o i e value:Expr} {pos pos' tpos:Pos} {td ty tv:TE}
theorem ZiJ (hu:X.A.units+1<cLine) (ho:PE X o td) (hi:PE X i ty) (hs:ZcU i):PE X (.Subscript o i pos) (Znt td ty):=by
 intro pins s σ H Q I h
 refine ZjL PySem.F.slot_dict_getitem.lookup hs (thn (ho pins s σ H _ I h) fun u s1 ⟨x,H1,I1,rx,q1⟩=>thn (hi pins s1 σ H1 _ I1 q1) fun iv s2 ⟨y,H2,I2,ry,a,v,ex,g,q2⟩ => ?_)
 subst ex
 obtain rfl:u=Value.ref a:=rx
 exact ⟨Zjb I2 g,ZkF hu I2 g ry fun w' s3 I3 rw'=>⟨v,H2,I3,rw',q2⟩⟩
theorem Zh3 (hu:X.A.units+1<cLine) (ho:PE X o td) (hi:PE X i ty) (hv:PE X value tv) (hs:swapsWith value (some (.Subscript o i pos')) pos.line X.env=pure false) :
  PS X (.Assign [.Subscript o i pos'] value pos) (Zmr td ty tv):=by
 intro pins s σ H D I h
 refine wpAny_Assign_Subscript (thn (hv pins s σ H _ I h) fun r s1 ⟨v,H1,I1,rv,q1⟩=>thn (ho pins s1 σ H1 _ I1 q1) fun u s2 ⟨x,H2,I2,rx,q2⟩=>thn (hi pins s2 σ H2 _ I2 q2) fun iv s3 ⟨y,H3,I3,ry,a,H4,ex,g,q3⟩ => ?_) hs
 subst ex
 obtain rfl:u=Value.ref a:=rx
 exact ZhS hu I3 g ry rv fun s4 I4=>⟨σ,H4,I4,q3⟩
end
theorem Zm6 {P : Program} {w : World} {H : Hp} (h : Heap) (hb : sysModules < h.objs.size) : ObjOk P w H (h.push { cls := .type "dict", data := .dict #[] }) h.objs.size (.dT []) :=
 ⟨Nat.zero_le _,beq_eq_false_iff_ne.mpr (Ne.symm (Nat.ne_of_lt hb)),[],.nil,_,#[],0,Heap.get?_push_size _ rfl,⟨rfl,rfl,rfl⟩,rfl,rfl,List.nodup_nil⟩
noncomputable def ZjI (kvs more:List (Key×V)):List (Key×V):=more.foldl (fun acc kv=>putK acc kv.1 kv.2) kvs
theorem KV.merge:∀ {more:List (Key×V)} {rs:List (Key×Value)} {kvs:List (Key×V)} {vs:List (Key×Value)},KV more rs→KV kvs vs→KV (ZjI kvs more) (merged vs rs):=by
 intro more rs kvs vs r
 unfold KV at r
 induction r generalizing kvs vs with
 | nil=>intro q; exact q
 | @cons p q ps qs h t ih =>
  intro r0
  have e:KV (putK kvs p.1 p.2) (stored vs q.1 q.2):=by
   have:=r0.put p.1 h.2
   rw [← h.1]; exact this
  exact ih e
structure M1 (X:Cx) (o:Expr) (m:Str) (apos:Pos) (e:Expr) (cpos:Pos):Prop where
 base:attributeBase o m X.env (eval o X.env)=eval o X.env
 few:((backTo cpos (starEach [e] X.env)).all (fun x => !x.1) && (backToKw cpos (keywordEach [] X.env)).all (fun x=>x.1.isSome)
  && decide (([e]:List Expr).length+([]:List Keyword).length+(if ([]:List Keyword).isEmpty then 0 else 1)<30))=true
 line:(apos.endLine == cpos.line)=true
 trees:backTo cpos (starEach [e] X.env)=[(false,eval e X.env)]
noncomputable def IsD (H:Hp) (a:Addr):Prop:=(∃ kvs,Rd H a (.dK kvs))∨∃ kvs,Rd H a (.dT kvs)
theorem Zhn {X:Cx} {pins:List (Addr×Obj)} {σ:St} {H:Hp} {s:Shared} {a:Addr} (I:Inv X pins σ H s) (d:IsD H a) :
  s.TypeIs (.ref a) "dict" ∧ (∀ b, Value.ref a = .ref b → ∃ ob, s.heap.get? b = some ob ∧ ob.dict = none) ∧ (a == sysModules) = false := by
 rcases d with ⟨kvs,e⟩ | ⟨kvs,e⟩
 ·obtain ⟨_,hd,vs,_,dd⟩:=Qp I.hok e
  refine ⟨dd.typeIs,fun b q => ?_,hd⟩
  cases q
  obtain ⟨ob,_,_,h1,h2,_⟩:=dd
  exact ⟨ob,h1,h2.2.1⟩
 ·obtain ⟨_,hd,xs,_,dd⟩:=WH I.hok e
  refine ⟨dd.typeIs,fun b q => ?_,hd⟩
  cases q
  obtain ⟨ob,_,_,h1,h2,_⟩:=dd
  exact ⟨ob,h1,h2.2.1⟩
section
variable {X:Cx} {pins:List (Addr×Obj)} {σ:St} {H:Hp} {s:Shared} {a:Addr} {y d:V} {u r:Value} {o:Option V} {A:Around} {E:Value→Shared→Prop}
theorem Zjc {Q:Value→Shared→Prop} (hu:A.units+1<cLine) (I:Inv X pins σ H s) (g:DGet H a y o) (ry:RelV y u) (h:∀ w' s',Inv X pins σ H s'→RelV (o.getD .non) w'→Q w' s') :
  wpAny (model X.prog X.w) A (call (.builtin "dict.get") [.ref a, u]) Q E s := by
 rcases g with ⟨kvs,k,e,ey,l⟩ | ⟨kvs,k,b,e,ey,eb,l⟩
 ·subst ey
  obtain ⟨z,hd,vs,rel,dd⟩:=Qp I.hok e
  refine call_meetsIn PySem.F.slot_dict_get dd.typeIs PySem.F.entry_dict_get (PySem.F.args_dict_get_2 _ _) (meets_dict_get (Yr X.prog X.w) a (Zay ry) hd) ⟨_,dd.mapOf,h _ _ (I.tok _) ?_⟩
  rw [l]
  exact (rel.val k).getD rfl
 ·subst ey
  cases (show u=Value.ref b from ry)
  obtain ⟨z,hd,xs,rel,dd⟩:=WH I.hok e
  refine call_meetsIn PySem.F.slot_dict_get dd.typeIs PySem.F.entry_dict_get (PySem.F.args_dict_get_2 _ _) (meetsH_dict_get (tupleKind (Yr X.prog X.w)) a b hd) ⟨tupleKind_room_in1 hu,k,xs,QY I.hok eb,dd,h _ _ (I.tok _) ?_⟩
  rw [l]
  exact (rel.val k).getD rfl
end
noncomputable def Zio (td ty:TE):TE:=fun σ H Q=>td σ H fun x H1 => ∃ a,x = .ref a∧IsD H1 a∧ty σ H1 fun y H2 => ∃ o,DGet H2 a y o∧Q (o.getD .non) H2
section
variable {X:Cx} {o e f:Expr} {apos cpos:Pos} {td ty tx:TE}
theorem Zg4 (hu : X.A.units + 1 < cLine) (ho : PE X o td) (he : PE X e ty) (m : M1 X o "get" apos e cpos) : PE X (.Call (.Attribute o "get" apos) [e] [] cpos) (Zio td ty) := by
 intro pins s σ H Q I h
 refine wpAny_Call_method m.base m.few m.line PySem.F.plainAttrs_dict PySem.F.slot_dict_get PySem.F.type_dict_get (thn (ho pins s σ H _ I h) fun u s1 ⟨x,H1,I1,rx,a,ex,d,q1⟩ => ?_)
 subst ex
 obtain rfl:u=Value.ref a:=rx
 obtain ⟨t1,t2,_⟩:=Zhn I1 d
 refine ⟨t1,t2,?_⟩
 rw [m.trees]
 refine Calls.callWith_builtin rfl (Calls.evalArgs_plain (Calls.spliced_cons (thn (he pins s1 σ H1 _ I1 q1) fun iv s2 ⟨y,H2,I2,ry,ov,g,q2⟩=>Calls.spliced_nil ?_)))
 exact Zjc hu I2 g ry fun w' s3 I3 rw'=>⟨_,H2,I3,rw',q2⟩
end
end L2
namespace L2
open PySem PySem.Spec PyProof.Rows
section
variable {X:Cx}
theorem YK : YW X (.builtin "len") (fun xs H Q => ∃ a kvs, xs = [V.ref a] ∧ H a = some (.dK kvs) ∧ Q (.int kvs.length) H) := by
 intro pins s σ H xs us Q I r h
 obtain ⟨a,kvs,rfl,ha,q⟩:=h
 obtain ⟨u,rfl,ru⟩:=vals1 r
 cases ru
 exact Zkg I (.inl ha) fun t s' I'=>⟨.int kvs.length,H,I',⟨t,rfl⟩,q⟩
end
end L2
end
section
namespace DL
open PySem PySem.Spec PyProof.Rows L2
section
variable {κ:Type} [DecidableEq κ] (f:D→Option κ)
noncomputable def YH:List (D×D)→D→Option D
 | [],_=>none
 | p :: r,k=>if f p.1=f k then some p.2 else YH r k
noncomputable def hasD (ds:List (D×D)) (k:D):Bool:=ds.any fun p=>decide (f p.1=f k)
noncomputable def putD (ds:List (D×D)) (k v:D):List (D×D) :=
 if hasD f ds k=true then ds.map (fun p=>if f p.1=f k then (p.1,v) else p) else ds++[(k,v)]
end
noncomputable def RelO' (K:PySem.W.Frag) (O:List Addr) (H:Hp):Option D→Option V→Prop
 | none,none=>True
 | some d,some v=>Rep K O H d v
 | _,_=>False
section
variable {κ:Type} [DecidableEq κ] {f:D→Option κ} {K:PySem.W.Frag} {O:List Addr} {H:Hp}
theorem Zex (k:D):∀ ds:List (D×D),hasD f ds k=(YH f ds k).isSome
 | []=>rfl
 | p :: r=>by
  unfold hasD
  rw [List.any_cons]
  by_cases e:f p.1=f k
  ·simp [YH,e]
  ·rw [decide_eq_false e,Bool.false_or]
   have:=Zex k r
   unfold hasD at this
   rw [this,YH,if_neg e]
theorem Zan {k:D} {q:κ} (hk:f k=some q):∀ {ds:List (D×D)} {vs:List (κ×V)},Kvs K f O H ds vs→RelO' K O H (YH f ds k) (YC vs q)
 | [],vs,h=>by
  cases (show vs=[] from h)
  exact trivial
 | (a,d) :: ds,vs,h=>by
  obtain ⟨qa,v,r,rfl,ha,hr,ht⟩:=(show ∃ q v r,vs=(q,v) :: r∧f a=some q∧Rep K O H d v∧Kvs K f O H ds r from h)
  by_cases e:qa=q
  ·have e':f (a,d).1=f k:=by rw [hk]; show f a=_; rw [ha,e]
   rw [YH,if_pos e',Zbf (p:=(qa,v)) e]
   exact hr
  ·have e':¬ f (a,d).1=f k:=by
    rw [hk]; show ¬ f a=_; rw [ha]; intro z; exact e (Option.some.inj z)
   rw [YH,if_neg e',Zbt (p:=(qa,v)) e]
   exact Zan hk ht
theorem RelO'.isSome {a:Option D} {b:Option V} (h:RelO' K O H a b):b.isSome=a.isSome:=by
 cases a <;> cases b <;> first | rfl | exact h.elim
theorem ZcO:∀ {ds:List (D×D)} {vs:List (κ×V)},Kvs K f O H ds vs→vs.length=ds.length
 | [],vs,h=>by
  cases (show vs=[] from h)
  rfl
 | (a,d) :: ds,vs,h=>by
  obtain ⟨qa,v,r,rfl,ha,hr,ht⟩:=(show ∃ q v r,vs=(q,v) :: r∧f a=some q∧Rep K O H d v∧Kvs K f O H ds r from h)
  simp [ZcO ht]
theorem ZeY {k d:D} {q:κ} {v:V} (hk:f k=some q) (hr:Rep K O H d v):∀ {ds:List (D×D)} {vs:List (κ×V)},Kvs K f O H ds vs→Kvs K f O H (ds++[(k,d)]) (vs++[(q,v)])
 | [],vs,h=>by
  cases (show vs=[] from h)
  exact ⟨q,v,[],rfl,hk,hr,rfl⟩
 | (a,d) :: ds,vs,h=>by
  obtain ⟨qa,w,r,rfl,ha,hw,ht⟩:=(show ∃ q v r,vs=(q,v) :: r∧f a=some q∧Rep K O H d v∧Kvs K f O H ds r from h)
  exact ⟨qa,w,r++[(q,v)],rfl,ha,hw,ZeY hk hr ht⟩
theorem Zgs {k d:D} {q:κ} {v:V} (hk:f k=some q) (hr:Rep K O H d v):∀ {ds:List (D×D)} {vs:List (κ×V)},Kvs K f O H ds vs →
  Kvs K f O H (ds.map fun p=>if f p.1=f k then (p.1,d) else p) (vs.map fun kv=>if kv.1=q then (kv.1,v) else kv)
 | [],vs,h=>by
  cases (show vs=[] from h)
  exact rfl
 | (a,e) :: ds,vs,h=>by
  obtain ⟨qa,w,r,rfl,ha,hw,ht⟩:=(show ∃ q v r,vs=(q,v) :: r∧f a=some q∧Rep K O H e v∧Kvs K f O H ds r from h)
  have ih:=Zgs hk hr ht
  rw [List.map_cons,List.map_cons]
  by_cases z:qa=q
  ·have z':f (a,e).1=f k:=by rw [hk]; show f a=_; rw [ha,z]
   rw [if_pos z',if_pos (show (qa,w).1=q from z)]
   exact ⟨qa,v,_,rfl,ha,hr,ih⟩
  ·have z':¬ f (a,e).1=f k:=by
    rw [hk]; show ¬ f a=_; rw [ha]; intro y; exact z (Option.some.inj y)
   rw [if_neg z',if_neg (show ¬ (qa,w).1=q from z)]
   exact ⟨qa,w,_,rfl,ha,hw,ih⟩
theorem ZeZ {k d:D} {q:κ} {v:V} (hk:f k=some q) (hr:Rep K O H d v) {ds:List (D×D)} {vs:List (κ×V)} (h:Kvs K f O H ds vs):Kvs K f O H (putD f ds k d) (putK vs q v):=by
 unfold putD putK
 rw [Zex,Zdk,(Zan hk h).isSome]
 split
 ·exact Zgs hk hr h
 ·exact ZeY hk hr h
end
theorem Zbd {K:PySem.W.Frag} {O:List Addr} {H:Hp} {d:D} {q:Key} {v:V} (h:Yn d=some q) (r:Rep K O H d v):v=kV q:=by
 cases d with
 | int i =>
  cases (show some (Sum.inl i)=some q from h)
  exact Rep.int_i.mp r
 | str x =>
  cases (show some (Sum.inr x)=some q from h)
  exact Rep.str_i.mp r
 | _=>cases h
theorem ZeJ {K:PySem.W.Frag} {O:List Addr} {H:Hp}:∀ {ds:List D} {qs:List Key} {vs:List V},Wa ds=some qs→Reps K O H ds vs→vs=qs.map kV
 | [],qs,vs,h,r=>by
  cases (show some []=some qs from h)
  exact (by unfold Reps at r; exact r)
 | d :: ds,qs,vs,h,r=>by
  unfold Wa at h
  unfold Reps at r
  obtain ⟨v,w,rfl,hv,hw⟩:=r
  split at h
  ·rename_i k ks h1 h2
   cases h
   rw [Zbd h1 hv,ZeJ h2 hw]
   rfl
  ·cases h
theorem Zev {K:PySem.W.Frag} {O:List Addr} {H:Hp} {d:D} {q:List Key} {v:V} (h:ZK d=some q) (r:Rep K O H d v):∃ b,v = .ref b∧H b=some (.tup (q.map kV)):=by
 cases d with
 | tup ds =>
  rw [Rep.tup_i] at r
  obtain ⟨a,vs,rfl,e,rs⟩:=r
  have h':Wa ds=some q:=h
  rw [ZeJ h' rs] at e
  exact ⟨a,rfl,e⟩
 | _=>cases h
noncomputable def dAt (st:Sto) (d k:D):Option (Option D):=match d with
 | .res i=>match st[i]? with
  | some (.dct ds)=>if (Yn k).isSome=true then some (YH Yn ds k) else none
  | some (.fdc ds)=>if (Yn k).isSome=true then some (YH Yn ds k) else none
  | some (.dtt ds)=>if (ZK k).isSome=true then some (YH ZK ds k) else none
  | _=>none
 | _=>none
theorem Zck {K:PySem.W.Frag} {O:List Addr} {H:Hp} {st:Sto} {d k:D} {o:Option D} {x y:V} (W:WR K O H st) (h:dAt st d k=some o) (rx:Rep K O H d x) (ry:Rep K O H k y) :
  ∃ a ov,x = .ref a∧DGet H a y ov∧RelO' K O H o ov:=by
 cases d with
 | res i =>
  rw [Rep.res_i] at rx
  obtain ⟨a,rfl,q⟩:=rx
  unfold dAt at h
  dsimp only at h
  cases e:st[i]? with
  | none=>rw [e] at h; cases h
  | some s =>
   rw [e] at h
   cases s with
   | lst xs=>cases h
   | ins C fs=>cases h
   | dct ds =>
    obtain ⟨vs,e2,kv⟩:=W.at_ _ _ _ q e
    dsimp only at h
    cases hk:Yn k with
    | none=>rw [hk] at h; cases h
    | some c =>
     rw [hk] at h
     cases h
     cases Zbd hk ry
     exact ⟨a,_,rfl,DGet.k e2,Zan hk kv⟩
   | fdc ds =>
    obtain ⟨ob,vs,e2,kv⟩:=W.at_ _ _ _ q e
    dsimp only at h
    cases hk:Yn k with
    | none=>rw [hk] at h; cases h
    | some c =>
     rw [hk] at h
     cases h
     cases Zbd hk ry
     exact ⟨a,_,rfl,(.inl ⟨_,_,.inr ⟨_,e2⟩,rfl,rfl⟩),Zan hk kv⟩
   | dtt ds =>
    obtain ⟨vs,e2,kv⟩:=W.at_ _ _ _ q e
    dsimp only at h
    cases hk:ZK k with
    | none=>rw [hk] at h; cases h
    | some c =>
     rw [hk] at h
     cases h
     obtain ⟨b,rfl,hb⟩:=Zev hk ry
     exact ⟨a,_,rfl,DGet.t e2 hb,Zan hk kv⟩
 | _=>cases h
noncomputable def Yz (st:Sto) (d k v:D):Option Sto:=match d with
 | .res i=>match st[i]? with
  | some (.dct ds)=>if (Yn k).isSome=true∧ds.length<small then some (st.set i (.dct (putD Yn ds k v))) else none
  | some (.dtt ds)=>if (ZK k).isSome=true∧ds.length<small then some (st.set i (.dtt (putD ZK ds k v))) else none
  | _=>none
 | _=>none
theorem Zgt {K:PySem.W.Frag} {O:List Addr} {H:Hp} {st st':Sto} {d k z:D} {x y w:V} (W:WR K O H st) (h:Yz st d k z=some st') (rx:Rep K O H d x) (ry:Rep K O H k y) (rw':Rep K O H z w) :
  ∃ a H',x = .ref a∧DPut H a y w H'∧Keep K O H O H'∧WR K O H' st':=by
 cases d with
 | res i =>
  rw [Rep.res_i] at rx
  obtain ⟨a,rfl,q⟩:=rx
  unfold Yz at h
  dsimp only at h
  cases e:st[i]? with
  | none=>rw [e] at h; cases h
  | some s =>
   rw [e] at h
   cases s with
   | lst xs=>cases h
   | ins C fs=>cases h
   | fdc ds=>cases h
   | dct ds =>
    obtain ⟨vs,e2,kv⟩:=W.at_ _ _ _ q e
    dsimp only at h
    split at h
    ·rename_i hc
     cases hk:Yn k with
     | none=>rw [hk] at hc; cases hc.1
     | some c =>
      cases h
      cases Zbd hk ry
      refine ⟨a,_,rfl,DPut.k e2 (by rw [ZcO kv]; exact Nat.lt_of_lt_of_le hc.2 YE),Keep.write W q,W.write q ?_⟩
      exact ⟨_,YR,Kvs.mono (Keep.write W q) _ _ (ZeZ hk rw' kv)⟩
    ·cases h
   | dtt ds =>
    obtain ⟨vs,e2,kv⟩:=W.at_ _ _ _ q e
    dsimp only at h
    split at h
    ·rename_i hc
     cases hk:ZK k with
     | none=>rw [hk] at hc; cases hc.1
     | some c =>
      cases h
      obtain ⟨b,rfl,hb⟩:=Zev hk ry
      refine ⟨a,_,rfl,DPut.t e2 hb (by rw [ZcO kv]; exact Nat.lt_of_lt_of_le hc.2 YE),Keep.write W q,W.write q ?_⟩
      exact ⟨_,YR,Kvs.mono (Keep.write W q) _ _ (ZeZ hk rw' kv)⟩
    ·cases h
 | _=>cases h
noncomputable def WB (fo fi:DE):DE:=fun ρ st=>(fo ρ st).bind fun d st1=>(fi ρ st1).bind fun k st2=>match dAt st2 d k with
 | some (some v) => .ok v st2
 | _ => .bad
noncomputable def YX:D→D→Sto→Out D:=fun k d st=>match dAt st d k with
 | some o => .ok (.bl (!o.isSome)) st
 | _ => .bad
noncomputable def Zbo (fo fi fv:DE):DS:=fun ρ st=>(fv ρ st).to fun v st1=>(fo ρ st1).to fun d st2=>(fi ρ st2).to fun k st3=>match Yz st3 d k v with
 | some st4 => .nx ρ st4
 | _ => .bad
section
variable {X:Cx} {EX:EXT} {a b c e o i:Expr} {fa fb fc fo fi fv:DE} {pos p p2 apos cpos:Pos}
theorem ZcI (hu:X.A.units+64<cLine) (ho:PD X EX o fo) (hi:PD X EX i fi) (hs:ZcU i:=by intro _ _; rfl):PD X EX (.Subscript o i pos) (WB fo fi):=by
 refine PE.mono (ZiJ (by omega) ho hi hs) ?_
 rintro σ H Q ⟨O,ρ,st,W,E,R⟩
 refine ⟨O,ρ,st,W,E,R.bind.mono fun d st1 O1 H1 k1 W1 R1 x rx => ?_⟩
 refine ⟨O1,ρ,st1,W1,E.mono k1,R1.bind.mono fun k st2 O2 H2 k2 W2 R2 y ry => ?_⟩
 split at R2
 ·rename_i v hv
  obtain ⟨a,ov,rfl,g,rel⟩:=Zck W2 hv (Rep.mono k2 _ _ rx) ry
  cases ov with
  | none=>exact rel.elim
  | some w=>exact ⟨a,w,rfl,g,Run.now (k:=Val X.K Q) R2 W2 _ rel⟩
 ·exact R2.elim
theorem ZmA (hu:X.A.units+64<cLine):OpD X EX (compareOp .NotIn) YX:=by
 intro pins s σ H x y v u Q I rx ry h
 obtain ⟨O,k,d,st,W,rk,rd,R⟩:=h
 unfold YX at R
 split at R
 ·rename_i o ho
  obtain ⟨a,ov,rfl,g,rel⟩:=Zck W ho rd rk
  cases (show u=Value.ref a from ry)
  refine Ziq (by omega) I g rx fun s' I'=>⟨.bl (!ov.isSome),H,I',rfl,?_⟩
  rw [rel.isSome]
  exact Run.now (k:=Val X.K Q) R W _ (Rep.bl_i.mpr rfl)
 ·exact R.elim
theorem Zet (hu:X.A.units+64<cLine) (ho:PD X EX o fo) (hi:PD X EX i fi) (hv:PD X EX e fv) (hs:swapsWith e (some (.Subscript o i p)) pos.line X.env=pure false:=by rfl) :
  PDs X EX (.Assign [.Subscript o i p] e pos) (Zbo fo fi fv):=by
 refine PS.mono (Zh3 (by omega) ho hi hv hs) ?_
 rintro Dn σ H ⟨O,ρ,st,W,E,R⟩
 refine ⟨O,ρ,st,W,E,R.to.mono fun w st1 O1 H1 k1 W1 R1 v r => ?_⟩
 refine ⟨O1,ρ,st1,W1,E.mono k1,R1.to.mono fun d st2 O2 H2 k2 W2 R2 u r2 => ?_⟩
 refine ⟨O2,ρ,st2,W2,E.mono (k1.trans k2),R2.to.mono fun j st3 O3 H3 k3 W3 R3 z r3 => ?_⟩
 split at R3
 ·rename_i st4 h4
  obtain ⟨a,H4,rfl,g,kp,W4⟩:=Zgt W3 h4 (Rep.mono k3 _ _ r2) r3 (Rep.mono (k2.trans k3) _ _ r)
  exact ⟨a,H4,rfl,g,R3 O3 H4 σ kp W4 (E.mono (k1.trans (k2.trans (k3.trans kp))))⟩
 ·exact R3.elim
end
section
variable {fo fi fv:DE} {ρ:Ev} {st:Sto} {C:Addr} {x:Str}
theorem Zel:Zbo fo fi fv ρ st=(fv ρ st).to fun v st1=>(fo ρ st1).to fun d st2=>(fi ρ st2).to fun k st3=>match Yz st3 d k v with
 | some st4 => .nx ρ st4
 | _ => .bad:=rfl
end
end DL
end
section
set_option maxHeartbeats 2000000
namespace SO
open PySem PySem.W PyProof.Rows
section
variable {prog:Program} {w:World} {A:Around} {E:Value→Shared→Prop} {s:Shared}
noncomputable def ZY (a b:Str):Bool:=decide (a.cps.toList<b.cps.toList)
noncomputable def Ws (a b:Str):Bool:=decide (a.cps.toList≤b.cps.toList)
theorem ZaQ {a b:Str} (h:a.cps.toList=b.cps.toList):a=b:=by
 cases a; cases b
 simp only at h
 congr 1
 exact Array.toList_inj.mp h
theorem Zmx {a:Addr} {vs:List Value} {ss:List Str} (h:StrsAre vs ss):Cmp prog w s a vs oneType' (fun i j=>ZY (ss.getD i default) (ss.getD j default)):=by
 refine ⟨fun h2 g A E Q hg hQ => ?_,fun h2 g A E Q i j hg hi hj hQ => ?_⟩
 ·match vs,h,h2 with
  | [],_,h2=>simp at h2
  | [_],_,h2=>simp at h2
  | v1 :: v2 :: vs,h,_ =>
   rw [keyKind_strs h]
   exact wpAny_pure hQ
 ·have hl:=h.length
  obtain ⟨t,h1⟩:=h.at (j:=i) (y:=ss.getD i default) (by rw [List.getD_eq_getElem?_getD,List.getElem?_eq_getElem (by omega)]; rfl)
  obtain ⟨u,h3⟩:=h.at (j:=j) (y:=ss.getD j default) (by rw [List.getD_eq_getElem?_getD,List.getElem?_eq_getElem (by omega)]; rfl)
  rw [List.getD_eq_getElem?_getD (l:=vs),List.getD_eq_getElem?_getD (l:=vs),h1,h3,keyLt'_oneType]
  exact oneLt_str hQ
theorem ZhV {ss:List Str} (hn:ss.Nodup):Ord ss.length (fun i j=>ZY (ss.getD i default) (ss.getD j default)):=by
 have apart:∀ i j,i<ss.length→j<ss.length→i≠j→(ss.getD i default).cps.toList≠(ss.getD j default).cps.toList:=fun i j hi hj ne e=>by
  have e':=ZaQ e
  rw [List.getD_eq_getElem?_getD,List.getD_eq_getElem?_getD,List.getElem?_eq_getElem hi,List.getElem?_eq_getElem hj] at e'
  exact ne ((List.getElem_inj hn).mp e')
 refine ⟨fun i j hi hj ne h => ?_,fun i j hi hj h => ?_,fun i j k hi hj hk h1 h2 => ?_⟩
 ·have ha:=apart i j hi hj ne
  simp only [ZY,decide_eq_true_eq,decide_eq_false_iff_not] at *
  have h1:=List.not_lt.mp h
  by_cases h2:(ss.getD j default).cps.toList<(ss.getD i default).cps.toList
  ·exact h2
  ·exact absurd (List.le_antisymm (List.not_lt.mp h2) h1) ha
 ·simp only [ZY,decide_eq_true_eq,decide_eq_false_iff_not] at *
  exact fun h2=>List.lt_irrefl _ (List.lt_trans h h2)
 ·simp only [ZY,decide_eq_true_eq] at *
  exact List.lt_trans h1 h2
noncomputable def srtS (ss:List Str):List Str:=ss.mergeSort Ws
theorem srtS_perm (ss:List Str):(srtS ss).Perm ss:=List.mergeSort_perm _ _
theorem ZeC (ss:List Str):(srtS ss).Pairwise (fun a b=>Ws a b=true):=by
 refine List.pairwise_mergeSort (fun a b c h1 h2 => ?_) (fun a b => ?_) ss
 ·simp only [Ws,decide_eq_true_eq] at *
  exact List.le_trans h1 h2
 ·simp only [Ws,Bool.or_eq_true,decide_eq_true_eq]
  exact List.le_total _ _
theorem Zf5 {ss qs:List Str} (hp:qs.Perm ss) (hw:qs.Pairwise (fun a b=>ZY a b=true)):qs=srtS ss:=by
 refine List.Perm.eq_of_pairwise (le:=fun a b=>Ws a b=true) (fun a b _ _ h1 h2 => ?_) (hw.imp fun {a b} h => ?_) (ZeC ss) (hp.trans (srtS_perm ss).symm)
 ·simp only [Ws,decide_eq_true_eq] at h1 h2
  exact ZaQ (List.le_antisymm h1 h2)
 ·simp only [Ws,ZY,decide_eq_true_eq] at *
  exact List.not_lt.mp fun h2=>List.lt_irrefl _ (List.lt_trans h h2)
end
end SO
namespace DL
open PySem PySem.Spec PyProof.Rows L2 PySem.W SO
noncomputable def WN:List D→Option (List Str)
 | []=>some []
 | .str x :: ds=>(WN ds).map (x :: ·)
 | _ :: _=>none
theorem Zda:∀ {ds:List D} {ss:List Str},WN ds=some ss→ds=ss.map D.str
 | [],ss,e=>by cases e; rfl
 | d :: ds,ss,e=>by
  unfold WN at e
  split at e
  ·rename_i h; cases h
  ·rename_i x r h
   cases h
   obtain ⟨qs,h1,rfl⟩:=Option.map_eq_some_iff.mp e
   rw [Zda h1]; rfl
  ·cases e
theorem Zc6:∀ (ss:List Str),WN (ss.map D.str)=some ss
 | []=>rfl
 | x :: ss=>by
  show (WN (ss.map D.str)).map (x :: ·)=_
  rw [Zc6 ss]; rfl
theorem Zcu:∀ {vs:List Value} {ss:List Str},vs.length=ss.length→(∀ (i:Nat) (v:Value) (x:Str),vs[i]?=some v→ss[i]?=some x→∃ t,v = .str x t)→StrsAre vs ss
 | [],[],_,_ => .nil
 | [],_ :: _,h,_=>by cases h
 | _ :: _,[],h,_=>by cases h
 | v :: vs,x :: ss,h,k=>by
  obtain ⟨t,rfl⟩:=k 0 v x rfl rfl
  exact .cons x t (Zcu (by simpa using h) fun i v' x' h1 h2=>k (i+1) v' x' (by simpa using h1) (by simpa using h2))
section
variable {X:Cx} {EX:EXT}
theorem Zh6 {pins:List (Addr×Obj)} {s:Shared} {σ:L2.St} {H:Hp} {O:List Addr} {st:Sto} {Q:VK} {its:List Value} {ss:List Str} {ix:List Nat} {a:Addr} {h1 h':Heap} {tk c:Nat} (I:Inv X pins σ H s) (W:WR X.K O H st) (hs:StrsAre its ss)
  (R:Run X.K EX O H (.ok ((srtS ss).map D.str) st) (New X.K Q)) (hp:ix.Perm (List.range ss.length)) (hw:ix.Pairwise (fun i j=>ZY (ss.getD i default) (ss.getD j default)=true)) (h64:ss.length<64)
  (k1 : ∀ b o, s.heap.get? b = some o → h1.get? b = some o) (ha : h1.objs.size ≤ a) (hk : ∀ b o, h1.get? b = some o → h'.get? b = some o) (hg : h'.get? a = some (seqObj "list" (ix.map fun i => its.getD i .none).toArray c)) :
  ∃ v H',Inv X pins σ H' { s with heap:=h',toks:=tk }∧RelV v (.ref a)∧Q v H':=by
 have hl:=hs.length
 have hix:ix.map (fun i=>ss.getD i default)=srtS ss:=by
  refine Zf5 ?_ (List.pairwise_map.mpr hw)
  refine (hp.map (fun i=>ss.getD i default)).trans (List.Perm.of_eq ?_)
  refine List.ext_getElem (by simp) fun i h1 h2 => ?_
  simp [List.getD_eq_getElem?_getD,List.getElem?_eq_getElem h2]
 have hb:∀ i∈ix,i<ss.length:=fun i hi=>by
  have:=hp.mem_iff.mp hi
  simpa using this
 have I1:Inv X pins σ H { s with heap:=h1,toks:=tk }:=I.kept k1
 refine ⟨.ref a,upd H a (.lst (ix.map fun i=>V.str (ss.getD i default))),I1.laid hk ha ⟨?_,ix.map (fun i=>its.getD i .none),c,?_,hg⟩,rfl,?_⟩
 ·have h0:=hp.length_eq
  simp only [List.length_map,List.length_range] at h0 ⊢
  rw [sizeLine_eq]
  omega
 ·refine Zca ix fun i hi => ?_
  have:=hb i hi
  obtain ⟨t,h3⟩:=hs.at (j:=i) (y:=ss.getD i default) (by rw [List.getD_eq_getElem?_getD,List.getElem?_eq_getElem this]; rfl)
  rw [List.getD_eq_getElem?_getD (l:=its),h3]
  exact ⟨t,rfl⟩
 ·refine Run.now (k:=New X.K Q) R W a _ ?_ (I1.hok.fresh ha)
  rw [← hix,List.map_map]
  exact Zdc ix fun i hi=>Rep.str_i.mpr rfl
end
end DL
end
section
set_option maxHeartbeats 2000000
namespace DL
open PySem PySem.Spec PyProof.Rows L2
section
variable {K:PySem.W.Frag} {O:List Addr} {H:Hp}
noncomputable def RPs (K:PySem.W.Frag) (O:List Addr) (H:Hp):List (D×D)→List (V×V)→Prop
 | [],vs=>vs=[]
 | p :: ps,vs => ∃ x y r,vs=(x,y) :: r∧Rep K O H p.1 x∧Rep K O H p.2 y∧RPs K O H ps r
theorem RPs.mono {O':List Addr} {H':Hp} (k:Keep K O H O' H'):∀ {ps:List (D×D)} {vs:List (V×V)},RPs K O H ps vs→RPs K O' H' ps vs
 | [],vs,h=>h
 | p :: ps,vs,h=>by
  obtain ⟨x,y,r,e,hx,hy,ht⟩:=(show ∃ x y r,vs=(x,y) :: r∧Rep K O H p.1 x∧Rep K O H p.2 y∧RPs K O H ps r from h)
  exact ⟨x,y,r,e,Rep.mono k _ _ hx,Rep.mono k _ _ hy,RPs.mono k ht⟩
end
section
variable {X:Cx} {EX:EXT} {e o i:Expr} {fo fi fe:DE} {pos apos cpos:Pos}
noncomputable def Qi (st:Sto) (d:D):Bool:=match d with
 | .res i=>match st[i]? with
  | some (.dct _)=>true
  | some (.dtt _)=>true
  | _=>false
 | _=>false
theorem ZiM {K:PySem.W.Frag} {O:List Addr} {H:Hp} {st:Sto} {d:D} {x:V} (W:WR K O H st) (h:Qi st d=true) (r:Rep K O H d x):∃ a,x = .ref a∧IsD H a:=by
 unfold Qi at h
 split at h
 ·rename_i j
  rw [Rep.res_i] at r
  obtain ⟨a,rfl,q⟩:=r
  split at h
  ·rename_i ds e
   obtain ⟨vs,e2,_⟩:=W.at_ _ _ _ q e
   exact ⟨a,rfl,.inl ⟨vs,.inl e2⟩⟩
  ·rename_i ds e
   obtain ⟨vs,e2,_⟩:=W.at_ _ _ _ q e
   exact ⟨a,rfl,.inr ⟨vs,.inl e2⟩⟩
  ·cases h
 ·cases h
noncomputable def ZcF (fo fi:DE):DE:=fun ρ st=>(fo ρ st).bind fun d st1=>if Qi st1 d=true then (fi ρ st1).bind fun k st2=>(match dAt st2 d k with
 | some o => .ok (o.getD .non) st2
 | none => .bad) else .bad
theorem ZmP (hu : X.A.units + 64 < cLine) (ho : PD X EX o fo) (hi : PD X EX i fi) (m : M1 X o "get" apos i cpos := by exact ⟨rfl, rfl, rfl, rfl⟩) : PD X EX (.Call (.Attribute o "get" apos) [i] [] cpos) (ZcF fo fi) := by
 refine PE.mono (Zg4 (by omega) ho hi m) ?_
 rintro σ H Q ⟨O,ρ,st,W,E,R⟩
 refine ⟨O,ρ,st,W,E,R.bind.mono fun d st1 O1 H1 k1 W1 R1 x rx => ?_⟩
 by_cases hd:Qi st1 d=true
 ·rw [if_pos hd] at R1
  obtain ⟨a,rfl,ia⟩:=ZiM W1 hd rx
  refine ⟨a,rfl,ia,O1,ρ,st1,W1,E.mono k1,R1.bind.mono fun k st2 O2 H2 k2 W2 R2 y ry => ?_⟩
  split at R2
  ·rename_i ov hv
   obtain ⟨a',w,e,g,rel⟩:=Zck W2 hv (Rep.mono k2 _ _ rx) ry
   cases e
   refine ⟨w,g,?_⟩
   cases ov with
   | none =>
    cases w with
    | none=>exact Run.now (k:=Val X.K Q) R2 W2 _ (Rep.non_i.mpr rfl)
    | some _=>exact rel.elim
   | some z =>
    cases w with
    | none=>exact rel.elim
    | some w=>exact Run.now (k:=Val X.K Q) R2 W2 _ rel
  ·exact R2.elim
 ·rw [if_neg hd] at R1; exact R1.elim
end
section
variable {fo fi fe:DE} {ρ:Ev} {st:Sto}
theorem Zfg:ZcF fo fi ρ st=(fo ρ st).bind fun d st1=>if Qi st1 d=true then (fi ρ st1).bind fun k st2=>(match dAt st2 d k with
 | some o => .ok (o.getD .non) st2
 | none => .bad) else .bad:=rfl
end
end DL
end
section
set_option maxHeartbeats 2000000
end
section
set_option maxHeartbeats 2000000
end
section
namespace DL
open PySem PySem.Spec PyProof.Rows L2
section
variable {X:Cx} {pins:List (Addr×Obj)} {σ:L2.St} {H:Hp} {s:Shared} {d:Addr} {o:Obj} {vs:List (Key×V)}
theorem Inv.thaw (I:Inv X pins σ H s) (e:H d=some (.frz o (.dK vs))) (hn:∀ ob u,X.H₀ d≠some (.frz ob u)):Inv X pins σ (upd H d (.dK vs)) s:=by
 have ne:∀ b,H b=none→b≠d:=fun b q z=>by subst z; rw [e] at q; cases q
 refine ⟨I.ok,I.os,I.bare,⟨I.base.keep,I.base.slot,fun b ob q n hx => ?_,I.base.there,fun b xs q => ?_,fun b ob u q => ?_,fun b ps q => ?_⟩,I.loc,I.cell,?_,fun x c hx => ?_,fun p hp => ?_,fun b u q => ?_,I.len⟩
 ·have:=I.base.free b ob q n hx
  rw [Zt (ne b this)]; exact this
 ·have h:=I.base.tups b xs q
  rw [Zt]; exact h
  rintro rfl; rw [e] at h; cases h
 ·have h:=I.base.frzs b ob u q
  rw [Zt]; exact h
  rintro rfl; exact hn _ _ q
 ·obtain ⟨m,h⟩:=I.base.tbls b ps q
  refine ⟨m,?_⟩
  rw [Zt]; exact h
  rintro rfl; rw [e] at h; cases h
 ·have:=I.free
  rw [Zt (ne _ this)]; exact this
 ·have:=I.freeC x c hx
  rw [Zt (ne _ this)]; exact this
 ·obtain ⟨p1,p2,p3⟩:=I.pin p hp
  exact ⟨p1,by rw [Zt (ne _ p2)]; exact p2,p3⟩
 ·have st:∀ {b u},ObjOk X.prog X.w H s.heap b u→ObjOk X.prog X.w (upd H d (.dK vs)) s.heap b u:=fun x=>x.stay (fun b u _ q=>q) (fun c r=>by rw [Zt (fun z=>by rw [z,e] at r; cases r)]; exact r) fun c xs r=>by rw [Zt (fun z=>by rw [z,e] at r; cases r)]; exact r
  by_cases hb:b=d
  ·subst hb
   rw [YR] at q
   cases q
   exact st (I.hok b _ e).2
  ·rw [Zt hb] at q
   exact st (I.hok b u q)
end
end DL
end
section
namespace DL
open PySem PySem.Spec PyProof.Rows L2
theorem ZbT (t:SetTable) (es:Array (Int×Value)) (h:Int) (x:Value):(layNew t es h x).2.1.led=t.led∧((layNew t es h x).2.1.plain=true→t.plain=true):=by
 unfold layNew
 cases t.freeSlot h with
 | none=>exact ⟨rfl,fun z=>by cases z⟩
 | some p =>
  obtain ⟨j,d⟩:=p
  dsimp only
  unfold SetTable.orStandIn
  split
  ·exact ⟨rfl,fun z=>z⟩
  ·exact ⟨rfl,fun z=>by cases z⟩
theorem Zhg {mask finger moves:Nat} {led plain:Bool} {hs:Array Int} {t:SetTable} {o:Array Nat} (h:SetTable.laid mask finger moves led plain hs=some (t,o)):t.led=led∧t.plain=plain:=by
 unfold SetTable.laid at h
 cases hc:SetTable.layClean mask hs with
 | none=>rw [hc] at h; cases h
 | some ow =>
  rw [hc] at h
  have h':=Option.some.inj h
  cases h'
  exact ⟨rfl,rfl⟩
theorem Zei (t:SetTable) (es:Array (Int×Value)) (k:Nat):(relayAll t es k).2.1.led=t.led∧((relayAll t es k).2.1.plain=true→t.plain=true):=by
 unfold relayAll
 cases hr:t.relaid (es.map (·.1)) k with
 | none=>exact ⟨rfl,fun z=>by cases z⟩
 | some p =>
  obtain ⟨t',o⟩:=p
  obtain ⟨h1,h2⟩:=Zhg hr
  dsimp only
  split
  ·exact ⟨h1,fun z=>by rw [← h2]; exact z⟩
  ·exact ⟨rfl,fun z=>by cases z⟩
noncomputable def byT (w : World) : Bool := w.params.followText "set-order"
structure TabT (w:World) (t:SetTable) (n:Nat):Prop where
 fits:t.fits n=true
 led:t.led = !byT w
 plain:t.plain=true→n=0
section
variable (prog:Program) (w:World)
noncomputable def SetT (h:Heap) (a:Addr) (xs:List Str):Prop :=
 ∃ o es ep t,h.get? a=some o∧o.ExactSet∧o.data = .set es ep t∧TabT w t es.size∧ElemsOf (strKind prog w) es.toList∧StrsAre (es.toList.map (·.2)) xs∧xs.Nodup∧es.size<scanBound
end
section
variable {prog:Program} {w:World} {A:Around} {E:Value→Shared→Prop} {s:Shared} {a:Addr}
theorem ZbV:∀ {vs:List Value} {xs:List Str},StrsAre vs xs→∀ x,x∈xs ↔ ∃ v∈vs,(strKind prog w).is x v=true
 | _,_,.nil,x=>⟨(fun h=>by cases h),fun ⟨v,h,_⟩=>by cases h⟩
 | _,_,.cons y t r,x=>by
  have ih:=ZbV r x
  constructor
  ·intro h
   rcases List.mem_cons.mp h with rfl | h
   ·exact ⟨_,List.mem_cons_self,strKind_is _ _ _ _⟩
   ·obtain ⟨v,h1,h2⟩:=ih.mp h
    exact ⟨v,List.mem_cons_of_mem _ h1,h2⟩
  ·rintro ⟨v,h1,h2⟩
   rcases List.mem_cons.mp h1 with rfl | h1
   ·have e:x=y:=(strKind prog w).inj _ x y h2 (strKind_is _ _ _ _)
    rw [e]
    exact List.mem_cons_self
   ·exact List.mem_cons_of_mem _ (ih.mpr ⟨v,h1,h2⟩)
theorem Za1:∀ {vs vs':List Value},vs.Perm vs'→∀ {xs:List Str},StrsAre vs xs→∃ xs',StrsAre vs' xs'∧xs.Perm xs':=by
 intro vs vs' p
 induction p with
 | nil=>intro xs h; exact ⟨xs,h,.refl _⟩
 | cons v _ ih =>
  intro xs h
  cases h with
  | cons x t r =>
   obtain ⟨xs',h1,h2⟩:=ih r
   exact ⟨x :: xs',.cons x t h1,h2.cons x⟩
 | swap u v l =>
  intro xs h
  cases h with
  | cons x t r =>
   cases r with
   | cons y t' r'=>exact ⟨y :: x :: _,.cons y t' (.cons x t r'),.swap y x _⟩
 | trans _ _ ih1 ih2 =>
  intro xs h
  obtain ⟨ys,h1,h2⟩:=ih1 h
  obtain ⟨zs,h3,h4⟩:=ih2 h1
  exact ⟨zs,h3,h2.trans h4⟩
theorem strs_snoc:∀ {vs:List Value} {xs:List Str},StrsAre vs xs→∀ (x:Str) (t:Tok),StrsAre (vs++[.str x t]) (xs++[x])
 | _,_,.nil,x,t => .cons x t .nil
 | _,_,.cons y u r,x,t => .cons y u (strs_snoc r x t)
theorem ZgI {es es1:Array (Int×Value)} {ep:Nat} {t t2:SetTable} {o:Obj} {xs1:List Str} {wd:Bool} {g:Bool→Sem Unit} {R:Option Bool→Shared→Prop} (hg:∀ (b:Bool) (s₁:Shared) (Q':Unit→Shared→Prop),Q' () s₁→wpAny (model prog w) A (g b) Q' E s₁)
  (ho:s.heap.get? a=some o) (hx:o.ExactSet) (hd:o.data = .set es ep t) (hb:es1.size<scanBound) (hT:TabT w t2 es1.size) (hel:ElemsOf (strKind prog w) es1.toList) (hs:StrsAre (es1.toList.map (·.2)) xs1) (hn:xs1.Nodup)
  (h:∀ h' xs',Heap.SameBut a s.heap h'→SetT prog w h' a xs'→xs1.Perm xs'→R (some true) { s with heap:=h' }) :
  wpAny (model prog w) A (do
    storeSet a es1 t2
    if (!wd && t2.tooFull)=true then do
      g (relayAll t2 es1 (SetTable.grown es1.size)).2.2
      storeSet a (relayAll t2 es1 (SetTable.grown es1.size)).1 (relayAll t2 es1 (SetTable.grown es1.size)).2.1
      pure (some true)
     else pure (some true)) R E s:=by
 refine wpAny_bind (wpAny_storeSet_of ho hd ?_ (fits_of_scanBound hb))
 have o1:(s.heap.update a (Obj.putSet es1 t2)).get? a=some { o with data:=.set es1 (ep+1) t2 }:=by
  have q:=Heap.get?_update_self (Obj.putSet es1 t2) ho (by rw [putSet_of es1 t2 hd]; rfl)
  rwa [putSet_of es1 t2 hd] at q
 have b1:=Heap.SameBut.update s.heap a (Obj.putSet es1 t2)
 by_cases hc:(!wd && t2.tooFull)=true
 ·rw [if_pos hc]
  have hp:=relayAll_perm t2 es1 (SetTable.grown es1.size)
  have hf:=relayAll_fits t2 es1 (SetTable.grown es1.size)
  have hl:=Zei t2 es1 (SetTable.grown es1.size)
  generalize relayAll t2 es1 (SetTable.grown es1.size)=Rl at hp hf hl ⊢
  obtain ⟨es2,t3,gv⟩:=Rl
  dsimp only at hp hf hl ⊢
  have hz:es2.size=es1.size:=by simpa using hp.length_eq
  obtain ⟨xs2,hs2,hpx⟩:=Za1 (hp.map (·.2)).symm hs
  refine wpAny_bind (hg _ _ _ (wpAny_bind (wpAny_storeSet_of (s:={ s with heap:=s.heap.update a (Obj.putSet es1 t2) }) o1 rfl ?_ (fits_of_scanBound (by rw [hz]; exact hb)))))
  have o2:((s.heap.update a (Obj.putSet es1 t2)).update a (Obj.putSet es2 t3)).get? a=some { o with data:=.set es2 (ep+1+1) t3 }:=by
   have q:=Heap.get?_update_self (Obj.putSet es2 t3) o1 (by rw [putSet_of es2 t3 rfl]; rfl)
   rwa [putSet_of es2 t3 rfl] at q
  exact wpAny_pure (h _ xs2 (b1.trans (Heap.SameBut.update _ a _)) ⟨_,es2,_,t3,o2,hx,rfl,⟨hf,by rw [hl.1]; exact hT.led,fun z=>by rw [hz]; exact hT.plain (hl.2 z)⟩,hel.perm hp,hs2,hpx.nodup_iff.mp hn,by rw [hz]; exact hb⟩ hpx)
 ·rw [if_neg hc]
  exact wpAny_pure (h _ xs1 b1 ⟨_,es1,_,t2,o1,hx,rfl,hT,hel,hs,hn,hb⟩ (.refl _))
theorem Zis {x:Str} {tk:Tok} {xs:List Str} {Q:Bool→Shared→Prop} (hS:SetT prog w s.heap a xs) (hr:xs.length+1<scanBound)
  (h:∀ h' xs' b,Heap.SameBut a s.heap h'→SetT prog w h' a xs'→(∀ y,y∈xs' ↔ y∈xs∨y=x)→xs'.length≤xs.length+1→Q b { s with heap:=h' }) :
  wpAny (model prog w) A (setAddHashed a (.str x tk) ((strKind prog w).hash x)) Q E s:=by
 obtain ⟨o,es,ep,t,ho,hx,hd,hT,hel,hs,hn,hb⟩:=id hS
 have hsz:es.size=xs.length:=by
  have:=hs.length
  simpa using this
 have hkey:(strKind prog w).is x (.str x tk)=true:=strKind_is _ _ _ _
 have hsc:(Value.str x tk).scannable=true:=rfl
 unfold setAddHashed setAddHashedIn
 refine wpAny_holding (wpAny_bind (wpAny_setState_of ho hd hT.fits ?_))
 dsimp only
 rw [byScan_of (knd:=strKind prog w) hsc hb hel,if_pos rfl]
 unfold setAddByScan
 refine wpAny_bind (wpAny_bind (wpAny_rule (wpAny_bind (wpAny_setScan_of (knd:=strKind prog w) hkey ho hd hT.fits hel ?_))))
 cases hf:es.toList.findIdx? (fun e=>(strKind prog w).is x e.2) with
 | some j =>
  dsimp only
  obtain ⟨hj,hp,_⟩:=List.findIdx?_eq_some_iff_getElem.mp hf
  have hm:x∈xs:=(ZbV hs x).mpr ⟨_,List.mem_map.mpr ⟨_,List.getElem_mem hj,rfl⟩,hp⟩
  refine wpAny_pure (wpAny_pure ?_)
  have e:s = { s with heap:=s.heap }:=by cases s; rfl
  rw [e]
  exact h s.heap xs false (Heap.SameBut.refl a s.heap) hS (fun y=>⟨.inl,fun z=>z.elim id fun z=>z ▸ hm⟩) (Nat.le_succ _)
 | none =>
  dsimp only
  have hm:x ∉ xs:=fun hm=>by
   obtain ⟨v,hv,q⟩:=(ZbV (prog:=prog) (w:=w) hs x).mp hm
   obtain ⟨e,he,rfl⟩:=List.mem_map.mp hv
   have:=List.findIdx?_eq_none_iff.mp hf e he
   rw [q] at this
   cases this
  have hg : ∀ (b : Bool) {s₁ : Shared} {Q' : Unit → Shared → Prop}, Q' () s₁ → wpAny (model prog w) A (match b with | true => rule "set.scan.the-table-gave-way" | false => pure ()) Q' E s₁ := by
   intro b s₁ Q' hq
   cases b
   ·exact wpAny_pure hq
   ·exact wpAny_rule hq
  have hp:=layNew_perm t es ((strKind prog w).hash x) (.str x tk)
  have hfit:=layNew_fits t es ((strKind prog w).hash x) (.str x tk)
  have hl:=ZbT t es ((strKind prog w).hash x) (.str x tk)
  generalize layNew t es ((strKind prog w).hash x) (.str x tk)=Ln at hp hfit hl ⊢
  obtain ⟨es1,t1,wd,gv⟩:=Ln
  dsimp only at hp hfit hl ⊢
  rw [Array.toList_push] at hp
  have hz:es1.size=es.size+1:=by simpa using hp.length_eq
  have hel1:ElemsOf (strKind prog w) es1.toList:=(hel.push hkey hsc).perm hp
  have hs0:StrsAre ((es.toList++[((strKind prog w).hash x,Value.str x tk)]).map (·.2)) (xs++[x]):=by
   rw [List.map_append]
   exact strs_snoc hs x tk
  obtain ⟨xs1,hs1,hpx⟩:=Za1 (hp.map (·.2)).symm hs0
  have hn1:xs1.Nodup:=hpx.nodup_iff.mp (List.nodup_append.mpr ⟨hn,by simp,fun u hu v hv=>by
   rw [List.mem_singleton.mp hv]
   rintro rfl
   exact hm hu⟩)
  have fin:∀ h' xs',Heap.SameBut a s.heap h'→SetT prog w h' a xs'→xs1.Perm xs'→Q true { s with heap:=h' }:=fun h' xs' b1 b2 b3=>h h' xs' true b1 b2 (fun y=>by
   rw [← (hpx.trans b3).mem_iff]
   simp) (by rw [← (hpx.trans b3).length_eq]; simp)
  refine wpAny_bind (hg _ ?_)
  by_cases hpl:t1.plain=true
  ·rw [if_pos hpl,hashByValue_scannable 8 hsc]
   refine wpAny_bind (wpAny_pure ?_)
   refine ZgI (t2:=if plainKind (Value.str x tk)=true then t1 else { t1 with plain:=false }) (fun b s₁ Q' hq=>by cases b <;> first | exact wpAny_pure hq | exact wpAny_rule hq) ho hx hd (by omega) ?_ hel1 hs1 hn1 fun h' xs' b1 b2 b3=>wpAny_pure (fin h' xs' b1 b2 b3)
   rw [if_neg (show ¬ plainKind (Value.str x tk)=true from fun z=>by cases z)]
   exact ⟨SetTable.fits_plain_off hfit,by rw [← hT.led]; exact hl.1,fun z=>by cases z⟩
  ·rw [if_neg hpl]
   refine wpAny_bind (wpAny_pure ?_)
   simp only [if_true]
   exact ZgI (fun b s₁ Q' hq=>by cases b <;> first | exact wpAny_pure hq | exact wpAny_rule hq) ho hx hd (by omega) ⟨hfit,by rw [← hT.led]; exact hl.1,fun z=>absurd z hpl⟩ hel1 hs1 hn1 fun h' xs' b1 b2 b3=>wpAny_pure (fin h' xs' b1 b2 b3)
theorem ZlP {I:Addr} {fp wr:List Addr} {G:Array GenState→Array GenState→Prop} {n:Nat} {P:Nat→Value→Prop} {St:Nat→Shared→Prop} {R:Result→Shared→Prop} (W:WalksS prog w A.in1 I fp wr G n P St) {a:Addr} (ha:a ∉ fp) (val:Nat→Str) (hv:∀ i v,P i v→∃ t,v = .str (val i) t) (hn:n+1<scanBound)
  : ∀ (k i:Nat) (s:Shared) (xs:List Str),n - i=k→i≤n→St i s→SetT prog w s.heap a xs→(∀ y,y∈xs ↔ ∃ j,j<i∧y=val j)→xs.length≤i →
   (∀ s' xs',Moved (a :: wr) G s s'→SetT prog w s'.heap a xs'→(∀ y,y∈xs' ↔ ∃ j,j<n∧y=val j)→R (.ok (.ret .none)) s') →
   codeAny (model prog w) A (.builtin "set.update.loop" ⟨[.ref a, .ref I], []⟩) R s := by
 have haw:a ∉ wr:=fun z=>ha (W.sub _ z)
 have sub:∀ b∈wr,b∈a :: wr:=fun b z=>List.mem_cons_of_mem _ z
 have keepS:∀ {s s':Shared} {xs:List Str},Moved wr G s s'→SetT prog w s.heap a xs→SetT prog w s'.heap a xs:=by
  rintro s s' xs m ⟨o,es,ep,t,ho,r⟩
  exact ⟨o,es,ep,t,m.heap a o haw ho,r⟩
 intro k
 induction k with
 | zero =>
  intro i s xs hk hi hst hS hm _ hR
  obtain rfl:i=n:=by omega
  refine codeAny_builtin PyProof.Rows.F.entry_set_update_loop ?_
  rw [Around.under_plainId PyProof.Rows.F.plain_set_update_loop _]
  show wpAny _ A.in1 (pyNext (.ref I) >>= _) _ _ s
  exact wpAny_bind (W.done s _ _ hst fun s' m=>wpAny_pure (hR s' xs (m.mono sub) (keepS m hS) hm))
 | succ k ih =>
  intro i s xs hk hi hst hS hm hl hR
  have hlt:i<n:=by omega
  refine codeAny_builtin PyProof.Rows.F.entry_set_update_loop ?_
  rw [Around.under_plainId PyProof.Rows.F.plain_set_update_loop _]
  show wpAny _ A.in1 (pyNext (.ref I) >>= _) _ _ s
  refine wpAny_bind (W.item i s _ _ hlt hst fun v s1 hP hst1 m1 => ?_)
  obtain ⟨t,rfl⟩:=hv i v hP
  show wpAny _ A.in1 (holding [Value.str (val i) t] (setAdd a (.str (val i) t)) >>= _) _ _ s1
  refine wpAny_bind (wpAny_holding ?_)
  unfold setAdd
  refine wpAny_holding (wpAny_bind ((strKind prog w).pyHash (k:=val i) (strKind_is _ _ _ _) ?_))
  refine Zis (s:={ s1 with toks:=s1.toks+1 }) (show SetT prog w s1.heap a xs from keepS m1 hS) (by omega) fun h' xs' _ b1 b2 b3 b4 => ?_
  refine wpAny_pure ⟨plainId_quiet PyProof.Rows.F.plain_set_update_loop _,ih (i+1) _ xs' (by omega) hlt (W.frame _ s1 _ _ hst1 (Nat.le_succ _) fun b hb o e => ?_) b2 (fun y => ?_) (by omega) fun s2 xs2 m2 c1 c2 => ?_⟩
  ·rw [b1.2 b fun z=>ha (by rw [← z]; exact hb)]
   exact e
  ·rw [b3,hm]
   constructor
   ·rintro (⟨j,h1,h2⟩ | h)
    ·exact ⟨j,by omega,h2⟩
    ·exact ⟨i,by omega,h⟩
   ·rintro ⟨j,h1,h2⟩
    by_cases hj:j<i
    ·exact .inl ⟨j,hj,h2⟩
    ·have:j=i:=by omega
     exact .inr (by rw [h2,this])
  ·refine hR s2 xs2 (Moved.trans W.gtrans ((m1.mono sub).then_heap (Nat.le_succ _) fun b o hb e => ?_) m2) c1 c2
   rw [b1.2 b fun z=>hb (by rw [z]; exact List.mem_cons_self)]
   exact e
theorem ZkM (v : Value) {Q₁ : Value → Shared → Prop} (h : Q₁ (.ref s.heap.objs.size) { s with heap := s.heap.push { cls := .type "set", dict := none, data := .set #[] 0 (.fresh 0 0 (!byT w)) } }) :
  codeAny (model prog w) A (.call (.builtin "set.__new__") ⟨[.type "set", v], []⟩) (wants Q₁ E) s := by
 refine codeAny_of_tree ?_
 show wpAny _ A.in1 (do checkBuiltinCall "set.__new__" ⟨[.type "set", v], []⟩; again (.builtin "set.__new__" ⟨[.type "set", v], []⟩)) _ _ s
 refine wpAny_bind (wpAny_of_eq (PySem.F.newCall_set_1 v) (wpAny_pure ⟨plainId_quiet PySem.F.plain_set_new _,?_⟩))
 refine codeAny_builtin PySem.F.entry_set_new ?_
 rw [Around.under_plainId PySem.F.plain_set_new _]
 unfold Builtin.«set.__new__» Builtin.Frozenset.newClass
 have hsub:=sub_set_self
 obtain ⟨hp,g,d,tk,os⟩:=s
 dsimp only
 wp_walk
 refine wpAny_askSetting (wpAny_pure ?_)
 dsimp only
 simp only [newObj]
 exact wpAny_bind (wpAny_alloc (wpAny_pure (wpAny_pure h)))
end
end DL
end
section
namespace DL
open PySem PySem.Spec PyProof.Rows L2
section
variable {prog:Program} {w:World} {A:Around} {E:Value→Shared→Prop} {s:Shared} {a:Addr}
set_option maxHeartbeats 3200000 in
theorem Zji {l:Addr} {items:Array Value} {ss:List Str} {Q:Value→Shared→Prop} (hh:A.handled=none) (hl:s.heap.IsList l items) (hi:StrsAre items.toList ss) (hb:items.size+1<scanBound)
  (h:∀ (h':Heap) (tk:Nat) (xs:List Str),SetT prog w h' s.heap.objs.size xs→(∀ y,y∈xs ↔ y∈ss)→(∀ b o,b<s.heap.objs.size→s.heap.get? b=some o→h'.get? b=some o)→Q (.ref s.heap.objs.size) { s with heap:=h',toks:=tk }) :
  wpAny (model prog w) A (call (.type "set") [.ref l]) Q E s := by
 obtain ⟨c,tl,hmro⟩:=PySem.F.called_set.mro
 have hmade:=PySem.F.called_set.made
 have hsub:=PySem.F.called_set.sub
 have h1:=PySem.F.called_set.notType
 have h2:=PySem.F.called_set.canCreate
 have hct:=PySem.F.typeCall_set_1 (.ref l)
 obtain ⟨O, hO⟩ : ∃ O : Obj, O = { cls := .type "set", dict := none, data := .set #[] 0 (.fresh 0 0 (!byT w)) } := ⟨_, rfl⟩
 have hnew : codeAny (model prog w) A.in1 (.call (.builtin "set.__new__") ⟨[.type "set", .ref l], []⟩) (wants (fun obj s1 => obj = .ref s.heap.objs.size ∧ s1 = { s with heap := s.heap.push O }) E) s := ZkM (.ref l) ⟨rfl, by rw [hO]⟩
 refine wpAny_call (codeAny_of_tree ?_)
 show wpAny _ _ (callAny (.type "set") _) _ _ _
 refine wpAny_pure ⟨Code.quiet_builtin _ (by decide +kernel),codeAny_builtin PySem.F.entry_type_call ?_⟩
 rw [Around.under_plain (weight_type_call_type "set" [.ref l] []) rfl]
 repeat (any_goals (first | assumption | wp_step))
 refine codeAny_mono hnew fun r s1 hr => ?_
 cases r with
 | error e=>exact hr
 | ok fl =>
  cases fl with
  | ret obj =>
   obtain ⟨rfl,rfl⟩:=hr
   have hS:(s.heap.push O).get? s.heap.objs.size=some O:=Heap.get?_push_size _ (by rw [hO]; rfl)
   have hT : Shared.TypeIs { s with heap := s.heap.push O } (.ref s.heap.objs.size) "set" := ⟨_, hS, by rw [hO]⟩
   have hli:=PySem.F.called_set.init.lookup
   have hbi:=PySem.F.called_set.init.bind (.ref s.heap.objs.size)
   repeat (any_goals (first | assumption | wp_step))
   have hbody:wpAny (model prog w) A.in1.in1 (Builtin.«set.__init__» ⟨[.ref s.heap.objs.size,.ref l],[]⟩) (fun fin s'=>match fin with
     | .done f=>wants (fun r s2=>r = .none∧∃ h' tk xs,s2 = { s with heap:=h',toks:=tk }∧SetT prog w h' s.heap.objs.size xs∧(∀ y,y∈xs ↔ y∈ss)∧∀ b o,b<s.heap.objs.size→s.heap.get? b=some o→h'.get? b=some o) E (.ok f) s'
     | .again c'=>c'.quiet=true∧codeAny (model prog w) A.in1 c' (wants (fun r s2=>r = .none∧∃ h' tk xs,s2 = { s with heap:=h',toks:=tk }∧SetT prog w h' s.heap.objs.size xs∧(∀ y,y∈xs ↔ y∈ss)∧∀ b o,b<s.heap.objs.size→s.heap.get? b=some o→h'.get? b=some o) E) s')
     (fun e s'=>wants (fun r s2=>r = .none∧∃ h' tk xs,s2 = { s with heap:=h',toks:=tk }∧SetT prog w h' s.heap.objs.size xs∧(∀ y,y∈xs ↔ y∈ss)∧∀ b o,b<s.heap.objs.size→s.heap.get? b=some o→h'.get? b=some o) E (.error e) s') { s with heap:=s.heap.push O }:=by
    obtain ⟨ol,hol,hcl,nl,hdl⟩:=hl
    obtain ⟨ocls,odict,odata,oslots⟩:=ol
    simp only at hcl hdl
    subst hcl hdl hO
    obtain ⟨H1, hH1⟩ : ∃ H1, H1 = s.heap.push { cls := .type "set", dict := none, data := .set #[] 0 (.fresh 0 0 (!byT w)) } := ⟨_, rfl⟩
    rw [← hH1] at hS hT ⊢
    have hsz1:H1.objs.size=s.heap.objs.size+1:=by rw [hH1,Heap.size_push]
    have hlS:l<s.heap.objs.size:=Heap.lt_size hol
    have hol' : H1.get? l = some { cls := .type "list", dict := odict, data := .seq items nl, slots := oslots } := by rw [hH1]; exact Heap.get?_push_of_some _ hol
    have hl1:H1.IsList l items:=⟨_,hol',rfl,nl,rfl⟩
    have hk1:∀ b o,s.heap.get? b=some o→H1.get? b=some o:=fun b o e=>by rw [hH1]; exact Heap.get?_push_of_some _ e
    have hsls:=PySem.F.sub_list_set
    have hslf:=PySem.F.sub_list_frozenset
    have hne : (Value.type "list" == Value.type "dict") = false := by decide
    unfold Builtin.«set.__init__» noKeywords Builtin.Frozenset.updateFrom
    generalize hPI:pyIter=PI
    wp_walk
    subst hPI
    refine wpAny_pyIter_list hl1 (wpAny_bind (wpAny_runValue ?_))
    have hh3:A.in1.in1.in1.handled=none:=by simp [hh]
    have hI:l≠H1.objs.size:=Nat.ne_of_lt (by rw [hsz1]; exact Nat.lt_succ_of_lt hlS)
    have hf:s.heap.objs.size ∉ [H1.objs.size,l]:=by
     simp only [List.mem_cons,List.not_mem_nil,or_false,not_or]
     exact ⟨Nat.ne_of_lt (by rw [hsz1]; exact Nat.lt_succ_self _),Nat.ne_of_gt hlS⟩
    have hv : ∀ (i : Nat) (v : Value), items[i]? = some v → ∃ t, v = .str (ss.getD i "") t := fun i v e => by
     obtain ⟨y,t,e1,e2⟩:=StrsAre.item hi i v (by rw [Array.getElem?_toList]; exact e)
     exact ⟨t,by rw [e1,List.getD_eq_getElem?_getD,e2]; rfl⟩
    have hlen:ss.length=items.size:=by
     have:=hi.length
     simpa using this.symm
    refine ZlP ((Walks.list hh3 _ l hI items).toS) hf (fun i => ss.getD i "") hv hb (items.size - 0) 0 _ [] (by omega) (Nat.zero_le _) ⟨⟨_, Heap.get?_push_size _ rfl, rfl, rfl⟩, hl1.push _⟩ ?_ (fun y => ⟨(fun z => by cases z), fun ⟨j, z, _⟩ => by omega⟩) (Nat.le_refl _) fun s' xs m hS' hm => ?_
    ·exact ⟨_,#[],0,_,Heap.get?_push_of_some _ hS,⟨rfl,rfl,rfl⟩,rfl,⟨by rfl,rfl,fun _=>rfl⟩,fun e he=>by simp at he,.nil,List.nodup_nil,by decide⟩
    ·obtain ⟨h',g',d',tk',os'⟩:=s'
     have eg:g'=s.gens:=m.gens
     have ed:d'=s.drawn:=m.drawn
     have eo:os'=s.os:=m.os
     subst eg ed eo
     show wpAny _ _ _ _ _ _
     refine wpAny_pure ?_
     show wpAny _ _ (ret Value.none) _ _ _
     refine wpAny_pure ⟨rfl,h',tk',xs,rfl,hS',fun y => ?_,fun b o hb' e => ?_⟩
     ·rw [hm]
      constructor
      ·rintro ⟨j,hj,rfl⟩
       rw [List.getD_eq_getElem?_getD,List.getElem?_eq_getElem (by omega)]
       exact List.getElem_mem _
      ·intro hy
       obtain ⟨j,hj,rfl⟩:=List.getElem_of_mem hy
       exact ⟨j,by omega,by rw [List.getD_eq_getElem?_getD,List.getElem?_eq_getElem hj]; rfl⟩
     ·refine m.heap b o ?_ (Heap.get?_push_of_some _ (hk1 b o e))
      simp only [List.mem_cons,List.not_mem_nil,or_false,not_or]
      exact ⟨Nat.ne_of_lt hb',Nat.ne_of_lt (by rw [hsz1]; exact Nat.lt_succ_of_lt hb')⟩
   refine codeAny_mono (codeAny_call_builtin PySem.F.called_set.init.plain PySem.F.entry_set_init (check_set_init_1 hT hbody)) fun r2 s2 hr2 => ?_
   cases r2 with
   | error e=>exact hr2
   | ok fl2 =>
    cases fl2 with
    | ret r =>
     obtain ⟨rfl,h',tk,xs,rfl,g1,g2,g3⟩:=hr2
     repeat (any_goals (first | assumption | wp_step))
     exact h _ _ xs g1 g2 g3
    | _=>exact hr2.elim
  | _=>exact hr.elim
end
end DL
end
section
namespace DL
open PySem PySem.Spec PyProof.Rows L2
namespace SF
theorem slotN : Slot "set_iterator" "__next__" "set_iterator.__next__" :=
 .of (owner := "set_iterator") (n := "__next__") (by rw [typeLookup_type, builtinLookup_eq_fast]; kernel_rfl) (by decide +kernel) (by decide +kernel)
  (by decide +kernel) (by first | exact .inl (by decide +kernel) | exact .inr (by decide +kernel)) (by rw [isSubtype_type]; kernel_rfl)
theorem entryN : entryFor table "set_iterator.__next__" = some Builtin.«set_iterator.__next__» := entryFor_of_tree (by kernel_rfl)
theorem Zf2:Manifest.owners.lookup (String.ofList ['r','o','t','a','r','e','t','i','_','t','e','s'].reverse)=some Manifest.sig_set_iterator:=by kernel_rfl
theorem argsN (v : Value) : argsOk "set_iterator.__next__" ⟨[v], []⟩ := by
 unfold argsOk
 rw [signature?_of (id := "set_iterator.__next__") (n := ['_', '_', 't', 'x', 'e', 'n', '_', '_']) (o := ['r', 'o', 't', 'a', 'r', 'e', 't', 'i', '_', 't', 'e', 's']) (by kernel_rfl) Zf2]
 kernel_rfl
theorem entryI : entryFor table "set.__iter__" = some Builtin.«frozenset.__iter__» := entryFor_alias (id' := "frozenset.__iter__") (by kernel_rfl) rfl (by decide +kernel) (by kernel_rfl)
end SF
theorem Zjg {M:Model} {A:Around} {E:Value→Shared→Prop} {s:Shared} {src:Source} {n:Nat} {Q:Nat→Shared→Prop} (hn:n≠0) (h:∀ i d,i<n→Q i { s with drawn:=d }):wpAny M A (choose src n) Q E s :=
 fun _ _ _=>⟨hn,h _ _ (Nat.mod_lt _ (Nat.pos_of_ne_zero hn))⟩
theorem Zcq {α:Type}:∀ (xs:List α) (i:Nat) (h:i<xs.length),(xs[i] :: xs.eraseIdx i).Perm xs
 | x :: xs,0,_ => .refl _
 | x :: xs,i+1,h=>by
  have hi:i<xs.length:=by simpa using h
  have ih:=Zcq xs i hi
  show (xs[i]'hi :: x :: xs.eraseIdx i).Perm (x :: xs)
  exact (List.Perm.swap _ _ _).trans (ih.cons x)
theorem Zgn {α:Type} {M:Model} {A:Around} {E:Value→Shared→Prop}:∀ (n:Nat) (xs:List α) (s:Shared) {Q:List α→Shared→Prop},xs.length=n→(∀ ys d,ys.Perm xs→Q ys { s with drawn:=d })→wpAny M A (drawOrder n xs) Q E s
 | 0,xs,s,Q,hl,h=>by
  have e:xs=[]:=List.length_eq_zero_iff.mp hl
  subst e
  have e2:s = { s with drawn:=s.drawn }:=by cases s; rfl
  unfold drawOrder
  refine wpAny_pure ?_
  rw [e2]
  exact h [] _ (.refl _)
 | n+1,[],s,Q,hl,h=>by cases hl
 | n+1,x :: xs,s,Q,hl,h=>by
  unfold drawOrder
  refine wpAny_bind (Zjg (by simp) fun i d hi => ?_)
  rw [List.getElem?_eq_getElem hi]
  dsimp only
  refine wpAny_bind (Zgn n ((x :: xs).eraseIdx i) _ (by rw [List.length_eraseIdx_of_lt hi,hl]; rfl) fun ys d' p=>wpAny_pure ?_)
  refine h _ d' ((p.cons _).trans ?_)
  exact Zcq _ i hi
theorem Zdv {α:Type} (next:Nat→Nat):∀ (f k:Nat) (left:List α) (out:Array α),left.length=f→(pickOrder.go next f k left out).toList.Perm (out.toList++left)
 | 0,k,left,out,hl=>by
  have e:left=[]:=List.length_eq_zero_iff.mp hl
  subst e
  unfold pickOrder.go
  rw [List.append_nil]
 | f+1,k,left,out,hl=>by
  have hi:next k % left.length<left.length:=Nat.mod_lt _ (by omega)
  unfold pickOrder.go
  rw [List.getElem?_eq_getElem hi]
  dsimp only
  refine (Zdv next f (k+1) _ _ (by rw [List.length_eraseIdx_of_lt hi,hl]; rfl)).trans ?_
  rw [Array.toList_push,List.append_assoc]
  exact (Zcq left _ hi).append_left _
theorem ZmS {α:Type} (next:Nat→Nat) (xs:Array α):(pickOrder next xs).toList.Perm xs.toList:=by
 unfold pickOrder
 have:=Zdv next xs.size 0 xs.toList #[] (by simp)
 simpa using this
section
variable {prog:Program} {w:World} {A:Around} {E:Value→Shared→Prop} {s:Shared} {a:Addr}
theorem ZbA {Q:Bool→Shared→Prop} (h:Q (byT w) s):wpAny (model prog w) A setsByText Q E s:=by
 unfold setsByText
 exact wpAny_bind (wpAny_askSetting (wpAny_pure h))
structure ItS (h:Heap) (I a:Addr) (o:Obj) (n ep:Nat) (first:Value) (i:Nat):Prop where
 it : ∃ oI, h.get? I = some oI ∧ oI.cls = .type "set_iterator" ∧ oI.data = .fields #[first, .int i 0, .ref a, .int n 0, .int ep 0]
 st:h.get? a=some o
theorem ItS.typeIs {o : Obj} {n ep i : Nat} {first : Value} {I : Addr} (x : ItS s.heap I a o n ep first i) : s.TypeIs (.ref I) "set_iterator" := by
 obtain ⟨⟨oI,h1,h2,_⟩,_⟩:=x
 exact ⟨oI,h1,h2⟩
theorem Zcp {α : Type} {Q' : α → Shared → Prop} {E' : Value → Shared → Prop} (hh : A.handled = none) (h : ∀ o1 o2 : Obj, o2.cls = .type "StopIteration" → ((s.heap.push o1).push o2).get? (s.heap.push o1).objs.size = some o2 → E' (.ref (s.heap.push o1).objs.size) { s with heap := (s.heap.push o1).push o2 }) :
  wpAny (model prog w) A.in1 (newExc (.type "StopIteration") [] >>= fun e => (raiseNew e : Sem α)) Q' E' s := by
 refine wpAny_bind ?_
 simp only [newExc,newTuple]
 refine wpAny_bind (wpAny_newObj_type ?_ (by size_fits))
 refine wpAny_bind (m:=firstArgMember _ _) (wpAny_of_eq (a:=Value.none) (by first | rfl | (simp only [firstArgMember]; rfl)) ?_)
 refine wpAny_newObj_type ?_ (by size_fits)
 simp only [raiseNew]
 refine wpAny_bind (wpAny_handled ?_)
 rw [show A.in1.handled=none from hh]
 refine wpAny_bind (wpAny_pure (wpAny_throw ?_))
 exact h _ _ rfl (Heap.get?_push_size _ rfl)
theorem next_item {I:Addr} {o:Obj} {es:Array (Int×Value)} {ep i:Nat} {t:SetTable} {first first' x:Value} {Q:Option Value→Shared→Prop} (X:ItS s.heap I a o es.size ep first i) (hd:o.data = .set es ep t) (hf:t.fits es.size=true) (hIa:I≠a)
  (hstep:(∃ (slot j:Nat),first = .int slot 0∧first' = .int j 0∧∀ (A:Around) (E:Value→Shared→Prop) (Q:Option (Value×Nat)→Shared→Prop),Q (some (x,j)) s→wpAny (model prog w) A (setNext a slot i ep) Q E s) ∨
   (∃ (T:Addr) (oT:Obj) (ps:Array Value) (m place:Nat) (hx:Int),first = .ref T∧first' = .ref T∧s.heap.get? T=some oT∧oT.data = .seq ps m∧ps[i]?=some (.int place 0)∧es[place]?=some (hx,x)))
  (h:∀ h',Heap.SameBut I s.heap h'→ItS h' I a o es.size ep first' (i+1)→Q (some x) { s with heap:=h' }) :
  wpAny (model prog w) A (pyNext (.ref I)) Q E s:=by
 obtain ⟨⟨oI,hI,hc,hdI⟩,ha⟩:=id X
 have fin:∀ {h':Heap},Heap.SameBut I s.heap h'→h'.get? I=some { oI with data:=.fields #[first',.int ((i:Int)+1) 0,.ref a,.int es.size 0,.int ep 0] }→ItS h' I a o es.size ep first' (i+1):=by
  intro h' sb e
  exact ⟨⟨_,e,hc,rfl⟩,(sb.2 a (Ne.symm hIa)).trans ha⟩
 unfold pyNext
 refine wpAny_bind (wpAny_attempt (wpAny_callSpecial?_slot (name := Str.ofString "__next__") X.typeIs SF.slotN (wpAny_call_entry SF.slotN X.typeIs SF.entryN ?_ (SF.argsN _))))
 unfold Builtin.«set_iterator.__next__»
 refine wpAny_bind (wpAny_pure (wpAny_bind (wpAny_fieldsOf hI hdI ?_)))
 dsimp only
 refine wpAny_bind (wpAny_setEntries_of ha hd hf ?_)
 rw [if_neg (by simp)]
 rcases hstep with ⟨slot,j,rfl,rfl,hn⟩ | ⟨T,oT,ps,m,place,hx,rfl,rfl,hT,hdT,hp,he⟩
 ·dsimp only
  simp only [Int.toNat_natCast]
  refine wpAny_bind (hn _ _ _ ?_)
  dsimp only
  refine wpAny_bind (wpAny_setField hI hdI (by simp) ?_)
  have h1:=Heap.get?_update_self (Obj.mapFields (·.setIfInBounds 0 (rawInt (j:Int)))) hI (Obj.isFreed_of_fields (Obj.data_mapFields hdI _))
  have d1:=Obj.data_mapFields hdI (·.setIfInBounds 0 (rawInt (j:Int)))
  refine wpAny_bind (wpAny_setField (s:={ s with heap:=s.heap.update I (Obj.mapFields (·.setIfInBounds 0 (rawInt (j:Int)))) }) h1 d1 (by simp) ?_)
  have h2:=Heap.get?_update_self (Obj.mapFields (·.setIfInBounds 1 (rawInt ((i:Int)+1)))) h1 (Obj.isFreed_of_fields (Obj.data_mapFields d1 _))
  have d2:=Obj.data_mapFields d1 (·.setIfInBounds 1 (rawInt ((i:Int)+1)))
  have sb:=(Heap.SameBut.update s.heap I (Obj.mapFields (·.setIfInBounds 0 (rawInt (j:Int))))).trans (Heap.SameBut.update _ I (Obj.mapFields (·.setIfInBounds 1 (rawInt ((i:Int)+1)))))
  refine wpAny_pure ⟨_,rfl,wpAny_pure (h _ sb ⟨⟨_,h2,?_,?_⟩,(sb.2 a (Ne.symm hIa)).trans ha⟩)⟩
  ·rw [Obj.cls_mapFields,Obj.cls_mapFields]; exact hc
  ·rw [d2]; simp [rawInt]
 ·dsimp only
  simp only [Int.toNat_natCast]
  unfold seqItems?
  dsimp only
  refine wpAny_bind (wpAny_bind (wpAny_load hT ?_))
  rw [hdT]
  refine wpAny_pure ?_
  dsimp only
  rw [hp]
  dsimp only
  simp only [Int.toNat_natCast]
  unfold setNextDrawn
  refine wpAny_bind (wpAny_bind (wpAny_setState_of ha hd hf ?_))
  dsimp only
  rw [if_neg (by simp)]
  rw [he]
  refine wpAny_pure ?_
  refine wpAny_bind (wpAny_setField hI hdI (by simp) ?_)
  have h2:=Heap.get?_update_self (Obj.mapFields (·.setIfInBounds 1 (rawInt ((i:Int)+1)))) hI (Obj.isFreed_of_fields (Obj.data_mapFields hdI _))
  have d2:=Obj.data_mapFields hdI (·.setIfInBounds 1 (rawInt ((i:Int)+1)))
  have sb:=Heap.SameBut.update s.heap I (Obj.mapFields (·.setIfInBounds 1 (rawInt ((i:Int)+1))))
  refine wpAny_pure ⟨_,rfl,wpAny_pure (h _ sb ⟨⟨_,h2,?_,?_⟩,(sb.2 a (Ne.symm hIa)).trans ha⟩)⟩
  ·rw [Obj.cls_mapFields]; exact hc
  ·rw [d2]; simp [rawInt]
theorem next_end {I:Addr} {o:Obj} {es:Array (Int×Value)} {ep i:Nat} {t:SetTable} {first:Value} {Q:Option Value→Shared→Prop} (hh:A.handled=none) (X:ItS s.heap I a o es.size ep first i) (hd:o.data = .set es ep t) (hf:t.fits es.size=true)
  (hstep:(∃ (slot:Nat),first = .int slot 0∧∀ (A:Around) (E:Value→Shared→Prop) (Q:Option (Value×Nat)→Shared→Prop),Q none s→wpAny (model prog w) A (setNext a slot i ep) Q E s) ∨
   (∃ (T:Addr) (oT:Obj) (ps:Array Value) (m:Nat),first = .ref T∧s.heap.get? T=some oT∧oT.data = .seq ps m∧ps[i]?=none))
  (h:∀ h',Heap.ExtBut I s.heap h'→Q none { s with heap:=h' }) :
  wpAny (model prog w) A (pyNext (.ref I)) Q E s:=by
 obtain ⟨⟨oI,hI,hc,hdI⟩,ha⟩:=id X
 unfold pyNext
 refine wpAny_bind (wpAny_attempt (wpAny_callSpecial?_slot (name := Str.ofString "__next__") X.typeIs SF.slotN (wpAny_call_entry SF.slotN X.typeIs SF.entryN ?_ (SF.argsN _))))
 unfold Builtin.«set_iterator.__next__»
 refine wpAny_bind (wpAny_pure (wpAny_bind (wpAny_fieldsOf hI hdI ?_)))
 dsimp only
 refine wpAny_bind (wpAny_setEntries_of ha hd hf ?_)
 rw [if_neg (by simp)]
 rcases hstep with ⟨slot,rfl,hn⟩ | ⟨T,oT,ps,m,rfl,hT,hdT,hp⟩
 ·dsimp only
  simp only [Int.toNat_natCast]
  refine wpAny_bind (hn _ _ _ ?_)
  dsimp only
  refine wpAny_bind (wpAny_setField hI hdI (by simp) ?_)
  refine Zcp (s:={ s with heap:=s.heap.update I (Obj.mapFields (·.setIfInBounds 2 Value.none)) }) hh fun o1 o2 c2 g2 => ?_
  refine wpAny_bind (wpAny_isInstance (T := "StopIteration") (b := true) ⟨_, g2, c2⟩ isSubtype_stop ?_)
  exact wpAny_pure (h _ (((Heap.SameBut.update ..).extBut.push _).push _))
 ·dsimp only
  simp only [Int.toNat_natCast]
  unfold seqItems?
  dsimp only
  refine wpAny_bind (wpAny_bind (wpAny_load hT ?_))
  rw [hdT]
  refine wpAny_pure ?_
  dsimp only
  rw [hp]
  dsimp only
  refine wpAny_bind (wpAny_setField hI hdI (by simp) ?_)
  have h1:=Heap.get?_update_self (Obj.mapFields (·.setIfInBounds 0 (rawInt 0))) hI (Obj.isFreed_of_fields (Obj.data_mapFields hdI _))
  have d1:=Obj.data_mapFields hdI (·.setIfInBounds 0 (rawInt 0))
  refine wpAny_bind (wpAny_setField (s:={ s with heap:=s.heap.update I (Obj.mapFields (·.setIfInBounds 0 (rawInt 0))) }) h1 d1 (by simp) ?_)
  refine Zcp (s:={ s with heap:=(s.heap.update I (Obj.mapFields (·.setIfInBounds 0 (rawInt 0)))).update I (Obj.mapFields (·.setIfInBounds 2 Value.none)) }) hh fun o1 o2 c2 g2 => ?_
  refine wpAny_bind (wpAny_isInstance (T := "StopIteration") (b := true) ⟨_, g2, c2⟩ isSubtype_stop ?_)
  exact wpAny_pure (h _ ((((Heap.SameBut.update ..).trans (Heap.SameBut.update ..)).extBut.push _).push _))
end
end DL
end
section
namespace DL
open PySem PySem.Spec PyProof.Rows L2
namespace SF
theorem slotJ : Slot "set_iterator" "__iter__" "set_iterator.__iter__" :=
 .of (owner := "set_iterator") (n := "__iter__") (by rw [typeLookup_type, builtinLookup_eq_fast]; kernel_rfl) (by decide +kernel) (by decide +kernel)
  (by decide +kernel) (by first | exact .inl (by decide +kernel) | exact .inr (by decide +kernel)) (by rw [isSubtype_type]; kernel_rfl)
theorem entryJ : entryFor table "set_iterator.__iter__" = some Builtin.«dict_keyiterator.__iter__» := entryFor_alias (id' := "dict_keyiterator.__iter__") (by kernel_rfl) rfl (by decide +kernel) (by kernel_rfl)
theorem argsJ (v : Value) : argsOk "set_iterator.__iter__" ⟨[v], []⟩ := by
 unfold argsOk
 rw [signature?_of (id := "set_iterator.__iter__") (n := ['_', '_', 'r', 'e', 't', 'i', '_', '_']) (o := ['r', 'o', 't', 'a', 'r', 'e', 't', 'i', '_', 't', 'e', 's']) (by kernel_rfl) Zf2]
 kernel_rfl
end SF
section
variable {prog:Program} {w:World} {A:Around} {E:Value→Shared→Prop} {s:Shared} {a:Addr}
noncomputable def ZlH (prog:Program) (w:World) (s:Shared) (a:Addr) (es:Array (Int×Value)) (ep i:Nat) (first first' x:Value):Prop :=
 (∃ (slot j:Nat),first = .int slot 0∧first' = .int j 0∧∀ (A:Around) (E:Value→Shared→Prop) (Q:Option (Value×Nat)→Shared→Prop),Q (some (x,j)) s→wpAny (model prog w) A (setNext a slot i ep) Q E s) ∨
   (∃ (T:Addr) (oT:Obj) (ps:Array Value) (m place:Nat) (hx:Int),first = .ref T∧first' = .ref T∧s.heap.get? T=some oT∧oT.data = .seq ps m∧ps[i]?=some (.int place 0)∧es[place]?=some (hx,x))
noncomputable def ZjA (prog:Program) (w:World) (s:Shared) (a:Addr) (ep i:Nat) (first:Value):Prop :=
 (∃ (slot:Nat),first = .int slot 0∧∀ (A:Around) (E:Value→Shared→Prop) (Q:Option (Value×Nat)→Shared→Prop),Q none s→wpAny (model prog w) A (setNext a slot i ep) Q E s) ∨
   (∃ (T:Addr) (oT:Obj) (ps:Array Value) (m:Nat),first = .ref T∧s.heap.get? T=some oT∧oT.data = .seq ps m∧ps[i]?=none)
theorem Zb9 {I:Addr} {o:Obj} {es:Array (Int×Value)} {ep:Nat} {t:SetTable} {fp:List Addr} {P:Nat→Value→Prop} {F:Nat→Value→Heap→Prop} (hh:A.handled=none) (hd:o.data = .set es ep t) (hf:t.fits es.size=true) (hIa:I≠a) (hI:I∈fp) (ha:a∈fp)
  (hF:∀ i f h h',F i f h→(∀ b∈fp,b≠I→∀ o,h.get? b=some o→h'.get? b=some o)→F i f h')
  (hs:∀ i (s:Shared) f,i<es.size→s.heap.get? a=some o→F i f s.heap→∃ x f',P i x∧ZlH prog w s a es ep i f f' x∧F (i+1) f' s.heap)
  (he:∀ (s:Shared) f,s.heap.get? a=some o→F es.size f s.heap→ZjA prog w s a ep es.size f) :
  WalksS prog w A I fp [I] (fun x y=>y=x) es.size P (fun i s => ∃ f,ItS s.heap I a o es.size ep f i∧F i f s.heap) where
 sub:=fun b hb=>by rw [List.mem_singleton.mp hb]; exact hI
 grefl:=fun _=>rfl
 gtrans:=fun _ _ _ h1 h2=>h2.trans h1
 frame:=fun i s h' tk st _ hk=>by
  obtain ⟨f,X,hf'⟩:=st
  obtain ⟨⟨oI,h1,h2,h3⟩,h4⟩:=X
  exact ⟨f,⟨⟨oI,hk I hI _ h1,h2,h3⟩,hk a ha _ h4⟩,hF _ _ _ _ hf' fun b hb _ o e=>hk b hb o e⟩
 item:=fun i s Q E hi st hQ=>by
  obtain ⟨f,X,hf'⟩:=st
  obtain ⟨x,f',hP,hst,hn⟩:=hs i s f hi X.st hf'
  refine next_item X hd hf hIa hst fun h' sb X'=>hQ x _ hP ⟨f',X',hF _ _ _ _ hn fun b _ hb o e=>(sb.2 b hb).trans e⟩ ⟨fun b o hb e => ?_,rfl,rfl,rfl,Nat.le_refl _⟩
  exact (sb.2 b fun z=>hb (List.mem_singleton.mpr z)).trans e
 done:=fun s Q E st hQ=>by
  obtain ⟨f,X,hf'⟩:=st
  refine next_end hh X hd hf (he s f X.st hf') fun h' xb=>hQ _ ⟨fun b o hb e=>xb b o (fun z=>hb (List.mem_singleton.mpr z)) e,rfl,rfl,rfl,Nat.le_refl _⟩
 self:=fun i s Q E st hQ=>by
  obtain ⟨f,X,_⟩:=st
  refine wpAny_pyIter_slot X.typeIs SF.slotJ (wpAny_call_entry SF.slotJ X.typeIs SF.entryJ ?_ (SF.argsJ _))
  show wpAny _ _ (ret (.ref I)) _ _ s
  exact wpAny_pure ⟨_, rfl, "set_iterator", _, X.typeIs, SF.slotN.lookup, hQ⟩
theorem Zea {o:Obj} {es:Array (Int×Value)} {ep:Nat} {t:SetTable} {slot i:Nat} {Q:Option (Value×Nat)→Shared→Prop} (hb:byT w=true) (ho:s.heap.get? a=some o) (hd:o.data = .set es ep t) (hf:t.fits es.size=true)
  (h:Q (((pickOrder (w.params.setOrder a ep) es)[i]?).map fun e=>(e.2,slot)) s):wpAny (model prog w) A (setNext a slot i ep) Q E s:=by
 unfold setNext
 refine wpAny_bind (wpAny_setState_of ho hd hf ?_)
 dsimp only
 refine wpAny_bind (ZbA ?_)
 rw [hb]
 rw [if_pos rfl,if_neg (by simp)]
 refine wpAny_bind ?_
 unfold setWalk
 refine wpAny_bind (wpAny_setState_of ho hd hf ?_)
 dsimp only
 refine wpAny_bind (ZbA ?_)
 rw [hb,if_pos rfl]
 exact wpAny_bind (wpAny_askSetting (wpAny_pure (wpAny_pure h)))
theorem Zez (p j:Nat):SetTable.below #[p] j=if p<j then 1 else 0:=by
 show SetTable.below.go #[p] j 1 0 1=_
 unfold SetTable.below.go
 rw [if_pos (by omega)]
 show (if (#[p]:Array Nat).getD 0 j<j then SetTable.below.go #[p] j 0 1 1 else SetTable.below.go #[p] j 0 0 0)=_
 show (if p<j then _ else _)=_
 split <;> rfl
theorem ZdK {o:Obj} {es:Array (Int×Value)} {ep:Nat} {t:SetTable} {slot i:Nat} {Q:Option (Value×Nat)→Shared→Prop} (hb:byT w=false) (ho:s.heap.get? a=some o) (hd:o.data = .set es ep t) (hT:TabT w t es.size) (h1:es.size≤1)
  (h:Q (match es[SetTable.below t.place slot]?,t.place[SetTable.below t.place slot]? with | some (_,x),some j=>some (x,j+1) | _,_=>none) s):wpAny (model prog w) A (setNext a slot i ep) Q E s:=by
 unfold setNext
 refine wpAny_bind (wpAny_setState_of ho hd hT.fits ?_)
 dsimp only
 refine wpAny_bind (ZbA ?_)
 rw [hb]
 refine wpAny_ite_split (fun z=>absurd z (by decide)) (fun _ => ?_)
 refine wpAny_ite_split (fun z => ?_) (fun _ => ?_)
 ·exfalso
  have z':(!t.plain && decide (es.size > 1))=true:=z
  rw [Bool.and_eq_true,decide_eq_true_eq] at z'
  omega
 ·have hl:t.led=true:=by rw [hT.led,hb]; rfl
  refine wpAny_bind ?_
  refine wpAny_of_eq (a:=()) ?_ (wpAny_pure h)
  show (if (!t.led && !es.isEmpty) = true then unsupported "set:maker-not-led" else pure ()) = _
  rw [hl]
  rfl
end
end DL
end
section
set_option maxHeartbeats 1000000
namespace DL
open PySem PySem.Spec PyProof.Rows L2
theorem map_getD {α β:Type} (f:α→β) (b:β) (es:List α):(List.range es.length).map (fun i=>((es[i]?).map f).getD b)=es.map f:=by
 refine List.ext_getElem (by simp) fun i h1 h2 => ?_
 have:i<es.length:=by simpa using h1
 simp [List.getElem?_eq_getElem this]
theorem Znh {L:List Value} {acc:Array Value} (h:ItemsOf (fun i v=>L[i]?=some v) acc L.length):acc.toList=L:=by
 obtain ⟨h1,h2⟩:=h
 refine List.ext_getElem? fun i => ?_
 rw [Array.getElem?_toList]
 by_cases hi:i<acc.size
 ·rw [Array.getElem?_eq_getElem hi]
  exact (h2 i _ (Array.getElem?_eq_getElem hi)).symm
 ·rw [Array.getElem?_eq_none (by omega),List.getElem?_eq_none (by omega)]
section
variable {prog:Program} {w:World} {A:Around} {E:Value→Shared→Prop} {s:Shared} {a:Addr}
theorem Znr {xs:List Str} {Q:Value→Shared→Prop} (hS:SetT prog w s.heap a xs)
  (h:∀ (h':Heap) (d:Drawn) (I:Addr) (fp:List Addr) (St:Nat→Shared→Prop) (L:List Value) (ys:List Str),(∀ b o,s.heap.get? b=some o→h'.get? b=some o)→s.heap.objs.size≤I→(∀ b∈fp,b=a∨s.heap.objs.size≤b) →
   (∀ A':Around,A'.handled=none→WalksS prog w A' I fp [I] (fun x y=>y=x) L.length (fun i v=>L[i]?=some v) St)→St 0 { s with heap:=h',drawn:=d }→StrsAre L ys→ys.Perm xs→Q (.ref I) { s with heap:=h',drawn:=d }) :
  wpAny (model prog w) A (pyIter (.ref a)) Q E s:=by
 obtain ⟨o,es,ep,t,ho,hx,hd,hT,hel,hs,hn,hb⟩:=id hS
 have haS:a<s.heap.objs.size:=Heap.lt_size ho
 have hty : s.TypeIs (.ref a) "set" := ⟨_, ho, hx.1⟩
 refine wpAny_pyIter_slot hty PySem.F.slot_set_iter (wpAny_call_entry PySem.F.slot_set_iter hty SF.entryI ?_ (PySem.F.args_set_iter_1 _))
 unfold Builtin.«frozenset.__iter__»
 refine wpAny_bind (m:=Builtin.Frozenset.slot0 _ _) (wpAny_pure ?_)
 dsimp only
 unfold Builtin.Frozenset.sizeOf
 refine wpAny_bind (wpAny_bind (wpAny_setEntries_of ho hd hT.fits (wpAny_pure ?_)))
 refine wpAny_bind (m:=setDrawn a) (wpAny_bind (wpAny_setState_of ho hd hT.fits ?_))
 dsimp only
 refine wpAny_bind (ZbA (wpAny_pure ?_))
 have hz:es.toList.length=es.size:=Array.length_toList
 refine wpAny_ite_split (fun hc => ?_) (fun hc => ?_)
 ·-- drawn
  refine wpAny_bind (Zgn es.size (List.range es.size) s (by simp) fun q d hq => ?_)
  refine wpAny_bind (wpAny_newTuple ?_ (by
   rw [List.length_map,hq.length_eq,List.length_range]
   exact fits_of_scanBound hb))
  have hqb:∀ (i p:Nat),q[i]?=some p→p<es.size:=fun i p e=>by
   have:=hq.mem_iff.mp (List.mem_of_getElem? e)
   simpa using this
  generalize hTo : ({ cls := .type "tuple", data := .seq (q.map fun (i : Nat) => rawInt (i : Int)).toArray } : Obj) = oT
  refine wpAny_bind (m:=setEpoch a) (wpAny_bind (wpAny_setState_of (s:={ s with heap:=s.heap.push oT,drawn:=d }) (Heap.get?_push_of_some _ ho) hd hT.fits (wpAny_pure ?_)))
  refine wpAny_bind (wpAny_newObj_type (wpAny_pure ⟨_, rfl, "set_iterator", _, ⟨_, Heap.get?_push_size _ rfl, rfl⟩, SF.slotN.lookup, ?_⟩))
  have hTg:(s.heap.push oT).get? s.heap.objs.size=some oT:=Heap.get?_push_size _ (by rw [← hTo]; rfl)
  have hsz:(s.heap.push oT).objs.size=s.heap.objs.size+1:=Heap.size_push ..
  have hIT:(s.heap.push oT).objs.size≠s.heap.objs.size:=by omega
  have hIa:(s.heap.push oT).objs.size≠a:=Nat.ne_of_gt (by rw [hsz]; exact Nat.lt_succ_of_lt haS)
  have hL:(q.map fun i=>((es.toList[i]?).map (·.2)).getD .none).Perm (es.toList.map (·.2)):=by
   refine (hq.map _).trans (List.Perm.of_eq ?_)
   rw [← hz]
   exact map_getD (·.2) .none es.toList
  obtain ⟨ys,hys,hp⟩:=Za1 hL.symm hs
  have hlen:(q.map fun i=>((es.toList[i]?).map (·.2)).getD .none).length=es.size:=by rw [List.length_map,hq.length_eq,List.length_range]
  refine h _ d _ [(s.heap.push oT).objs.size,s.heap.objs.size,a] (fun i s' => ∃ f,ItS s'.heap (s.heap.push oT).objs.size a o es.size ep f i∧(f = .ref s.heap.objs.size∧s'.heap.get? s.heap.objs.size=some oT)) _ ys (fun b o e=>Heap.get?_push_of_some _ (Heap.get?_push_of_some _ e)) (show s.heap.objs.size≤(s.heap.push oT).objs.size by rw [hsz]; exact Nat.le_succ _) (fun b hb' => ?_) (fun A' hA' => ?_) ?_ hys hp.symm
  ·simp only [List.mem_cons,List.not_mem_nil,or_false] at hb'
   rcases hb' with rfl | rfl | rfl
   ·right; omega
   ·right; omega
   ·left; rfl
  ·rw [hlen]
   refine Zb9 (F:=fun i f h'=>f = .ref s.heap.objs.size∧h'.get? s.heap.objs.size=some oT) hA' hd hT.fits hIa (by simp) (by simp) (fun i f h1 h2 hF hk=>⟨hF.1,hk _ (by simp) (Ne.symm hIT) _ hF.2⟩) (fun i s' f hi _ hF => ?_) (fun s' f _ hF => ?_)
   ·have hiq:i<q.length:=by rw [hq.length_eq,List.length_range]; exact hi
    have e1:q[i]?=some q[i]:=List.getElem?_eq_getElem hiq
    have e2:=hqb i _ e1
    have e3:es.toList[q[i]]?=some (es[q[i]]):=by rw [Array.getElem?_toList,Array.getElem?_eq_getElem e2]
    refine ⟨(es[q[i]]).2,.ref s.heap.objs.size,?_,.inr ⟨s.heap.objs.size,oT,(q.map fun (i:Nat)=>rawInt (i:Int)).toArray,0,q[i],(es[q[i]]).1,hF.1,rfl,hF.2,by rw [← hTo],?_,?_⟩,rfl,hF.2⟩
    ·rw [List.getElem?_map,e1]
     simp only [Option.map_some,e3,Option.getD_some]
    ·rw [List.getElem?_toArray,List.getElem?_map,e1]
     rfl
    ·rw [Array.getElem?_eq_getElem e2]
   ·refine .inr ⟨s.heap.objs.size,oT,(q.map fun (i:Nat)=>rawInt (i:Int)).toArray,0,hF.1,hF.2,by rw [← hTo],?_⟩
    rw [List.getElem?_toArray]
    refine List.getElem?_eq_none ?_
    rw [List.length_map,hq.length_eq,List.length_range]
    exact Nat.le_refl _
  ·exact ⟨_,⟨⟨_,Heap.get?_push_size _ rfl,rfl,rfl⟩,Heap.get?_push_of_some _ (Heap.get?_push_of_some _ ho)⟩,rfl,Heap.get?_push_of_some _ hTg⟩
 ·-- by its places
  have hc':¬ (!byT w && (!t.plain && decide (es.size > 1)))=true:=hc
  refine wpAny_bind (wpAny_pure ?_)
  refine wpAny_bind (m:=setEpoch a) (wpAny_bind (wpAny_setState_of ho hd hT.fits (wpAny_pure ?_)))
  refine wpAny_bind (wpAny_newObj_type (wpAny_pure ⟨_, rfl, "set_iterator", _, ⟨_, Heap.get?_push_size _ rfl, rfl⟩, SF.slotN.lookup, ?_⟩))
  have hIa:s.heap.objs.size≠a:=Nat.ne_of_gt haS
  have hfp:∀ b∈[s.heap.objs.size,a],b=a∨s.heap.objs.size≤b:=fun b hb'=>by
   simp only [List.mem_cons,List.not_mem_nil,or_false] at hb'
   rcases hb' with rfl | rfl
   ·right; omega
   ·left; rfl
  generalize hIo : ({ cls := .type "set_iterator", data := .fields [rawInt 0, rawInt 0, Value.ref a, rawInt (es.size : Int), rawInt (ep : Int)].toArray } : Obj) = oI
  have hIg:(s.heap.push oI).get? s.heap.objs.size=some oI:=Heap.get?_push_size _ (by rw [← hIo]; rfl)
  have X0:ItS (s.heap.push oI) s.heap.objs.size a o es.size ep (.int 0 0) 0:=⟨⟨_,hIg,by rw [← hIo],by rw [← hIo]; rfl⟩,Heap.get?_push_of_some _ ho⟩
  have es0:∀ {h':Heap},({ s with heap:=h' }:Shared) = { s with heap:=h',drawn:=s.drawn }:=fun {h'}=>by cases s; rfl
  rw [es0]
  by_cases hbt:byT w=true
  ·have hL:((pickOrder (w.params.setOrder a ep) es).toList.map (·.2)).Perm (es.toList.map (·.2)):=(ZmS _ es).map _
   obtain ⟨ys,hys,hp⟩:=Za1 hL.symm hs
   have hlen:((pickOrder (w.params.setOrder a ep) es).toList.map (·.2)).length=es.size:=by rw [hL.length_eq,List.length_map,hz]
   have hpl:(pickOrder (w.params.setOrder a ep) es).size=es.size:=by simpa using hlen
   refine h _ s.drawn _ [s.heap.objs.size,a] (fun i s' => ∃ f,ItS s'.heap s.heap.objs.size a o es.size ep f i∧f = .int 0 0) _ ys (fun b o e=>Heap.get?_push_of_some _ e) (Nat.le_refl _) hfp (fun A' hA' => ?_) ⟨_,X0,rfl⟩ hys hp.symm
   rw [hlen]
   refine Zb9 (F:=fun i f h'=>f = .int 0 0) hA' hd hT.fits hIa (by simp) (by simp) (fun i f h1 h2 hF hk=>hF) (fun i s' f hi ho' hF => ?_) (fun s' f ho' hF => ?_)
   ·have hi':i<(pickOrder (w.params.setOrder a ep) es).size:=by omega
    refine ⟨((pickOrder (w.params.setOrder a ep) es)[i]).2,.int 0 0,?_,.inl ⟨0,0,hF,rfl,fun A E Q hQ=>Zea hbt ho' hd hT.fits ?_⟩,rfl⟩
    ·rw [List.getElem?_map,Array.getElem?_toList,Array.getElem?_eq_getElem hi']; rfl
    ·rw [Array.getElem?_eq_getElem hi']; exact hQ
   ·refine .inl ⟨0,hF,fun A E Q hQ=>Zea hbt ho' hd hT.fits ?_⟩
    rw [Array.getElem?_eq_none (by omega)]
    exact hQ
  ·have hbf:byT w=false:=by simpa using hbt
   have h1:es.size≤1:=by
    rw [hbf] at hc'
    by_cases hp:t.plain=true
    ·have:=hT.plain hp; omega
    ·rw [Bool.not_eq_true] at hp
     rw [hp] at hc'
     simp at hc'
     omega
   have hpl:t.place.size=es.size:=by
    have:=hT.fits
    unfold SetTable.fits at this
    rw [Bool.and_eq_true] at this
    exact eq_of_beq this.1
   have hlen:(es.toList.map (·.2)).length=es.size:=by simp
   refine h _ s.drawn _ [s.heap.objs.size,a] (fun i s' => ∃ f,ItS s'.heap s.heap.objs.size a o es.size ep f i∧∃ k:Nat,f = .int k 0∧SetTable.below t.place k=i) (es.toList.map (·.2)) xs (fun b o e=>Heap.get?_push_of_some _ e) (Nat.le_refl _) hfp (fun A' hA' => ?_) ⟨_,X0,0,rfl,?_⟩ hs (.refl _)
   ·rw [hlen]
    refine Zb9 (F:=fun i f h' => ∃ k:Nat,f = .int k 0∧SetTable.below t.place k=i) hA' hd hT.fits hIa (by simp) (by simp) (fun i f h1 h2 hF hk=>hF) (fun i s' f hi ho' hF => ?_) (fun s' f ho' hF => ?_)
    ·obtain ⟨k,rfl,hk⟩:=hF
     have hi':i<t.place.size:=by omega
     refine ⟨(es[i]).2,.int ((t.place[i]+1:Nat)) 0,?_,.inl ⟨k,t.place[i]+1,rfl,rfl,fun A E Q hQ=>ZdK hbf ho' hd hT h1 ?_⟩,_,rfl,?_⟩
     ·rw [List.getElem?_map,Array.getElem?_toList,Array.getElem?_eq_getElem hi]; rfl
     ·rw [hk,Array.getElem?_eq_getElem hi,Array.getElem?_eq_getElem hi']; exact hQ
     ·have hi0:i=0:=by omega
      subst hi0
      have e1:t.place = #[t.place[0]]:=Array.ext (by simp; omega) fun j h2 h3=>by
       have:j=0:=by omega
       subst this; rfl
      generalize t.place[0]=p at e1 ⊢
      rw [e1,Zez,if_pos (by omega)]
    ·obtain ⟨k,rfl,hk⟩:=hF
     refine .inl ⟨k,rfl,fun A E Q hQ=>ZdK hbf ho' hd hT h1 ?_⟩
     rw [hk,Array.getElem?_eq_none (Nat.le_refl _)]
     exact hQ
   ·by_cases h0:es.size=0
    ·have:t.place = #[]:=Array.eq_empty_of_size_eq_zero (by omega)
     rw [this]; rfl
    ·have hp1:t.place.size=1:=by omega
     have e1:t.place = #[t.place[0]]:=Array.ext (by simp; omega) fun j h2 h3=>by
       have:j=0:=by omega
       subst this; rfl
     generalize t.place[0]=p at e1
     rw [e1,Zez,if_neg (by omega)]
end
end DL
end
section
set_option maxHeartbeats 1000000
namespace DL
open PySem PySem.Spec PyProof.Rows L2 PySem.W SO
section
variable {prog:Program} {w:World} {A:Around} {E:Value→Shared→Prop} {s:Shared} {a:Addr}
theorem SetT.kept {h h':Heap} {xs:List Str} (x:SetT prog w h a xs) (hk:∀ b o,h.get? b=some o→h'.get? b=some o):SetT prog w h' a xs:=by
 obtain ⟨o,es,ep,t,ho,r⟩:=x
 exact ⟨o,es,ep,t,hk _ _ ho,r⟩
theorem SetT.typeIs {xs : List Str} (x : SetT prog w s.heap a xs) : s.TypeIs (.ref a) "set" := by
 obtain ⟨o,es,ep,t,ho,hx,_⟩:=x
 exact ⟨o,ho,hx.1⟩
theorem SetT.len {h:Heap} {xs:List Str} (x:SetT prog w h a xs):xs.length<scanBound∧xs.Nodup∧a<h.objs.size:=by
 obtain ⟨o,es,ep,t,ho,hx,hd,hT,hel,hs,hn,hb⟩:=x
 have:=hs.length
 rw [List.length_map,Array.length_toList] at this
 exact ⟨by omega,hn,Heap.lt_size ho⟩
theorem Zkk {Q : Bool → Shared → Prop} (hT : s.TypeIs (.ref a) "set") (h : Q false s) : wpAny (model prog w) A (Builtin.List.listLengthHint (.ref a)) Q E s := by
 unfold Builtin.List.listLengthHint
 refine wpAny_bind (wpAny_specialOf hT PySem.F.slot_set_len.lookup ?_)
 generalize hid : ("set.__len__" : String) = id0
 wp_delta
 rw [show splitId id0 = some ("set", "__len__") from by subst hid; decide +kernel]
 subst hid
 refine wpAny_bind (wpAny_isInstance (T := "set") (b := true) hT (by rw [isSubtype_type]; kernel_rfl) ?_)
 refine wpAny_ite_split (fun z=>absurd z (by decide)) (fun _ => ?_)
 exact wpAny_ite_split (fun _=>wpAny_bind (wpAny_typeOf hT (wpAny_pure h))) (fun z=>absurd (by decide +kernel) z)
theorem ZkX {xs:List Str} {R:List Value→Shared→Prop} (hh:A.handled=none) (hS:SetT prog w s.heap a xs)
  (h:∀ (h':Heap) (tk:Nat) (d:Drawn) (vs:List Value) (ys:List Str),(∀ b o,s.heap.get? b=some o→h'.get? b=some o)→StrsAre vs ys→ys.Perm xs→R vs { s with heap:=h',toks:=tk,drawn:=d }) :
  wpAny (model prog w) A (collect (.ref a)) R E s:=by
 unfold collect
 refine wpAny_bind (wpAny_runValue (codeAny_builtin entry_proto_collect' ?_))
 rw [Around.under_plainId PySem.F.plain_proto_collect _]
 show wpAny _ A.in1 (newList [] >>= fun l => again (.builtin "list.__iadd__" ⟨[l, .ref a], []⟩)) _ _ s
 refine wpAny_bind (wpAny_newObj_type (wpAny_pure ⟨plainId_quiet PySem.F.plain_list_iadd _,codeAny_builtin entry_list_iadd' ?_⟩))
 rw [Around.under_plainId PySem.F.plain_list_iadd _]
 show wpAny _ A.in1 (Builtin.List.listExtendWith (.ref s.heap.objs.size) (.ref a) (.ref s.heap.objs.size)) _ _ _
 generalize hoL : ({ cls := .type "list", data := .seq ([] : List Value).toArray } : Obj) = oL
 have hL : (s.heap.push oL).get? s.heap.objs.size = some { cls := .type "list", data := .seq #[] } := by rw [Heap.get?_push_size _ (by rw [← hoL]; rfl), ← hoL]
 have k0:∀ b o,s.heap.get? b=some o→(s.heap.push oL).get? b=some o:=fun b o e=>Heap.get?_push_of_some _ e
 have hsz:(s.heap.push oL).objs.size=s.heap.objs.size+1:=Heap.size_push ..
 have haS:=hS.len.2.2
 have hS1:SetT prog w (s.heap.push oL) a xs:=hS.kept k0
 generalize s.heap.push oL=H1 at hL k0 hsz hS1
 unfold Builtin.List.listExtendWith
 refine wpAny_bind (wpAny_typeOf (T := "set") (SetT.typeIs (s := { s with heap := H1 }) hS1) ?_)
 have h1:Builtin.List.listSameRef (.ref s.heap.objs.size) (.ref a)=false:=by
  have:s.heap.objs.size≠a:=Nat.ne_of_gt haS
  simp [Builtin.List.listSameRef,this]
 refine wpAny_ite_split (fun z => ?_) (fun _ => ?_)
 ·rw [h1] at z
  exact absurd z (by decide)
 refine wpAny_bind (Znr (s:={ s with heap:=H1 }) hS1 fun h2 d I fp St L ys k2 hI hfp W st0 hys hp => ?_)
 refine wpAny_bind (wpAny_holding (Zkk (SetT.typeIs (s:={ s with heap:=h2,drawn:=d }) (hS1.kept k2)) ?_))
 refine wpAny_ite_split (fun _ => ?_) (fun z=>absurd (by decide +kernel) z)
 refine wpAny_bind (wpAny_rule ?_)
 have hf:s.heap.objs.size ∉ fp:=fun z=>by
  rcases hfp _ z with e | e
  ·rw [e] at haS; exact absurd haS (Nat.lt_irrefl _)
  ·have e':H1.objs.size≤s.heap.objs.size:=e
   omega
 have hg2:=k2 _ _ hL
 refine wpAny_bind ?_
 show wpAny _ _ (updateSeq s.heap.objs.size (·.push .none) >>= fun _=>updateSeq s.heap.objs.size (·.pop)) _ _ _
 refine wpAny_bind (wpAny_updateSeq hg2 rfl ?_)
 have hg3:=Heap.get?_update_self (Obj.mapSeq (·.push Value.none)) hg2 rfl
 refine wpAny_updateSeq (hz:=by seq_fits) hg3 rfl ?_
 have hg4:=Heap.get?_update_self (Obj.mapSeq (·.pop)) hg3 rfl
 have k4:∀ b o,b≠s.heap.objs.size→h2.get? b=some o→((h2.update s.heap.objs.size (Obj.mapSeq (·.push Value.none))).update s.heap.objs.size (Obj.mapSeq (·.pop))).get? b=some o:=fun b o hb e =>
  (Heap.get?_update_other _ _ (Ne.symm hb)).trans ((Heap.get?_update_other _ _ (Ne.symm hb)).trans e)
 refine wpAny_pure ⟨plainId_quiet PySem.F.plain_extend_loop _,?_⟩
 have hl:L.length=xs.length:=by rw [← hp.length_eq]; exact hys.length
 have W1:=W A.in1 (by simp [hh])
 have st1:=W1.frame 0 _ ((h2.update s.heap.objs.size (Obj.mapSeq (·.push Value.none))).update s.heap.objs.size (Obj.mapSeq (·.pop))) s.toks st0 (Nat.le_refl _) fun b hb o e=>k4 b o (fun z=>hf (z ▸ hb)) e
 refine codeAny_extend_loopS W1 (by rw [hl]; exact fits_of_scanBound hS.len.1) s.heap.objs.size hf _ (L.length - 0) 0 _ #[] _ rfl (Nat.zero_le _) st1 hg4 (ItemsOf.nil _) fun s' acc c m hg hit => ?_
 rw [Moved.eq_with m]
 refine wpAny_bind (wpAny_load hg ?_)
 refine wpAny_pure ?_
 rw [Znh hit]
 refine h _ _ _ _ ys (fun b o e=>m.heap b o ?_ (k4 b o (Nat.ne_of_lt (Heap.lt_size e)) (k2 _ _ (k0 _ _ e)))) hys hp
 have hb:=Heap.lt_size e
 have hI':s.heap.objs.size+1≤I:=hsz ▸ hI
 simp only [List.mem_cons,List.not_mem_nil,or_false,not_or]
 exact ⟨Nat.ne_of_lt hb,Nat.ne_of_lt (Nat.lt_of_lt_of_le hb (Nat.le_of_succ_le hI'))⟩
end
end DL
end
section
set_option maxHeartbeats 1000000
namespace DL
open PySem PySem.Spec PyProof.Rows L2 PySem.W SO
noncomputable def ddS:List Str→List Str
 | []=>[]
 | x :: xs=>if x∈ddS xs then ddS xs else x :: ddS xs
theorem Qd:∀ (xs:List Str) (y:Str),y∈ddS xs ↔ y∈xs
 | [],y=>Iff.rfl
 | x :: xs,y=>by
  unfold ddS
  split
  ·rename_i h
   rw [Qd xs y,List.mem_cons]
   exact ⟨.inr,fun z=>z.elim (fun e=>e ▸ (Qd xs x).mp h) id⟩
  ·rw [List.mem_cons,List.mem_cons,Qd xs y]
theorem Za4:∀ (xs:List Str),(ddS xs).Nodup
 | []=>List.nodup_nil
 | x :: xs=>by
  unfold ddS
  split
  ·exact Za4 xs
  ·rename_i h
   exact List.nodup_cons.mpr ⟨h,Za4 xs⟩
theorem ZaP:∀ (xs:List Str),(ddS xs).length≤xs.length
 | []=>Nat.le_refl _
 | x :: xs=>by
  unfold ddS
  have:=ZaP xs
  split
  ·exact Nat.le_succ_of_le this
  ·exact Nat.succ_le_succ this
noncomputable def QX:List D→Sto→Out (List D)
 | [d],st=>match ZS st d with
  | some xs=>match WN xs with
   | some ss=>if ss.length<64 then .ok ((srtS (ddS ss)).map D.str) st else .bad
   | none => .bad
  | none => .bad
 | _,_ => .bad
section
variable {prog:Program} {w:World} {A:Around} {E:Value→Shared→Prop} {s:Shared} {a:Addr}
theorem ZjP {xs:List Str} {Q:Value→Shared→Prop} (hh:A.handled=none) (hS:SetT prog w s.heap a xs) (h64:xs.length<64)
  (k:∀ vs ys,StrsAre vs ys→ys.Perm xs→∀ p:List Nat,p.Perm (List.range ys.length)→p.Pairwise (fun i j=>ZY (ys.getD i default) (ys.getD j default)=true)→∀ (h1:Heap) b (h':Heap) tk d c,(∀ b o,s.heap.get? b=some o→h1.get? b=some o)→h1.objs.size≤b→(∀ b o,h1.get? b=some o→h'.get? b=some o) →
   h'.get? b = some (seqObj "list" (p.map fun i => vs.getD i .none).toArray c) → Q (.ref b) { s with heap := h', toks := tk, drawn := d }) :
  wpAny (model prog w) A (call (.builtin "sorted") [.ref a]) Q E s := by
 refine Calls.call_function_entry kind_sorted plain_sorted entry_sorted (args_sorted1 _) ?_
 unfold Builtin.«sorted»
 refine wpAny_bind (m := checkCount "sorted" 1 1 _) (wpAny_pure ?_)
 refine wpAny_bind (ZkX (by simp [hh]) hS fun h1 tk d vs ys k1 hys hp => ?_)
 have hl:vs.length=ys.length:=hys.length
 have hl2:ys.length=xs.length:=hp.length_eq
 refine wpAny_bind (wpAny_newList ?_ (by rw [sizeLine_eq]; omega))
 have hoL : (h1.push (seqObj "list" vs.toArray 0)).get? h1.objs.size = some (seqObj "list" vs.toArray 0) := Heap.get?_push_size _ rfl
 have keep : ∀ b o, h1.get? b = some o → (h1.push (seqObj "list" vs.toArray 0)).get? b = some o := fun b o q => Heap.get?_push_of_some _ q
 show wpAny _ _ _ _ _ { s with heap := h1.push (seqObj "list" vs.toArray 0), toks := tk, drawn := d }
 generalize h1.push (seqObj "list" vs.toArray 0) = g at hoL keep
 refine wpAny_bind (wpAny_holding (wpAny_call_entry slot_list_sort ⟨_,hoL,rfl⟩ entry_list_sort ?body (args_list_sort _)))
 case body =>
  refine ZmD (s:={ s with heap:=g,toks:=tk,drawn:=d }) (κ:=oneType') (lt:=fun i j=>ZY (ys.getD i default) (ys.getD j default)) hoL (by omega) (Zmx hys) (by rw [hl]; exact ZhV (hp.nodup_iff.mpr hS.len.2.1)) fun p hp' hpw h' c hb hc => ?_
  refine ⟨_,rfl,wpAny_pure ⟨_,rfl,?_⟩⟩
  rw [hl] at hp'
  exact k vs ys hys hp p hp' hpw h1 _ h' tk d c k1 (Nat.le_refl _) (fun b o e=>hb b o (Nat.ne_of_lt (Heap.lt_size e)) (keep b o e)) hc
end
section
variable {X:Cx} {EX:EXT} {pins:List (Addr×Obj)} {σ:L2.St} {H:Hp} {s:Shared}
theorem Inv.drew {d:Drawn} (I:Inv X pins σ H s):Inv X pins σ H { s with drawn:=d }:=⟨I.ok,I.os,I.bare,I.base,I.loc,I.cell,I.free,I.freeC,I.pin,I.hok,I.len⟩
theorem Zec {e : Expr} {x y : Str} {p q pos pos2 : Pos} {f : DA} (hcalm : X.calm = true) (hg : Gl X x) (hm : X.mg x = none) (hv : bootBuiltins x = some (.builtin "sorted")) (hg2 : Gl X y) (hm2 : X.mg y = none) (hv2 : bootBuiltins y = some (.type "set")) (ha : PDA X EX [e] f)
  (hn : x ≠ "__name__" := by decide) (hdb : (x == ("__debug__" : Str)) = false := by decide) (hn2 : y ≠ "__name__" := by decide) (hdb2 : (y == ("__debug__" : Str)) = false := by decide)
  (he:starEach [e] X.env=(false,eval e X.env) :: starEach [] X.env:=by rfl):PDF X EX (.Call (.Name x p) [.Call (.Name y q) [e] [] pos2] [] pos) (Zk QX f):=by
 intro pins s σ H Q I h
 have h':=ZbS _ _ _ h
 refine wpAny_Call_Name_kw (QE I hg hm hv ?_ hn hdb)
 refine PyProof.Rows.callWith_builtin1 ?_ rfl rfl
 show wpAny _ _ (spliced ((false,eval (.Call (.Name y q) [e] [] pos2) X.env) :: backTo pos (starEach [] X.env))) _ _ s
 refine Calls.spliced_cons ?_
 refine wpAny_Call_Name_kw (QE I hg2 hm2 hv2 ?_ hn2 hdb2)
 refine PyProof.Rows.callWith_type1 (thn (ha pos2 pins s σ H _ I h') fun us s1 ⟨vs,H1,I1,r1,q1⟩ => ?_) he rfl
 obtain ⟨O,ds,st,W,r,R⟩:=q1
 unfold QX at R
 split at R
 ·rename_i d
  obtain ⟨v,rfl,rv⟩:=r.one_of
  split at R
  ·rename_i zs ez
   split at R
   ·rename_i ss hss
    by_cases hc:ss.length<64
    ·rw [if_pos hc] at R
     obtain ⟨pl,vs,rfl,qq,rs⟩:=rdL W rv ez
     have hzs:=Zda hss
     subst hzs
     cases r1 with
     | cons r0 rt =>
      cases rt
      cases r0
      obtain ⟨its,rv',pl',hz⟩:=I1.list qq
      have hl1:=rv'.length
      have hl2:=rs.length
      rw [List.length_map] at hl2
      have sAll:StrsAre its ss:=by
       refine Zcu (by omega) fun i v x h1 h2 => ?_
       obtain ⟨y,h3,h4⟩:=rs.get (i:=i) (d:=D.str x) (by rw [List.getElem?_map,h2]; rfl)
       rw [Rep.str_i] at h4
       subst h4
       obtain ⟨u,h5,t,h6⟩:=rv'.get h3
       rw [h1] at h5
       cases h5
       exact ⟨t,h6⟩
      have hsb:its.length=ss.length:=by omega
      refine Zji (items:=its.toArray) (ss:=ss) (I1.ok.hd hcalm) pl'.isList (by simpa using sAll) (by
       have:scanBound=4096:=rfl
       simp; omega) fun h2 tk xs hS hmem hk => ?_
      refine Calls.spliced_nil ?_
      have k1:∀ b o,s1.heap.get? b=some o→h2.get? b=some o:=fun b o e=>hk b o (Heap.lt_size e) e
      have hperm:xs.Perm (ddS ss):=(List.perm_ext_iff_of_nodup hS.len.2.1 (Za4 ss)).mpr fun y=>by rw [hmem,Qd]
      have hxl:xs.length<64:=by
       rw [hperm.length_eq]
       exact Nat.lt_of_le_of_lt (ZaP ss) hc
      have I2:Inv X pins σ H1 { s1 with heap:=h2,toks:=tk }:=I1.kept k1
      refine ZjP (s:={ s1 with heap:=h2,toks:=tk }) (I1.ok.hd hcalm) hS hxl fun vs' ys hys hp ix hpx hw h3 b h4 tk4 d4 c k3 hb k4 hg4 => ?_
      have I3:Inv X pins σ H1 { s1 with heap:=h2,toks:=tk,drawn:=d4 }:=Inv.drew I2
      have hsame:srtS ys=srtS (ddS ss):=by
       refine (Zf5 ?_ ?_).symm
       ·exact (srtS_perm _).trans (hp.trans hperm).symm
       ·refine List.Pairwise.imp₂ (R:=fun a b=>Ws a b=true) (S:=fun a b=>a≠b) (fun a b h1 h2 => ?_) (ZeC _) ((srtS_perm (ddS ss)).nodup_iff.mpr (Za4 ss))
        simp only [Ws,ZY,decide_eq_true_eq] at *
        by_cases h5:a.cps.toList<b.cps.toList
        ·exact h5
        ·exact absurd (ZaQ (List.le_antisymm h1 (List.not_lt.mp h5))) h2
      exact Zh6 (s:={ s1 with heap:=h2,toks:=tk,drawn:=d4 }) I3 W hys (hsame ▸ R) hpx hw (by rw [hp.length_eq]; exact hxl) k3 hb k4 hg4
    ·rw [if_neg hc] at R; exact R.elim
   ·exact R.elim
  ·exact R.elim
 ·exact R.elim
end
end DL
end
section
set_option maxHeartbeats 1000000
end
section
set_option maxHeartbeats 1000000
end
section
set_option maxHeartbeats 1000000
namespace DL
open PySem PySem.Spec PyProof.Rows L2
noncomputable def Itl (K:PySem.W.Frag) (a b:Addr):It :=
  ⟨fun i H => ∃ xs ys x y,SqL K H a xs∧SqL K H b ys∧xs[i]?=some x∧ys[i]?=some y,
   fun i H v H' => ∃ p x y,H p=none∧v = .ref p∧H'=upd H p (.tup [x,y])∧(∀ xs,SqL K H a xs→xs[i]?=some x)∧∀ ys,SqL K H b ys→ys[i]?=some y,
   fun i H => ∃ xs ys,SqL K H a xs∧SqL K H b ys∧(xs.length≤i∨ys.length≤i)⟩
end DL
end
section
set_option maxHeartbeats 1000000
end
section
set_option maxHeartbeats 1000000
namespace DL
open PySem PySem.Spec PyProof.Rows L2 PySem.W
noncomputable def RawD (h:Heap) (d:Addr) (es:Array DictEntry) (ep:Nat):Prop:=∃ o,h.get? d=some o∧o.ExactDict∧o.data = .dict es ep
section
variable {prog:Program} {w:World} {A:Around} {E:Value→Shared→Prop} {s:Shared}
theorem RawD.typeIs {d : Addr} {es : Array DictEntry} {ep : Nat} (x : RawD s.heap d es ep) : s.TypeIs (.ref d) "dict" := let ⟨o, e, c, _⟩ := x; ⟨o, e, c.1⟩
theorem RawD.kept {h h':Heap} {d:Addr} {es:Array DictEntry} {ep:Nat} (x:RawD h d es ep) (k:∀ o,h.get? d=some o→h'.get? d=some o):RawD h' d es ep:=let ⟨o,e,r⟩:=x; ⟨o,k o e,r⟩
theorem Zmf {d:Addr} {es:Array DictEntry} {ep:Nat} {Q:Value→Shared→Prop} (hd:(d == sysModules)=false) (hm:RawD s.heap d es ep)
  (hQ : Q (.ref s.heap.objs.size) { s with heap := s.heap.push { cls := .type "dict_keyiterator", data := .fields #[.ref d, .int 0 0, .int es.size 0, .int ep 0] } }) : wpAny (model prog w) A (pyIter (.ref d)) Q E s := by
 obtain ⟨o,ho,hc,hdat⟩:=id hm
 have hT:=hm.typeIs
 refine wpAny_pyIter_slot hT PySem.F.slot_dict_iter (wpAny_call_entry PySem.F.slot_dict_iter hT PySem.F.entry_dict_iter ?_ (PySem.F.args_dict_iter_1 _))
 unfold Builtin.«dict.__iter__» Builtin.Dict.dictSlotNone
 refine wpAny_bind (wpAny_bind (wpAny_notOrdered_dict hT (wpAny_pure ?_)))
 dsimp only
 refine wpAny_bind (m:=Builtin.Dict.showsAll d) ?_
 unfold Builtin.Dict.showsAll
 refine wpAny_ite_split (fun z=>by rw [hd] at z; cases z) (fun _=>wpAny_pure ?_)
 refine wpAny_bind (wpAny_dictEntries ho hdat (wpAny_bind (wpAny_dictEpoch ho hdat ?_)))
 refine wpAny_bind (wpAny_newObj_type (wpAny_pure ⟨_, rfl, "dict_keyiterator", _, ⟨_, Heap.get?_push_size _ rfl, rfl⟩, PySem.F.slot_dict_keyiterator_next.lookup, ?_⟩))
 simpa [rawInt] using hQ
theorem Zh9 {it d:Addr} {i ep:Nat} {es:Array DictEntry} {e:DictEntry} {Q:Option Value→Shared→Prop} (hit:s.heap.IsKeyIter it d i es.size ep) (hm:RawD s.heap d es ep) (hx:es[i]?=some e)
  (hQ:∀ h',h'.IsKeyIter it d (i+1) es.size ep→Heap.SameBut it s.heap h'→Q (some e.key) { s with heap:=h' }):wpAny (model prog w) A (pyNext (.ref it)) Q E s:=by
 obtain ⟨o,ho,hc,hd⟩:=id hit
 obtain ⟨od,hod,hcd,hdd⟩:=id hm
 unfold pyNext
 refine wpAny_bind (wpAny_attempt (wpAny_callSpecial?_slot (name := Str.ofString "__next__") hit.typeIs PySem.F.slot_dict_keyiterator_next
  (wpAny_call_entry PySem.F.slot_dict_keyiterator_next hit.typeIs PySem.F.entry_dict_keyiterator_next ?_ (PySem.F.args_dict_keyiterator_next_1 _))))
 have hown : Builtin.Dict_items.ownsTuple "dict_keyiterator" = false := by decide
 have hT:=hit.typeIs
 repeat (any_goals (first | assumption | with_reducible refine wpAny_typeNameOfWhole_keyiter hT ?_ | with_reducible refine wpAny_fieldsOf ho hd ?_ | with_reducible refine wpAny_dictEntries hod hdd ?_ | with_reducible refine wpAny_dictEpoch hod hdd ?_ | with_reducible refine wpAny_isOneOf_keyiter hT ?_ | wp_step))
 simp only [show ¬ ((i:Int)<0) by omega,if_false,Int.toNat_natCast,hx]
 repeat (any_goals (first | assumption | with_reducible refine wpAny_typeNameOfWhole_keyiter hT ?_ | with_reducible refine wpAny_isOneOf_keyiter hT ?_ | ((fail_if_success (with_reducible show wpAny _ _ (setField _ _ _) _ _ _)); wp_step)))
 simp only [hown,Bool.false_eq_true,if_false,Nat.zero_add]
 refine wpAny_setField ho hd (by simp) ?_
 rw [if_neg]
 rotate_left
 ·decide +kernel
 have hit':(s.heap.update it (Obj.mapFields (·.setIfInBounds 1 (rawInt ((i:Int)+1))))).IsKeyIter it d (i+1) es.size ep :=
  ⟨_,Heap.get?_update_self _ ho (Obj.isFreed_of_fields (Obj.data_mapFields hd _)),(Obj.cls_mapFields ..).trans hc,by rw [Obj.data_mapFields hd]; simp [rawInt]⟩
 have sb:=Heap.SameBut.update s.heap it (Obj.mapFields (·.setIfInBounds 1 (rawInt ((i:Int)+1))))
 generalize s.heap.update it (Obj.mapFields (·.setIfInBounds 1 (rawInt ((i:Int)+1))))=h2 at hit' sb
 have hT2 : Shared.TypeIs { s with heap := h2 } (.ref it) "dict_keyiterator" := hit'.typeIs
 refine wpAny_bind (wpAny_holding (wpAny_bind (wpAny_isOneOf_keyiter hT2 ?_)))
 refine wpAny_ite_split (fun _ => ?_) (fun z=>absurd (by decide +kernel) z)
 exact wpAny_pure (wpAny_pure ⟨_,rfl,wpAny_pure (hQ _ hit' sb)⟩)
theorem Znf {it d:Addr} {i ep:Nat} {es:Array DictEntry} {Q:Option Value→Shared→Prop} (hh:A.handled=none) (hit:s.heap.IsKeyIter it d i es.size ep) (hm:RawD s.heap d es ep) (hx:es[i]?=none)
  (hQ:∀ h',Heap.ExtBut it s.heap h'→Q none { s with heap:=h' }):wpAny (model prog w) A (pyNext (.ref it)) Q E s:=by
 obtain ⟨o,ho,hc,hd⟩:=id hit
 obtain ⟨od,hod,hcd,hdd⟩:=id hm
 unfold pyNext
 refine wpAny_bind (wpAny_attempt (wpAny_callSpecial?_slot (name := Str.ofString "__next__") hit.typeIs PySem.F.slot_dict_keyiterator_next
  (wpAny_call_entry PySem.F.slot_dict_keyiterator_next hit.typeIs PySem.F.entry_dict_keyiterator_next ?_ (PySem.F.args_dict_keyiterator_next_1 _))))
 have hown : Builtin.Dict_items.ownsTuple "dict_keyiterator" = false := by decide
 have hT:=hit.typeIs
 repeat (any_goals (first | assumption | with_reducible refine wpAny_typeNameOfWhole_keyiter hT ?_ | with_reducible refine wpAny_fieldsOf ho hd ?_ | with_reducible refine wpAny_dictEntries hod hdd ?_ | with_reducible refine wpAny_dictEpoch hod hdd ?_ | with_reducible refine wpAny_isOneOf_keyiter hT ?_ | wp_step))
 simp only [show ¬ ((i:Int)<0) by omega,if_false,Int.toNat_natCast,hx]
 repeat (any_goals (first | assumption | with_reducible refine wpAny_typeNameOfWhole_keyiter hT ?_ | with_reducible refine wpAny_isOneOf_keyiter hT ?_ | ((fail_if_success (with_reducible show wpAny _ _ (setField _ _ _) _ _ _)); wp_step)))
 simp only [hown,Bool.false_eq_true,if_false]
 refine wpAny_setField ho hd (by simp) ?_
 refine Zcp (s:={ s with heap:=s.heap.update it (Obj.mapFields (·.setIfInBounds 0 Value.none)) }) hh fun o1 o2 c2 g2 => ?_
 refine wpAny_bind (wpAny_isInstance (T := "StopIteration") (b := true) ⟨_, g2, c2⟩ isSubtype_stop ?_)
 exact wpAny_pure (hQ _ (((Heap.SameBut.update ..).extBut.push _).push _))
theorem Zkf (hh:A.handled=none) (I d:Addr) (hne:d≠I) (es:Array DictEntry) (ep:Nat) :
  Walks prog w A I [I,d] [I] es.size (fun i v => ∃ e,es[i]?=some e∧v=e.key) (fun i h=>h.IsKeyIter I d i es.size ep∧RawD h d es ep) where
 sub:=fun b hb=>by simp at hb; simp [hb]
 frame:=fun _ _ _ st hk=>⟨let ⟨o,e,r⟩:=st.1; ⟨o,hk I (by simp) o e,r⟩,st.2.kept fun o e=>hk d (by simp) o e⟩
 item:=fun i s Q E hi st hQ=>by
  refine Zh9 st.1 st.2 (e:=es[i]) (by simp [hi]) fun h' hit' hs' => ?_
  exact hQ _ h' s.toks ⟨es[i],by simp [hi],rfl⟩ ⟨hit',st.2.kept fun o e=>hs'.extBut d o hne e⟩ fun b o hb e=>hs'.extBut b o (fun h=>hb (by simp [h])) e
 done:=fun s Q E st hQ=>Znf hh st.1 st.2 (by simp) fun h' he'=>hQ h' s.toks fun b o hb e=>he' b o (fun h=>hb (by simp [h])) e
 self:=fun _ _ _ _ st hQ=>wpAny_pyIter_keyiter st.1 hQ
theorem Zhd {d : Addr} {es : Array DictEntry} {ep : Nat} (lo : (d == sysModules) = false) : KdlSrc prog w "dict" d d es.size (fun i v => ∃ e, es[i]? = some e ∧ v = e.key) (fun h => RawD h d es ep) where
 type:=fun _ hm=>hm.typeIs
 there:=fun _ hm=>let ⟨_,e,_⟩:=hm; ⟨Heap.lt_size e,Heap.lt_size e⟩
 keep:=fun _ _ hm hk=>hm.kept fun o e=>hk d (.inl rfl) o e
 notList:=by decide
 notTuple:=by decide
 hint:=fun _ _ _ _ hm hq=>kdl_hint_dict hm.typeIs hq
 iter:=fun _ _ hh hm=>⟨_,_,(fun _ _ hq=>Zmf lo hm hq),Zkf hh _ d (Nat.ne_of_lt (let ⟨_,e,_⟩:=hm; Heap.lt_size e)) es ep,⟨⟨_,Heap.get?_push_size _ rfl,rfl,rfl⟩,hm.kept fun o e=>Heap.get?_push_of_some _ e⟩⟩
end
end DL
end
section
set_option maxHeartbeats 1000000
namespace DL
open PySem PySem.Spec PyProof.Rows L2 PySem.W
theorem ZkL {K:PySem.W.Frag} {O:List Addr} {H:Hp} {d:D} {q:Key} (h:Yn d=some q):Rep K O H d (kV q):=by
 cases d with
 | int i =>
  cases (show some (Sum.inl i)=some q from h)
  exact Rep.int_i.mpr rfl
 | str x =>
  cases (show some (Sum.inr x)=some q from h)
  exact Rep.str_i.mpr rfl
 | _=>cases h
theorem Zee {K:PySem.W.Frag} {O:List Addr} {H:Hp}:∀ {ds:List D} {qs:List Key},Wa ds=some qs→Reps K O H ds (qs.map kV)
 | [],qs,h=>by
  cases (show some []=some qs from h)
  exact Reps.nil_i.mpr rfl
 | d :: ds,qs,h=>by
  unfold Wa at h
  cases h1:Yn d with
  | none=>rw [h1] at h; cases h
  | some k =>
   cases h2:Wa ds with
   | none=>rw [h1,h2] at h; cases h
   | some ks =>
    rw [h1,h2] at h
    cases h
    exact Reps.cons_i.mpr ⟨_,_,rfl,ZkL h1,Zee h2⟩
theorem Znn {K:PySem.W.Frag} {O:List Addr} {H:Hp} {d:D} {q:List Key} {a:Addr} (h:ZK d=some q) (ha:H a=some (.tup (q.map kV))):Rep K O H d (.ref a):=by
 cases d with
 | tup ds=>exact Rep.tup_i.mpr ⟨a,_,rfl,ha,Zee h⟩
 | _=>cases h
theorem ZcH {K:PySem.W.Frag} {O:List Addr} {H:Hp}:∀ {ds:List (D×D)} {vs:List (List Key×V)} {xs:List (List Key×Addr×Value)},Kvs K ZK O H ds vs→KT H vs xs→Reps K O H (ds.map (·.1)) (xs.map fun x=>V.ref x.2.1)
 | [],vs,xs,h,t=>by
  cases (show vs=[] from h)
  cases t
  exact Reps.nil_i.mpr rfl
 | (k,d) :: ds,vs,xs,h,t=>by
  obtain ⟨q,v,r,rfl,hk,hr,ht⟩:=(show ∃ q v r,vs=(q,v) :: r∧ZK k=some q∧Rep K O H d v∧Kvs K ZK O H ds r from h)
  cases t with
  | cons hq t =>
   rw [List.map_cons,List.map_cons]
   refine Reps.cons_i.mpr ⟨_,_,rfl,Znn hk ?_,ZcH ht t⟩
   exact hq.2.1
end DL
end
section
set_option maxHeartbeats 1000000
namespace DL
open PySem PySem.Spec PyProof.Rows L2 PySem.W SO
noncomputable def plB:List Str→List Str→Bool
 | [],[]=>false
 | [],_ :: _=>true
 | _ :: _,[]=>false
 | x :: xs,y :: ys=>if x=y then plB xs ys else ZY x y
theorem WQ {x y:Str} (h:x=y) (xs ys:List Str):plB (x :: xs) (y :: ys)=plB xs ys:=by
 show (if x=y then _ else _)=_
 rw [if_pos h]
section
variable {prog:Program} {w:World} {A:Around} {E:Value→Shared→Prop} {s:Shared}
theorem Zld {x y:Addr} {xs ys:List Value} {ps qs:List Str} {Q:Value→Shared→Prop} (hx:IsTup s.heap x xs.toArray) (hy:IsTup s.heap y ys.toArray) (sx:StrsAre xs ps) (sy:StrsAre ys qs) (h:Q (.bool (plB ps qs)) s) :
  wpAny (model prog w) A (Builtin.«tuple.__lt__» ⟨[.ref x,.ref y],[]⟩) (fun fin s' => ∃ v,fin = .done (.ret v)∧Q v s') E s:=by
 have hTy:=hy.typeIs
 unfold Builtin.«tuple.__lt__»
 refine wpAny_bind (m:=slotArgs _ _ _) (wpAny_pure ?_)
 dsimp only
 refine wpAny_bind (wpAny_isInstance (T := "tuple") (b := true) hTy (by rw [isSubtype_type]; kernel_rfl) ?_)
 refine wpAny_ite_split (fun z=>absurd z (by decide)) (fun _ => ?_)
 refine wpAny_bind (tupleItemsOf_ hx (wpAny_bind (tupleItemsOf_ hy ?_)))
 refine wpAny_bind ?_
 have loop:∀ (xs ys:List Value) (ps qs:List Str),StrsAre xs ps→StrsAre ys qs→∀ (R:Option Fin×Unit→Shared→Prop),(∀ b,b=plB ps qs→R (some (.done (.ret (.bool b))),()) s)→(plB ps qs=decide (xs.length<ys.length)→R (none,()) s) →
   wpAny (model prog w) A (forIn (xs.zip ys) ((none,()):Option Fin×Unit) fun x __s=>do
      let __do_lift ← eqBool x.fst x.snd
      if (!__do_lift)=true then do
        rule "tuple.compare.by-the-first-pair-that-differs"
        let __do_lift ← richCompare CmpOp.Lt x.fst x.snd
        let __do_lift ← ret __do_lift
        pure (ForInStep.done (some __do_lift,()))
       else pure (ForInStep.yield (none,()))) R E s:=by
  intro xs
  induction xs with
  | nil =>
   intro ys ps qs sx sy R h1 h2
   cases sx
   rw [List.zip_nil_left,List.forIn_nil]
   refine wpAny_pure (h2 ?_)
   cases sy <;> simp [plB]
  | cons v xs ih =>
   intro ys ps qs sx sy R h1 h2
   cases sx with
   | cons a t sx =>
    cases sy with
    | nil =>
     rw [List.zip_nil_right,List.forIn_nil]
     exact wpAny_pure (h2 (by simp [plB]))
    | cons b u sy =>
     rw [List.zip_cons_cons,List.forIn_cons]
     refine wpAny_bind ?_
     dsimp only
     refine wpAny_bind (wpAny_eqBool_str ?_)
     by_cases hab:a=b
     ·rw [decide_eq_true hab]
      refine wpAny_ite_split (fun z=>absurd z (by decide)) (fun _=>wpAny_pure ?_)
      dsimp only
      refine ih _ _ _ sx sy R (fun c hc=>h1 c (hc.trans (WQ hab _ _).symm)) fun hc=>h2 ?_
      rw [WQ hab,hc]
      simp
     ·rw [decide_eq_false hab]
      refine wpAny_ite_split (fun _ => ?_) (fun z=>absurd (by decide) z)
      refine wpAny_bind (wpAny_rule (wpAny_bind (show wpAny _ _ (compareOp .Lt (.str a t) (.str b u)) _ _ _ from lt_str ?_)))
      refine wpAny_bind (wpAny_pure (wpAny_pure (wpAny_pure (h1 _ ?_))))
      show _=(if a=b then _ else _)
      rw [if_neg hab]
      rfl
 refine loop xs ys ps qs sx sy _ (fun b hb => ?_) fun hb => ?_
 ·subst hb
  exact wpAny_pure ⟨_,rfl,h⟩
 ·refine wpAny_pure ⟨_,rfl,?_⟩
  rw [hb] at h
  simpa [Builtin.Tuple.tupleCompareSizes] using h
theorem Zgi {x y:Addr} {xs ys:List Value} {ps qs:List Str} {Q:Value→Shared→Prop} (hx:IsTup s.heap x xs.toArray) (hy:IsTup s.heap y ys.toArray) (sx:StrsAre xs ps) (sy:StrsAre ys qs) (h:Q (.bool (plB ps qs)) s) :
  wpAny (model prog w) A (call (.builtin "tuple.__lt__") [.ref x, .ref y]) Q E s :=
 wpAny_call_entry PySem.F.slot_tuple_lt hx.typeIs PySem.F.entry_tuple_lt (Zld hx hy sx sy h) (PySem.F.args_tuple_lt_2 _ _)
theorem Zm8 {x y:Addr} {xs ys:List Value} {ps qs:List Str} {Q:Bool→Shared→Prop} (hu:A.units<cLine) (hx:IsTup s.heap x xs.toArray) (hy:IsTup s.heap y ys.toArray) (sx:StrsAre xs ps) (sy:StrsAre ys qs) (h:Q (plB ps qs) s) :
  wpAny (model prog w) A (keyLt' oneType' (.ref x) (.ref y)) Q E s:=by
 rw [keyLt'_oneType,oneLt'_eq]
 simp only [if_true]
 refine wpAny_bind (wpAny_cRoomFor hu ?_)
 refine wpAny_bind (wpAny_callSpecialIfBound?_slot hx.typeIs PySem.F.slot_tuple_lt (Zgi hx hy sx sy ?_))
 exact wpAny_truthy_bool h
theorem Zg1 {x y:Addr} {xs ys:List Value} {ps qs:List Str} {Q:Bool→Shared→Prop} (hu:A.units<cLine) (hx:IsTup s.heap x xs.toArray) (hy:IsTup s.heap y ys.toArray) (sx:StrsAre xs ps) (sy:StrsAre ys qs) (h:Q (plB ps qs) s) :
  wpAny (model prog w) A (keyLt' general' (.ref x) (.ref y)) Q E s:=by
 show wpAny _ _ (oneLt' false (.ref x) (.ref y)) _ _ _
 have hTx:=hx.typeIs
 have hTy:=hy.typeIs
 have f1 : typeLookup (.type "tuple") "__lt__" = pure (some (.builtin "tuple.__lt__")) := PySem.F.slot_tuple_lt.lookup
 have f2:=PySem.F.slot_tuple_lt.bind (.ref x)
 refine kat_one _ _ ?_
 show wpAny _ _ (richCompare .Lt (.ref x) (.ref y)) _ _ _
 unfold richCompare
 refine wpAny_holding (wpAny_bind (wpAny_cRoomFor hu ?_))
 obtain ⟨hp,g,d,tk,os⟩:=s
 have sl : Slot "tuple" "__lt__" "tuple.__lt__" := PySem.F.slot_tuple_lt
 repeat (any_goals (first | assumption | refine wpAny_callSpecialIfBound?_slot (name := Str.ofString "__lt__") hTx sl (Zgi hx hy sx sy ?_) | wp_step))
 done
end
end DL
end
section
set_option maxHeartbeats 1000000
namespace DL
open PySem PySem.Spec PyProof.Rows L2 PySem.W SO
noncomputable def PlsAre (h:Heap):List Value→List (List Str)→Prop
 | [],[]=>True
 | v :: vs,p :: ps=>(∃ b its,v = .ref b∧IsTup h b its.toArray∧StrsAre its p)∧PlsAre h vs ps
 | _,_=>False
theorem PlsAre.mono {h h':Heap}:∀ {vs:List Value} {ps:List (List Str)},PlsAre h vs ps→(∀ b,(.ref b)∈vs→∀ o,h.get? b=some o→h'.get? b=some o)→PlsAre h' vs ps
 | [],[],_,_=>trivial
 | v :: vs,p :: ps,x,k=>by
  obtain ⟨⟨b,its,rfl,⟨o,e,r⟩,s⟩,t⟩:=x
  exact ⟨⟨b,its,rfl,⟨o,k b List.mem_cons_self o e,r⟩,s⟩,t.mono fun c hc=>k c (List.mem_cons_of_mem _ hc)⟩
 | [],_ :: _,x,_=>x.elim
 | _ :: _,[],x,_=>x.elim
theorem PlsAre.length {h:Heap}:∀ {vs:List Value} {ps:List (List Str)},PlsAre h vs ps→vs.length=ps.length
 | [],[],_=>rfl
 | v :: vs,p :: ps,x=>by simp [PlsAre.length x.2]
 | [],_ :: _,x=>x.elim
 | _ :: _,[],x=>x.elim
theorem PlsAre.get {h:Heap}:∀ {vs:List Value} {ps:List (List Str)},PlsAre h vs ps→∀ (i:Nat),i<vs.length→∃ b its,vs.getD i .none = .ref b∧IsTup h b its.toArray∧StrsAre its (ps.getD i [])
 | [],[],_,i,hi=>by simp at hi
 | v :: vs,p :: ps,x,i,hi=>by
  obtain ⟨⟨b,its,rfl,t,s⟩,r⟩:=x
  cases i with
  | zero=>exact ⟨b,its,rfl,t,s⟩
  | succ i=>exact PlsAre.get r i (by simpa using hi)
 | [],_ :: _,x,_,_=>x.elim
 | _ :: _,[],x,_,_=>x.elim
noncomputable def WE:List (Option Value)→List (List Str)→Prop
 | [],[]=>True
 | none :: fs,[] :: ps=>WE fs ps
 | some v :: fs,(x :: _) :: ps=>(∃ t,v = .str x t)∧WE fs ps
 | _,_=>False
section
variable {prog:Program} {w:World} {A:Around} {E:Value→Shared→Prop} {s:Shared}
theorem Zdo:∀ {vs:List Value} {ps:List (List Str)} {Q:List (Option Value)→Shared→Prop},PlsAre s.heap vs ps→(∀ fs,WE fs ps→Q fs s)→wpAny (model prog w) A (vs.mapM firstOfTuple') Q E s
 | [],[],Q,_,h=>by rw [List.mapM_nil]; exact wpAny_pure (h [] trivial)
 | [],_ :: _,_,x,_=>x.elim
 | _ :: _,[],_,x,_=>x.elim
 | v :: vs,p :: ps,Q,x,h=>by
  obtain ⟨⟨b,its,rfl,ht,hs⟩,r⟩:=x
  obtain ⟨o,ho,hc,n,hd⟩:=id ht
  rw [List.mapM_cons]
  refine wpAny_bind ?_
  rw [kas_first_eq]
  refine wpAny_bind (wpAny_typeOf (T := "tuple") ⟨o, ho, hc⟩ ?_)
  refine wpAny_ite_split (fun z=>absurd z (by decide)) (fun _ => ?_)
  refine wpAny_bind (listItems_at ho hd (wpAny_pure ?_))
  refine wpAny_bind (Zdo (Q:=fun bs s'=>wpAny (model prog w) A (pure (its.toArray[0]? :: bs)) Q E s') r fun fs hf=>wpAny_pure (h _ ?_))
  cases hs with
  | nil=>exact hf
  | cons x t hs=>exact ⟨⟨t,rfl⟩,hf⟩
theorem Zfd:∀ {fs:List (Option Value)} {ps:List (List Str)},WE fs ps→(fs.all (·.isSome))=ps.all (fun p => !p.isEmpty)
 | [],[],_=>rfl
 | none :: fs,[] :: ps,h=>by simp
 | some v :: fs,(x :: _) :: ps,h=>by simp [Zfd h.2]
 | [],_ :: _,h=>by cases h
 | none :: fs,(_ :: _) :: ps,h=>by cases h
 | some v :: fs,[] :: ps,h=>by cases h
 | _ :: _,[],h=>by rename_i o fs; cases o <;> cases h
theorem Zdf:∀ {fs:List (Option Value)} {ps:List (List Str)},WE fs ps→∀ v∈fs.filterMap id,∃ x t,v = .str x t
 | [],[],_,v,hv=>by simp at hv
 | none :: fs,[] :: ps,h,v,hv=>Zdf (show WE fs ps from h) v (by simpa using hv)
 | some u :: fs,(x :: _) :: ps,h,v,hv=>by
  obtain ⟨⟨t,rfl⟩,h2⟩:=(show (∃ t,u = .str x t)∧WE fs ps from h)
  simp only [List.filterMap_cons,id] at hv
  rcases List.mem_cons.mp hv with rfl | hv
  ·exact ⟨x,t,rfl⟩
  ·exact Zdf h2 v hv
 | [],_ :: _,h,_,_=>by cases h
 | none :: fs,(_ :: _) :: ps,h,_,_=>by cases h
 | some v :: fs,[] :: ps,h,_,_=>by cases h
 | o :: _,[],h,_,_=>by cases o <;> cases h
theorem Zhf {fs:List (Option Value)} {p:List Str} {ps:List (List Str)} (h:WE fs (p :: ps)):((fs.toArray[0]?).bind id).isSome = !p.isEmpty:=by
 match fs,p,h with
 | none :: fs,[],h=>rfl
 | some v :: fs,x :: _,h=>rfl
 | [],_,h=>cases h
 | none :: fs,_ :: _,h=>cases h
 | some v :: fs,[],h=>cases h
noncomputable def Zab (ps:List (List Str)):SortKind:=if ps.all (fun p => !p.isEmpty)=true then tuples' true else if (ps.headD []).isEmpty=true then oneType' else general'
theorem ZjT {vs:List Value} {ps:List (List Str)} {Q:SortKind→Shared→Prop} (x:PlsAre s.heap vs ps) (h2:2≤vs.length) (h:Q (Zab ps) s):wpAny (model prog w) A (keyKind' vs.toArray) Q E s:=by
 rw [kat_kind_eq,List.mapM_toArray,map_eq_pure_bind]
 have hl:=x.length
 refine wpAny_bind (wpAny_bind (Zdo x fun fs hf=>wpAny_pure ?_))
 have ha:=Zfd hf
 unfold Zab at h
 refine wpAny_ite_split (fun c => ?_) (fun c => ?_)
 ·have c':fs.all (·.isSome)=true:=by simpa using c
  rw [ha] at c'
  rw [if_pos c'] at h
  refine wpAny_bind (wpAny_rule ?_)
  have hfm:(fs.toArray.filterMap id)=(fs.filterMap id).toArray:=by simp
  rw [hfm,oneTypeOnly'_eq,List.mapM_toArray,map_eq_pure_bind]
  refine wpAny_bind (wpAny_bind (wpAny_bind (kas_mapM (r := Value.type "str") _ (fun v hv Q' hq => ?_) (wpAny_pure ?_))))
  ·obtain ⟨y,t,rfl⟩:=Zdf hf v hv
   exact wpAny_typeOf (typeIs_str s y t) hq
  ·have hne:fs.filterMap id≠[]:=by
    match ps,fs,hf,hl,h2,c' with
    | [],_,_,hl,h2,_=>simp at hl; rw [hl] at h2; simp at h2
    | (y :: _) :: ps,some v :: fs,hf,_,_,_=>simp
    | [] :: ps,_,_,_,_,c'=>simp at c'
    | (_ :: _) :: ps,[],hf,_,_,_=>cases hf
    | (_ :: _) :: ps,none :: _,hf,_,_,_=>cases hf
   obtain ⟨f1,fr,e⟩:=List.exists_cons_of_ne_nil hne
   rw [e]
   have h0 : (List.map (fun _ => Value.type "str") (f1 :: fr)).toArray[0]? = some (Value.type "str") := by simp
   rw [h0]
   have hall2 : ((List.map (fun _ => Value.type "str") (f1 :: fr)).toArray.all fun x => x == Value.type "str") = true := by simp
   simp only [hall2,if_true]
   exact wpAny_pure (wpAny_pure h)
 ·have c':¬ ps.all (fun p => !p.isEmpty)=true:=by
   rw [← ha]
   simpa using c
  rw [if_neg c'] at h
  match ps,hl,h2,hf,h with
  | [],hl,h2,_,_=>simp at hl; rw [hl] at h2; simp at h2
  | p :: ps,hl,h2,hf,h =>
   have hh:=Zhf hf
   refine wpAny_ite_split (fun d => ?_) (fun d => ?_)
   ·rw [hh] at d
    have:p.isEmpty=false:=by simpa using d
    rw [show ((p :: ps).headD []).isEmpty=false from this] at h
    exact wpAny_pure (by simpa using h)
   ·rw [hh] at d
    have hp:p.isEmpty=true:=by simpa using d
    rw [show ((p :: ps).headD []).isEmpty=true from hp,if_pos rfl] at h
    rw [oneTypeOnly'_eq,List.mapM_toArray,map_eq_pure_bind]
    refine wpAny_bind (wpAny_bind (wpAny_bind (kas_mapM (r := Value.type "tuple") _ (fun v hv Q' hq => ?_) (wpAny_pure ?_))))
    ·obtain ⟨i,hi,rfl⟩:=List.getElem_of_mem hv
     obtain ⟨b,its,e1,⟨o,e2,e3,_⟩,_⟩:=x.get i hi
     rw [List.getD_eq_getElem?_getD,List.getElem?_eq_getElem hi] at e1
     rw [show vs[i] = .ref b from e1]
     exact wpAny_typeOf (T := "tuple") ⟨o, e2, e3⟩ hq
    ·match vs,h2 with
     | v :: vr,_ =>
      have h0 : (List.map (fun _ => Value.type "tuple") (v :: vr)).toArray[0]? = some (Value.type "tuple") := by simp
      rw [h0]
      have hall2 : ((List.map (fun _ => Value.type "tuple") (v :: vr)).toArray.all fun x => x == Value.type "tuple") = true := by simp
      simp only [hall2,if_true]
      exact wpAny_pure (wpAny_pure (by simpa using h))
theorem WT {x y:Str} (h:¬ x=y) (xs ys:List Str):plB (x :: xs) (y :: ys)=ZY x y:=if_neg h
theorem Zf0 {fin:Bool} {Q:Bool→Shared→Prop}:∀ (xs ys:List Value) (ps qs:List Str) (i:Nat),StrsAre xs ps→StrsAre ys qs→(plB ps qs=decide (xs.length<ys.length)→Q fin s)→Q (plB ps qs) s→KatLex prog w A true fin Q (xs.zip ys) i s
 | [],ys,ps,qs,i,sx,sy,h1,h2=>by
  cases sx
  rw [List.zip_nil_left]
  refine kat_nil (h1 ?_)
  cases sy <;> simp [plB]
 | v :: xs,[],ps,qs,i,sx,sy,h1,h2=>by
  cases sx
  cases sy
  rw [List.zip_nil_right]
  exact kat_nil (h1 (by simp [plB]))
 | v :: xs,u :: ys,ps,qs,i,sx,sy,h1,h2=>by
  cases sx with
  | cons a t sx =>
   cases sy with
   | cons b u sy =>
    rw [List.zip_cons_cons]
    refine kat_cons (wpAny_eqBool_str ?_)
    by_cases hab:a=b
    ·rw [decide_eq_true hab]
     rw [WQ hab] at h2
     refine kat_yes (Zf0 xs ys _ _ (i+1) sx sy (fun hc=>h1 ?_) h2)
     rw [WQ hab,hc]
     simp
    ·rw [decide_eq_false hab]
     rw [WT hab] at h2
     refine kat_no ?_
     cases hi:(true && i == 0) with
     | true=>exact oneLt_str h2
     | false=>exact kat_one _ _ (lt_str h2)
theorem Zk5 {vs:List Value} {ps:List (List Str)} {i j:Nat} {Q:Bool→Shared→Prop} (x:PlsAre s.heap vs ps) (hu:A.units<cLine) (hi:i<vs.length) (hj:j<vs.length) (h:Q (plB (ps.getD i []) (ps.getD j [])) s) :
  wpAny (model prog w) A (keyLt' (Zab ps) (vs.getD i .none) (vs.getD j .none)) Q E s:=by
 obtain ⟨b,its,e1,t1,s1⟩:=x.get i hi
 obtain ⟨b',its',e2,t2,s2⟩:=x.get j hj
 rw [e1,e2]
 unfold Zab
 split
 ·obtain ⟨o,ho,_,n,hd⟩:=t1
  obtain ⟨o',ho',_,n',hd'⟩:=t2
  refine kat_lt ho hd ho' hd' (Zf0 its its' _ _ 0 s1 s2 (fun hc => ?_) h)
  rw [hc] at h
  simpa using h
 ·split
  ·exact Zm8 hu t1 t2 s1 s2 h
  ·exact Zg1 hu t1 t2 s1 s2 h
end
end DL
end
section
set_option maxHeartbeats 1000000
namespace SO
open PySem PySem.W PyProof.Rows
section
variable {prog:Program} {w:World} {A:Around} {E:Value→Shared→Prop} {s:Shared}
structure CmpR (prog:Program) (w:World) (s:Shared) (a:Addr) (vs:List Value) (κ:SortKind) (lt:Nat→Nat→Bool):Prop where
 kind:2≤vs.length→∀ (h':Heap) (A:Around) (E:Value→Shared→Prop) (Q:SortKind→Shared→Prop),KB s a h'→Q κ { s with heap:=h' }→wpAny (model prog w) A (keyKind' vs.toArray) Q E { s with heap:=h' }
 less:2≤vs.length→∀ (h':Heap) (A:Around) (E:Value→Shared→Prop) (Q:Bool→Shared→Prop) (i j:Nat),A.units<cLine→KB s a h'→i<vs.length→j<vs.length→Q (lt i j) { s with heap:=h' }→wpAny (model prog w) A (keyLt' κ (vs.getD i .none) (vs.getD j .none)) Q E { s with heap:=h' }
 inj:∀ i j,i<vs.length→j<vs.length→vs.getD i .none=vs.getD j .none→i=j
theorem ZfM {g : Heap} {a : Addr} {e1 : Nat} {vs : List Value} {p : List Nat} {f : Bool → Sem PySem.Fin} {P : PySem.Fin → Shared → Prop} (hoa : g.get? a = some (seqObj "list" #[] e1)) (h64 : vs.length < 128) (hp : p.Perm (List.range vs.length))
  (k : ∀ h' c, (∀ b o, b ≠ a → g.get? b = some o → h'.get? b = some o) → h'.get? a = some (seqObj "list" (p.map fun i => vs.getD i .none).toArray c) → wpAny (model prog w) A (f false) P E { s with heap := h' }) :
  wpAny (model prog w) A (seqEpoch a >>= fun e=>Builtin.List.listUpdate (.ref a) (fun _=>(p.map fun i=>vs.getD i Value.none).toArray) >>= fun _=>f (e != e1)) P E { s with heap:=g }:=by
 have z:((p.map fun i=>vs.getD i Value.none).toArray).size≤sizeLine+1:=by
  rw [List.size_toArray,List.length_map,hp.length_eq,List.length_range,sizeLine_eq]
  omega
 have s2:=Heap.SameBut.update g a (Obj.mapSeq fun _=>(p.map fun i=>vs.getD i Value.none).toArray)
 refine wpAny_bind (seqEpoch_at hoa rfl (wpAny_bind (listUpdate_at hoa rfl ?_ (Nat.zero_le _) z)))
 rw [bne_self_eq_false]
 exact k _ _ (fun b o ne e=>s2.extBut b o ne e) (get?_update_seq hoa fun _=>(p.map fun i=>vs.getD i Value.none).toArray)
theorem ZmM {a : Addr} {vs : List Value} {n0 : Nat} {κ : SortKind} {lt : Nat → Nat → Bool} {P : PySem.Fin → Shared → Prop} (hu : A.units < cLine) (ho : s.heap.get? a = some (seqObj "list" vs.toArray n0)) (h64 : vs.length < 128)
  (C:CmpR prog w s a vs κ lt) (O:Ord vs.length lt)
  (k : ∀ p : List Nat, p.Perm (List.range vs.length) → p.Pairwise (fun i j => lt i j = true) → ∀ h' c, KB s a h' → h'.get? a = some (seqObj "list" (p.map fun i => vs.getD i .none).toArray c) → P (.done (.ret .none)) { s with heap := h' }) :
  wpAny (model prog w) A (Builtin.«list.sort» ⟨[.ref a],[]⟩) P E s:=by
 have ha:a<s.heap.objs.size:=Heap.lt_size ho
 have s1:=Heap.SameBut.update s.heap a (Obj.mapSeq fun _=>(#[]:Array Value))
 obtain ⟨e1, ho1⟩ : ∃ e1, (s.heap.update a (Obj.mapSeq fun _ => (#[] : Array Value))).get? a = some (seqObj "list" #[] e1) := ⟨_, get?_update_seq ho fun _ => #[]⟩
 have hk : KB s a (((s.heap.update a (Obj.mapSeq fun _ => (#[] : Array Value))).push (seqObj "tuple" vs.toArray 0)).push (seqObj "list" #[] 0)) := fun b o hb e =>
  Heap.get?_push_of_some _ (Heap.get?_push_of_some _ (s1.extBut b o hb e))
 have hoa : (((s.heap.update a (Obj.mapSeq fun _ => (#[] : Array Value))).push (seqObj "tuple" vs.toArray 0)).push (seqObj "list" #[] 0)).get? a = some (seqObj "list" #[] e1) := Heap.get?_push_of_some _ (Heap.get?_push_of_some _ ho1)
 rw [list_sort_plain]
 refine wpAny_bind (listItems_at ho rfl ?_)
 refine wpAny_bind (listUpdate_at ho rfl ?_ (by rw [List.size_toArray,sizeLine_eq]; omega) (Nat.zero_le _))
 refine wpAny_bind (seqEpoch_at ho1 rfl ?_)
 refine wpAny_bind (wpAny_newTuple ?_ (by show vs.length≤_; rw [sizeLine_eq]; omega))
 refine wpAny_bind (wpAny_newList ?_ (Nat.zero_le _))
 refine wpAny_holding ?_
 show wpAny (model prog w) A _ P E { s with heap := ((s.heap.update a (Obj.mapSeq fun _ => (#[] : Array Value))).push (seqObj "tuple" vs.toArray 0)).push (seqObj "list" #[] 0) }
 generalize hg : ((s.heap.update a (Obj.mapSeq fun _ => (#[] : Array Value))).push (seqObj "tuple" vs.toArray 0)).push (seqObj "list" #[] 0) = g at hk hoa
 dsimp only
 by_cases h2:vs.length<2
 ·have hn2:vs.toArray.size<2:=by rw [List.size_toArray]; omega
  rw [if_pos hn2,if_pos hn2]
  refine wpAny_bind (wpAny_pure (wpAny_bind (wpAny_pure ?_)))
  have hm:(arrOf (SortSt.mk' general' (vs.toArray.zip vs.toArray) #[] 7 none)).map (·.2)=((List.range vs.length).map fun i=>vs.getD i Value.none).toArray:=by
   show (vs.toArray.zip vs.toArray).map (·.2)=_
   match vs,h2 with
   | [],_=>simp
   | [v],_=>simp [List.range_succ]
  have hpw:(List.range vs.length).Pairwise (fun i j=>lt i j=true):=by
   match vs,h2 with
   | [],_=>exact .nil
   | [v],_=>exact List.pairwise_singleton _ _
  have hf:failedOf (SortSt.mk' general' (vs.toArray.zip vs.toArray) #[] 7 none)=none:=rfl
  dsimp only
  rw [hm]
  refine ZfM (f:=fun b=>if b=true then _ else _) hoa h64 (List.Perm.refl _) fun h' c hb hc => ?_
  simp only [Bool.false_eq_true,if_false]
  exact wpAny_pure (k _ (List.Perm.refl _) hpw h' c (fun b o ne e=>hb b o ne (hk b o ne e)) hc)
 ·have hn2:¬ vs.toArray.size<2:=by rw [List.size_toArray]; omega
  rw [if_neg hn2,if_neg hn2]
  refine wpAny_bind (C.kind (by omega) g A E _ hk ?_)
  refine wpAny_bind (wpAny_mono (Zlk (κ:=κ) (vs:=vs) (lt:=lt) (Q:=fun st' s' => ∃ p:Array Nat,arrOf st'=p.map (kas_item (vs.toArray.zip vs.toArray))∧failedOf st'=none∧p.toList.Perm (List.range vs.length)∧p.toList.Pairwise (fun i j=>lt i j=true)∧s' = { s with heap:=g })
   (by omega) h64 C.inj (fun E Q i j hi hj hQ=>C.less (by omega) g A E Q i j hu hk hi hj hQ) O fun st' p h1 h2 h3 h4=>⟨p,h3,h4,h1,h2,rfl⟩) ?_ fun _ _ e=>e)
  rintro ⟨⟨⟩,st'⟩ s' ⟨p,har,hf,hA,hS,rfl⟩
  dsimp only
  rw [kat_snds rfl har,hf]
  refine ZfM (f:=fun b=>if b=true then _ else _) hoa h64 hA fun h' c hb hc => ?_
  simp only [Bool.false_eq_true,if_false]
  exact wpAny_pure (k _ hA hS h' c (fun b o ne e=>hb b o ne (hk b o ne e)) hc)
theorem ZmT {T:String} {r d:Addr} {n:Nat} {P:Nat→Value→Prop} {OK:Heap→Prop} {κ:SortKind} {lt:Nat→Nat→Bool} {Q:Value→Shared→Prop} (hu:A.units+2<cLine) (src:KdlSrc prog w T r d n P OK) (hh:A.handled=none) (ok:OK s.heap) (h64:n<128)
  (C:∀ vs a h' tk,ItemsOf P vs n→(∀ b o,s.heap.get? b=some o→b≠a)→(∀ b o,s.heap.get? b=some o→h'.get? b=some o)→CmpR prog w { s with heap:=h',toks:=tk } a vs.toList κ lt) (O:Ord n lt)
  (k:∀ vs,ItemsOf P vs n→∀ p:List Nat,p.Perm (List.range n)→p.Pairwise (fun i j=>lt i j=true)→∀ (h1:Heap) a (h':Heap) tk c,(∀ b o,s.heap.get? b=some o→h1.get? b=some o)→h1.objs.size≤a→(∀ b o,h1.get? b=some o→h'.get? b=some o) →
   h'.get? a = some (seqObj "list" (p.map fun i => vs.toList.getD i .none).toArray c) → Q (.ref a) { s with heap := h', toks := tk }) :
  wpAny (model prog w) A (call (.builtin "sorted") [.ref r]) Q E s := by
 refine Calls.call_function_entry kind_sorted plain_sorted entry_sorted (args_sorted1 _) ?_
 unfold Builtin.«sorted»
 refine wpAny_bind (m := checkCount "sorted" 1 1 _) (wpAny_pure ?_)
 refine wpAny_bind (kdu_collect src hh ok (by rw [sizeLine_eq]; omega) fun h1 tk acc k1 hI => ?_)
 have hlen:acc.toList.length=n:=by rw [Array.length_toList]; exact hI.1
 refine wpAny_bind (wpAny_newList ?_ (by rw [sizeLine_eq,hlen]; omega))
 have hoL : (h1.push (seqObj "list" acc.toList.toArray 0)).get? h1.objs.size = some (seqObj "list" acc.toList.toArray 0) := Heap.get?_push_size _ rfl
 have keep : ∀ b o, h1.get? b = some o → (h1.push (seqObj "list" acc.toList.toArray 0)).get? b = some o := fun b o q => Heap.get?_push_of_some _ q
 show wpAny _ _ _ _ _ { s with heap := h1.push (seqObj "list" acc.toList.toArray 0), toks := tk }
 generalize h1.push (seqObj "list" acc.toList.toArray 0) = g at hoL keep
 refine wpAny_bind (wpAny_holding (wpAny_call_entry slot_list_sort ⟨_,hoL,rfl⟩ entry_list_sort ?body (args_list_sort _)))
 case body =>
  refine ZmM (s:={ s with heap:=g,toks:=tk }) (by show _<_; omega) hoL (by omega) (C acc _ g tk hI (fun b o e=>Nat.ne_of_lt (Heap.lt_size (k1 b o e))) fun b o e=>keep b o (k1 b o e)) (by rw [hlen]; exact O) fun p hp hpw h' c hb hc => ?_
  refine ⟨_,rfl,wpAny_pure ⟨_,rfl,?_⟩⟩
  rw [hlen] at hp
  exact k acc hI p hp hpw h1 _ h' tk c k1 (Nat.le_refl _) (fun b o e=>hb b o (Nat.ne_of_lt (Heap.lt_size e)) (keep b o e)) hc
end
end SO
namespace DL
open PySem PySem.Spec PyProof.Rows L2 PySem.W SO
theorem Zlm (a:Str):ZY a a=false:=by simp [ZY]
theorem ZlJ {a b c:Str} (h1:ZY a b=true) (h2:ZY b c=true):ZY a c=true:=by
 simp only [ZY,decide_eq_true_eq] at *
 exact List.lt_trans h1 h2
theorem ZhL {a b:Str} (h:a≠b) (h1:ZY a b=false):ZY b a=true:=by
 simp only [ZY,decide_eq_true_eq,decide_eq_false_iff_not] at *
 have h2:=List.not_lt.mp h1
 by_cases h3:b.cps.toList<a.cps.toList
 ·exact h3
 ·exact absurd (ZaQ (List.le_antisymm (List.not_lt.mp h3) h2)) h
theorem Zbp:∀ a:List Str,plB a a=false
 | []=>rfl
 | x :: xs=>by rw [WQ rfl]; exact Zbp xs
theorem Q4:∀ {a b c:List Str},plB a b=true→plB b c=true→plB a c=true
 | [],[],c,h,_=>by cases h
 | [],_ :: _,[],_,h=>by cases h
 | [],_ :: _,_ :: _,_,_=>rfl
 | _ :: _,[],_,h,_=>by cases h
 | _ :: _,_ :: _,[],_,h=>by cases h
 | x :: xs,y :: ys,z :: zs,h1,h2=>by
  by_cases e1:x=y
  ·subst e1
   rw [WQ rfl] at h1
   by_cases e2:x=z
   ·subst e2
    rw [WQ rfl] at h2 ⊢
    exact Q4 h1 h2
   ·rw [WT e2] at h2 ⊢
    exact h2
  ·rw [WT e1] at h1
   by_cases e2:y=z
   ·subst e2
    rw [WT e1]
    exact h1
   ·rw [WT e2] at h2
    have h3:=ZlJ h1 h2
    by_cases e3:x=z
    ·subst e3
     rw [Zlm] at h3
     cases h3
    ·rw [WT e3]
     exact h3
theorem Zam:∀ {a b:List Str},a≠b→plB a b=false→plB b a=true
 | [],[],h,_=>absurd rfl h
 | [],_ :: _,_,h=>by cases h
 | _ :: _,[],_,_=>rfl
 | x :: xs,y :: ys,h,h1=>by
  by_cases e:x=y
  ·subst e
   rw [WQ rfl] at h1 ⊢
   exact Zam (fun z=>h (by rw [z])) h1
  ·rw [WT e] at h1
   rw [WT fun z=>e z.symm]
   exact ZhL e h1
noncomputable def Wq (a b:List Str):Bool:=!plB b a
noncomputable def Zs (ps:List (List Str)):List (List Str):=ps.mergeSort Wq
theorem Y8 (ps:List (List Str)):(Zs ps).Perm ps:=List.mergeSort_perm _ _
theorem ZdJ (ps:List (List Str)):(Zs ps).Pairwise (fun a b=>Wq a b=true):=by
 refine List.pairwise_mergeSort (fun a b c h1 h2 => ?_) (fun a b => ?_) ps
 ·simp only [Wq,Bool.not_eq_true'] at *
  cases hca:plB c a with
  | false=>rfl
  | true =>
   by_cases e:a=b
   ·subst e
    rw [hca] at h2
    cases h2
   ·have h3:=Zam (fun z=>e z.symm) h1
    rw [Q4 hca h3] at h2
    cases h2
 ·cases h:plB b a with
  | false=>simp [Wq,h]
  | true =>
   have:plB a b=false:=by
    cases h2:plB a b with
    | false=>rfl
    | true =>
     have:=Q4 h h2
     rw [Zbp] at this
     cases this
   simp [Wq,this]
theorem ZfW {ps qs:List (List Str)} (hp:qs.Perm ps) (hw:qs.Pairwise (fun a b=>plB a b=true)):qs=Zs ps:=by
 refine List.Perm.eq_of_pairwise (le:=fun a b=>Wq a b=true) (fun a b _ _ h1 h2 => ?_) (hw.imp fun {a b} h => ?_) (ZdJ ps) (hp.trans (Y8 ps).symm)
 ·simp only [Wq,Bool.not_eq_true'] at h1 h2
  by_cases e:a=b
  ·exact e
  ·have:=Zam e h2
   rw [h1] at this
   cases this
 ·cases h2:plB b a with
  | false=>simp [Wq,h2]
  | true =>
   have:=Q4 h h2
   rw [Zbp] at this
   cases this
theorem Zj4 {ps:List (List Str)} (hn:ps.Nodup):Ord ps.length (fun i j=>plB (ps.getD i []) (ps.getD j [])):=by
 have apart:∀ i j,i<ps.length→j<ps.length→i≠j→ps.getD i []≠ps.getD j []:=fun i j hi hj ne e=>by
  rw [List.getD_eq_getElem?_getD,List.getD_eq_getElem?_getD,List.getElem?_eq_getElem hi,List.getElem?_eq_getElem hj] at e
  exact ne ((List.getElem_inj hn).mp e)
 refine ⟨fun i j hi hj ne h=>Zam (apart i j hi hj ne) h,fun i j hi hj h => ?_,fun i j k hi hj hk h1 h2=>Q4 h1 h2⟩
 cases h2:plB (ps.getD j []) (ps.getD i []) with
 | false=>rfl
 | true =>
  have:=Q4 h h2
  rw [Zbp] at this
  cases this
section
variable {prog:Program} {w:World} {A:Around} {E:Value→Shared→Prop} {s:Shared}
theorem ZeL:∀ {its:List Value} {p q:List Str},StrsAre its p→StrsAre its q→p=q
 | _,_,_,.nil,.nil=>rfl
 | _,_,_,.cons x t r,.cons _ _ r2=>by rw [ZeL r r2]
theorem Zc4 {h:Heap}:∀ {vs:List Value} {ps:List (List Str)},PlsAre h vs ps→∀ i,i<vs.length→∃ b its,vs.getD i .none = .ref b∧IsTup h b its.toArray∧StrsAre its (ps.getD i [])
 | [],[],_,i,hi=>absurd hi (by simp)
 | v :: vs,p :: ps,x,0,_=>by
  obtain ⟨b,its,h1,h2,h3⟩:=x.1
  exact ⟨b,its,h1,h2,h3⟩
 | v :: vs,p :: ps,x,i+1,hi=>Zc4 x.2 i (by simpa using hi)
theorem ZkZ {h:Heap} {vs:List Value} {ps:List (List Str)} (x:PlsAre h vs ps) (hn:ps.Nodup) (hl:vs.length=ps.length) (i j:Nat) (hi:i<vs.length) (hj:j<vs.length) (e:vs.getD i .none=vs.getD j .none):i=j:=by
 obtain ⟨b,its,h1,⟨o,g1,g2,n1,g3⟩,h3⟩:=Zc4 x i hi
 obtain ⟨b',its',h1',⟨o',g1',g2',n1',g3'⟩,h3'⟩:=Zc4 x j hj
 rw [h1,h1'] at e
 cases e
 rw [g1] at g1'
 cases g1'
 rw [g3] at g3'
 have e2:its.toArray=its'.toArray:=by injection g3'
 have e3:its=its':=by simpa using e2
 subst e3
 have e4:=ZeL h3 h3'
 rw [List.getD_eq_getElem?_getD,List.getD_eq_getElem?_getD,List.getElem?_eq_getElem (by omega),List.getElem?_eq_getElem (by omega)] at e4
 exact (List.getElem_inj hn).mp e4
theorem Zjy {vs:List Value} {ps:List (List Str)} {a:Addr} {h':Heap} {tk:Nat} (hn:ps.Nodup) (x:PlsAre s.heap vs ps) (ha:∀ b o,s.heap.get? b=some o→b≠a) (hk:∀ b o,s.heap.get? b=some o→h'.get? b=some o) :
  CmpR prog w { s with heap:=h',toks:=tk } a vs (Zab ps) (fun i j=>plB (ps.getD i []) (ps.getD j [])):=by
 have y:∀ g,KB { s with heap:=h',toks:=tk } a g→PlsAre g vs ps:=fun g hg=>x.mono fun b _ o e=>hg b o (ha b o e) (hk b o e)
 exact ⟨fun h2 g A E Q hg hQ=>ZjT (s:={ s with heap:=g,toks:=tk }) (y g hg) h2 hQ,fun h2 g A E Q i j hu hg hi hj hQ=>Zk5 (s:={ s with heap:=g,toks:=tk }) (y g hg) hu hi hj hQ,ZkZ x hn x.length⟩
end
end DL
end
section
set_option maxHeartbeats 1000000
namespace DL
open PySem PySem.Spec PyProof.Rows L2 PySem.W SO
noncomputable def QA:List D→Option (List (List Str))
 | []=>some []
 | .tup ds :: r=>match WN ds,QA r with
  | some p,some ps=>some (p :: ps)
  | _,_=>none
 | _ :: _=>none
theorem ZfR:∀ {ds:List D} {ps:List (List Str)},QA ds=some ps→ds=ps.map fun p=>D.tup (p.map D.str)
 | [],ps,e=>by cases e; rfl
 | d :: ds,ps,e=>by
  unfold QA at e
  split at e
  ·rename_i h; cases h
  ·rename_i es r h
   cases h
   split at e
   ·rename_i p qs h1 h2
    cases e
    rw [List.map_cons,← ZfR h2,Zda h1]
   ·cases e
  ·cases e
theorem Zge:∀ (ps:List (List Str)),QA (ps.map fun p=>D.tup (p.map D.str))=some ps
 | []=>rfl
 | p :: ps=>by
  show (match WN (p.map D.str),QA (ps.map fun p=>D.tup (p.map D.str)) with | some p,some ps=>some (p :: ps) | _,_=>none)=_
  rw [Zc6,Zge ps]
section
variable {X:Cx} {EX:EXT} {pins:List (Addr×Obj)} {σ:L2.St} {H:Hp} {s:Shared} {O:List Addr}
theorem Zfj (I:Inv X pins σ H s):∀ {ps:List (List Str)} {vs:List V} {us:List Value},Reps X.K O H (ps.map fun p=>D.tup (p.map D.str)) vs→Vals vs us→PlsAre s.heap us ps
 | [],vs,us,r,u=>by
  rw [List.map_nil,Reps.nil_i] at r
  subst r
  cases u
  trivial
 | p :: ps,vs,us,r,u=>by
  obtain ⟨v,rs,rfl,r1,r2⟩:=Reps.cons_i.mp r
  rw [Rep.tup_i] at r1
  obtain ⟨a,ys,rfl,q,r3⟩:=r1
  cases u with
  | cons u1 u2 =>
   cases u1
   obtain ⟨its,t1,t2,_⟩:=I.tuple (SqT.of q)
   refine ⟨⟨a,its,rfl,t2,?_⟩,Zfj I r2 u2⟩
   have hl1:=t1.length
   have hl2:=r3.length
   rw [List.length_map] at hl2
   refine Zcu (by omega) fun i v x h1 h2 => ?_
   obtain ⟨y,h3,h4⟩:=r3.get (i:=i) (d:=D.str x) (by rw [List.getElem?_map,h2]; rfl)
   rw [Rep.str_i] at h4
   subst h4
   obtain ⟨u,h5,t,h6⟩:=t1.get h3
   rw [h1] at h5
   cases h5
   exact ⟨t,h6⟩
theorem ZiC {st:Sto} {Q:VK} {its:List Value} {vs:List V} {ps:List (List Str)} {ix:List Nat} {a:Addr} {h1 h':Heap} {tk c:Nat} (I:Inv X pins σ H s) (W:WR X.K O H st) (rs:Reps X.K O H (ps.map fun p=>D.tup (p.map D.str)) vs) (rv:Vals vs its)
  (R:Run X.K EX O H (.ok ((Zs ps).map fun p=>D.tup (p.map D.str)) st) (New X.K Q)) (hp:ix.Perm (List.range ps.length)) (hw:ix.Pairwise (fun i j=>plB (ps.getD i []) (ps.getD j [])=true)) (h64:ps.length<128)
  (k1 : ∀ b o, s.heap.get? b = some o → h1.get? b = some o) (ha : h1.objs.size ≤ a) (hk : ∀ b o, h1.get? b = some o → h'.get? b = some o) (hg : h'.get? a = some (seqObj "list" (ix.map fun i => its.getD i .none).toArray c)) :
  ∃ v H',Inv X pins σ H' { s with heap:=h',toks:=tk }∧RelV v (.ref a)∧Q v H':=by
 have hl:=rv.length
 have hl2:=rs.length
 rw [List.length_map] at hl2
 have hix:ix.map (fun i=>ps.getD i [])=Zs ps:=by
  refine ZfW ?_ (List.pairwise_map.mpr hw)
  refine (hp.map (fun i=>ps.getD i [])).trans (List.Perm.of_eq ?_)
  refine List.ext_getElem (by simp) fun i h1 h2 => ?_
  simp [List.getD_eq_getElem?_getD,List.getElem?_eq_getElem h2]
 have hb:∀ i∈ix,i<ps.length:=fun i hi=>by
  have:=hp.mem_iff.mp hi
  simpa using this
 have I1:Inv X pins σ H { s with heap:=h1,toks:=tk }:=I.kept k1
 refine ⟨.ref a,upd H a (.lst (ix.map fun i=>vs.getD i .non)),I1.laid hk ha ⟨?_,ix.map (fun i=>its.getD i .none),c,?_,hg⟩,rfl,?_⟩
 ·have h0:=hp.length_eq
  simp only [List.length_map,List.length_range] at h0 ⊢
  rw [sizeLine_eq]
  omega
 ·refine Zca ix fun i hi => ?_
  have:=hb i hi
  obtain ⟨u,h1,h2⟩:=rv.get (i:=i) (x:=vs.getD i .non) (by rw [List.getD_eq_getElem?_getD,List.getElem?_eq_getElem (by omega)]; rfl)
  rw [List.getD_eq_getElem?_getD (l:=its),h1]
  exact h2
 ·refine Run.now (k:=New X.K Q) R W a _ ?_ (I1.hok.fresh ha)
  rw [← hix,List.map_map]
  refine Zdc ix fun i hi => ?_
  have:=hb i hi
  obtain ⟨v,h1,h2⟩:=rs.get (i:=i) (d:=D.tup ((ps.getD i []).map D.str)) (by rw [List.getElem?_map,List.getD_eq_getElem?_getD,List.getElem?_eq_getElem this]; rfl)
  rw [List.getD_eq_getElem?_getD (l:=vs),h1]
  exact h2
end
noncomputable def Wt:List D→Sto→Out (List D)
 | [.res i],st=>match st[i]? with
  | some (.dtt ds)=>match QA (ds.map (·.1)) with
   | some ps=>if ps.Nodup∧ps.length<128 then .ok ((Zs ps).map fun p=>D.tup (p.map D.str)) st else .bad
   | none => .bad
  | _ => .bad
 | _,_ => .bad
section
variable {X:Cx} {EX:EXT}
theorem ZbB (hc : X.calm = true) (hu : X.A.units + 2 < cLine) : Za3 X EX (.builtin "sorted") Wt := by
 intro pins s σ H xs us Q I rx h
 obtain ⟨O,ds,st,W,r,R⟩:=h
 unfold Wt at R
 split at R
 ·rename_i i
  obtain ⟨v,rfl,rv⟩:=r.one_of
  rw [Rep.res_i] at rv
  obtain ⟨a,rfl,q⟩:=rv
  split at R
  ·rename_i kvs hk
   obtain ⟨vs,e2,kv⟩:=W.at_ _ _ _ q hk
   split at R
   ·rename_i ps hps
    by_cases hok:ps.Nodup∧ps.length<128
    ·rw [if_pos hok] at R
     cases rx with
     | cons r0 rt =>
      cases rt
      cases r0
      obtain ⟨z,hd,xs,kt,o,es,ep,g1,g2,g3,g4,g5,g6⟩:=WH I.hok (.inl e2)
      have hl:es.size=xs.length:=by
       have:=congrArg List.length g4
       simpa using this
      have rs:=ZcH kv kt
      rw [ZfR hps] at rs
      have hlp:ps.length=xs.length:=by
       have:=rs.length
       simpa using this
      have refs:∀ (l:List (List Key×Addr×Value)),Vals (l.map fun x=>V.ref x.2.1) (l.map fun x=>Value.ref x.2.1):=by
       intro l
       induction l with
       | nil=>exact .nil
       | cons x l ih=>exact .cons rfl ih
      have hacc:∀ acc:Array Value,ItemsOf (fun i v => ∃ e,es[i]?=some e∧v=e.key) acc es.size→acc.toList=xs.map fun x=>Value.ref x.2.1:=by
       intro acc hit
       refine List.ext_getElem? fun j => ?_
       rw [Array.getElem?_toList,List.getElem?_map]
       by_cases hj:j<acc.size
       ·obtain ⟨e,h1,h2⟩:=hit.2 j acc[j] (Array.getElem?_eq_getElem hj)
        rw [Array.getElem?_eq_getElem hj,h2]
        have h3:es.toList[j]?=some e:=by rw [Array.getElem?_toList]; exact h1
        rw [g4,List.getElem?_map] at h3
        obtain ⟨x,h4,h5⟩:=Option.map_eq_some_iff.mp h3
        rw [h4,← h5]
        rfl
       ·have:=hit.1
        rw [Array.getElem?_eq_none (by omega),List.getElem?_eq_none (by omega)]
        rfl
      have P0:PlsAre s.heap (xs.map fun x=>Value.ref x.2.1) ps:=Zfj I rs (refs xs)
      refine ZmT (κ:=Zab ps) (lt:=fun i j=>plB (ps.getD i []) (ps.getD j [])) hu (Zhd (d:=a) (es:=es) (ep:=ep) hd) (I.ok.hd hc) ⟨o,g1,g2,g3⟩ (by omega) (fun acc b h' tk hI ha hk' => ?_) (by rw [hl,← hlp]; exact Zj4 hok.1) fun acc hI ix hp hw h1 b h' tk c k1 hb hk' hg => ?_
      ·rw [hacc acc hI]
       exact Zjy hok.1 P0 ha hk'
      ·rw [hl,← hlp] at hp
       rw [hacc acc hI] at hg
       exact ZiC I W rs (refs xs) R hp hw hok.2 k1 hb hk' hg
    ·rw [if_neg hok] at R; exact R.elim
   ·exact R.elim
  ·exact R.elim
 ·exact R.elim
end
end DL
namespace DL
open PySem
theorem Za7 {A:Around} (h:A.units+64<cLine):A.units+2<cLine:=by omega
end DL
end
section
set_option maxHeartbeats 1000000
namespace DL
open PySem PySem.Spec PyProof.Rows L2
noncomputable def Rs (xs:Array Nat):Prop:=xs.toList.Pairwise (· < ·)
theorem Rs.lt {xs:Array Nat} (h:Rs xs) {i j:Nat} (hij:i<j) (hj:j<xs.size):xs.getD i 0<xs.getD j 0:=by
 have hi:i<xs.size:=by omega
 have:=List.pairwise_iff_getElem.mp h i j (by simpa using hi) (by simpa using hj) hij
 simpa [Array.getD,hi,hj] using this
theorem Zb4 {xs:Array Nat} (h:Rs xs) (j:Nat):∀ (f lo hi:Nat),hi - lo≤f→lo≤hi→hi≤xs.size→(∀ k,k<lo→xs.getD k 0<j)→(∀ k,hi≤k→k<xs.size→j≤xs.getD k 0) →
  SetTable.below.go xs j f lo hi≤xs.size∧(∀ k,k<SetTable.below.go xs j f lo hi→xs.getD k 0<j)∧∀ k,SetTable.below.go xs j f lo hi≤k→k<xs.size→j≤xs.getD k 0
 | 0,lo,hi,hf,hlh,hs,h1,h2=>by
  have:lo=hi:=by omega
  subst this
  unfold SetTable.below.go
  exact ⟨hs,h1,h2⟩
 | f+1,lo,hi,hf,hlh,hs,h1,h2=>by
  unfold SetTable.below.go
  by_cases hc:lo<hi
  ·rw [if_pos hc]
   have hm1:lo≤(lo+hi) / 2:=by omega
   have hm2:(lo+hi) / 2<hi:=by omega
   have hms:(lo+hi) / 2<xs.size:=by omega
   have eD:xs.getD ((lo+hi) / 2) j=xs.getD ((lo+hi) / 2) 0:=by simp [Array.getD,hms]
   dsimp only
   rw [eD]
   by_cases hd:xs.getD ((lo+hi) / 2) 0<j
   ·rw [if_pos hd]
    refine Zb4 h j f _ hi (by omega) (by omega) hs (fun k hk => ?_) h2
    by_cases e:k=(lo+hi) / 2
    ·rw [e]; exact hd
    ·exact Nat.lt_trans (h.lt (by omega) hms) hd
   ·rw [if_neg hd]
    refine Zb4 h j f lo _ (by omega) hm1 (by omega) h1 fun k hk hks => ?_
    by_cases e:k=(lo+hi) / 2
    ·rw [e]; omega
    ·have:=h.lt (show (lo+hi) / 2<k by omega) hks
     omega
  ·rw [if_neg hc]
   have:lo=hi:=by omega
   subst this
   exact ⟨hs,h1,h2⟩
theorem Zgu {xs:Array Nat} (h:Rs xs) (j:Nat):SetTable.below xs j≤xs.size∧(∀ k,k<SetTable.below xs j→xs.getD k 0<j)∧∀ k,SetTable.below xs j≤k→k<xs.size→j≤xs.getD k 0 :=
 Zb4 h j xs.size 0 xs.size (by omega) (Nat.zero_le _) (Nat.le_refl _) (fun k hk=>by omega) fun k hk hks=>by omega
noncomputable def live (t:SetTable) (j:Nat):Prop:=t.place[SetTable.below t.place j]?=some j
theorem Zcb {t:SetTable} {j:Nat} (h:t.slot j = .empty∨t.slot j = .dummy):¬ live t j:=by
 intro hl
 unfold live at hl
 have:t.slot j = .live (SetTable.below t.place j):=by
  unfold SetTable.slot
  simp [hl]
 rw [this] at h
 rcases h with h | h <;> cases h
theorem Zb5 {t:SetTable} {f:Nat→Int} {h:Int}:∀ (n:Nat) (p:SetTable.Probe) {j:Nat} {d:Option Nat},(∀ k,p.dummy=some k→¬ live t k)→SetTable.probe.go t f h n p=some (.empty j d)→¬ live t (d.getD j)
 | 0,p,j,d,_,e=>by unfold SetTable.probe.go at e; cases e
 | n+1,p,j,d,hp,e=>by
  unfold SetTable.probe.go at e
  have hadv:∀ (q:SetTable.Probe),(t.advance q).dummy=q.dummy:=fun q=>by
   unfold SetTable.advance
   split <;> rfl
  cases hs:t.slot p.j with
  | empty =>
   rw [hs] at e
   cases e
   cases hd:p.dummy with
   | none=>exact Zcb (.inl hs)
   | some k=>exact hp k hd
  | dummy =>
   rw [hs] at e
   refine Zb5 n _ (fun k hk => ?_) e
   rw [hadv] at hk
   cases hk
   exact Zcb (.inr hs)
  | live i =>
   rw [hs] at e
   dsimp only at e
   split at e
   ·cases e
   ·refine Zb5 n _ (fun k hk => ?_) e
    rw [hadv] at hk
    exact hp k hk
theorem Zhc {t:SetTable} {h:Int} {j:Nat} {b:Bool} (e:t.freeSlot h=some (j,b)):¬ live t j:=by
 unfold SetTable.freeSlot at e
 split at e
 ·rename_i j' d he
  cases e
  exact Zb5 _ _ (fun k hk=>by cases hk) he
 ·cases e
theorem ZeD {t:SetTable} {j:Nat} (h:Rs t.place) (hl:¬ live t j):Rs (t.put j).1.place:=by
 obtain ⟨a,b,c⟩:=Zgu h j
 show Rs (SetTable.insertAt t.place (SetTable.below t.place j) j)
 unfold live at hl
 generalize SetTable.below t.place j=p at *
 unfold Rs at *
 have e:(SetTable.insertAt t.place p j).toList=t.place.toList.take p++j :: t.place.toList.drop p:=by
  unfold SetTable.insertAt
  simp [Array.toList_extract,List.extract]
  rw [List.take_of_length_le (by simp)]
 have hsp:t.place.toList=t.place.toList.take p++t.place.toList.drop p:=(List.take_append_drop _ _).symm
 rw [hsp,List.pairwise_append] at h
 rw [e,List.pairwise_append]
 refine ⟨h.1,List.pairwise_cons.mpr ⟨fun x hx => ?_,h.2.1⟩,fun x hx y hy => ?_⟩
 ·obtain ⟨k,hk,rfl⟩:=List.getElem_of_mem hx
  have hk':p+k<t.place.size:=by simp at hk; omega
  have h1:=c (p+k) (by omega) hk'
  have h2:(t.place.toList.drop p)[k]=t.place.getD (p+k) 0:=by simp [Array.getD,hk']
  rw [h2]
  by_cases hz:k=0
  ·subst hz
   refine Nat.lt_of_le_of_ne h1 fun z=>hl ?_
   rw [Array.getElem?_eq_getElem (by omega)]
   simp only [Nat.add_zero] at z hk'
   rw [z]
   simp [Array.getD,hk']
  ·have hp0:p<t.place.size:=by omega
   have h3:=c p (Nat.le_refl _) hp0
   have h4:t.place.getD p 0<t.place.getD (p+k) 0:=by
    have h5:=List.pairwise_iff_getElem.mp h.2.1 0 k (by simp; omega) hk (by omega)
    simpa [Array.getD,hk',hp0] using h5
   omega
 ·rcases List.mem_cons.mp hy with rfl | hy
  ·obtain ⟨k,hk,rfl⟩:=List.getElem_of_mem hx
   have hk1:k<p:=by simp at hk; omega
   have hk2:k<t.place.size:=by omega
   have:=b k hk1
   simpa [Array.getD,hk2] using this
  ·exact h.2.2 x hx y hy
theorem ZbZ {α:Type} (f:Nat→Option α):∀ l:List Nat,((l.filterMap fun j=>(f j).map (j,·)).map (·.1)).Sublist l
 | [] => .slnil
 | x :: l=>by
  rw [List.filterMap_cons]
  cases f x with
  | none=>exact (ZbZ f l).cons x
  | some y=>exact (ZbZ f l).cons₂ x
theorem Zje {mask finger moves:Nat} {led plain:Bool} {hs:Array Int} {t:SetTable} {o:Array Nat} (h:SetTable.laid mask finger moves led plain hs=some (t,o)):Rs t.place:=by
 unfold SetTable.laid at h
 cases hc:SetTable.layClean mask hs with
 | none=>rw [hc] at h; cases h
 | some ow =>
  rw [hc] at h
  have h':=Option.some.inj h
  cases h'
  unfold Rs
  dsimp only
  exact List.Pairwise.sublist (ZbZ _ _) List.pairwise_lt_range
end DL
end
section
set_option maxHeartbeats 1000000
namespace DL
open PySem PySem.Spec PyProof.Rows L2
theorem Zhr {t:SetTable} {es:Array (Int×Value)} {h:Int} {x:Value} (hr:t.plain=true→Rs t.place) (hp:(layNew t es h x).2.1.plain=true):Rs (layNew t es h x).2.1.place:=by
 have ht:=(ZbT t es h x).2 hp
 unfold layNew at hp ⊢
 cases hf:t.freeSlot h with
 | none=>rw [hf] at hp; cases hp
 | some q =>
  obtain ⟨j,b⟩:=q
  rw [hf] at hp
  dsimp only at hp ⊢
  unfold SetTable.orStandIn at hp ⊢
  split
  ·exact ZeD (hr ht) (Zhc hf)
  ·rename_i hc
   rw [if_neg hc] at hp
   cases hp
theorem Zhk {t:SetTable} {es:Array (Int×Value)} {k:Nat} (hp:(relayAll t es k).2.1.plain=true):Rs (relayAll t es k).2.1.place:=by
 unfold relayAll at hp ⊢
 cases hr:t.relaid (es.map (·.1)) k with
 | none=>rw [hr] at hp; cases hp
 | some q =>
  obtain ⟨t',o⟩:=q
  rw [hr] at hp
  dsimp only at hp ⊢
  split
  ·exact Zje hr
  ·rename_i hc
   rw [if_neg hc] at hp
   cases hp
structure TabI (w:World) (t:SetTable) (n:Nat):Prop where
 fits:t.fits n=true
 led:t.led = !byT w
 plain:t.plain=true→Rs t.place
section
variable (prog:Program) (w:World)
noncomputable def SetI (h:Heap) (a:Addr) (xs:List Int):Prop :=
 ∃ o es ep t,h.get? a=some o∧o.ExactSet∧o.data = .set es ep t∧TabI w t es.size∧ElemsOf (intKind prog w) es.toList∧IntsAre (es.toList.map (·.2)) xs∧xs.Nodup∧es.size<scanBound
end
section
variable {prog:Program} {w:World} {A:Around} {E:Value→Shared→Prop} {s:Shared} {a:Addr}
theorem Zc2:∀ {vs:List Value} {xs:List Int},IntsAre vs xs→∀ x,x∈xs ↔ ∃ v∈vs,(intKind prog w).is x v=true
 | _,_,.nil,x=>⟨(fun h=>by cases h),fun ⟨v,h,_⟩=>by cases h⟩
 | _,_,.cons y t r,x=>by
  have ih:=Zc2 r x
  constructor
  ·intro h
   rcases List.mem_cons.mp h with rfl | h
   ·exact ⟨_,List.mem_cons_self,intKind_is _ _ _ _⟩
   ·obtain ⟨v,h1,h2⟩:=ih.mp h
    exact ⟨v,List.mem_cons_of_mem _ h1,h2⟩
  ·rintro ⟨v,h1,h2⟩
   rcases List.mem_cons.mp h1 with rfl | h1
   ·have e:x=y:=(intKind prog w).inj _ x y h2 (intKind_is _ _ _ _)
    rw [e]
    exact List.mem_cons_self
   ·exact List.mem_cons_of_mem _ (ih.mpr ⟨v,h1,h2⟩)
theorem Zgd:∀ {vs vs':List Value},vs.Perm vs'→∀ {xs:List Int},IntsAre vs xs→∃ xs',IntsAre vs' xs'∧xs.Perm xs':=by
 intro vs vs' p
 induction p with
 | nil=>intro xs h; exact ⟨xs,h,.refl _⟩
 | cons v _ ih =>
  intro xs h
  cases h with
  | cons x t r =>
   obtain ⟨xs',h1,h2⟩:=ih r
   exact ⟨x :: xs',.cons x t h1,h2.cons x⟩
 | swap u v l =>
  intro xs h
  cases h with
  | cons x t r =>
   cases r with
   | cons y t' r'=>exact ⟨y :: x :: _,.cons y t' (.cons x t r'),.swap y x _⟩
 | trans _ _ ih1 ih2 =>
  intro xs h
  obtain ⟨ys,h1,h2⟩:=ih1 h
  obtain ⟨zs,h3,h4⟩:=ih2 h1
  exact ⟨zs,h3,h2.trans h4⟩
theorem ints_snoc:∀ {vs:List Value} {xs:List Int},IntsAre vs xs→∀ (x:Int) (t:Tok),IntsAre (vs++[.int x t]) (xs++[x])
 | _,_,.nil,x,t => .cons x t .nil
 | _,_,.cons y u r,x,t => .cons y u (ints_snoc r x t)
theorem Zf3 {es es1:Array (Int×Value)} {ep:Nat} {t t2:SetTable} {o:Obj} {xs1:List Int} {wd:Bool} {g:Bool→Sem Unit} {R:Option Bool→Shared→Prop} (hg:∀ (b:Bool) (s₁:Shared) (Q':Unit→Shared→Prop),Q' () s₁→wpAny (model prog w) A (g b) Q' E s₁)
  (ho:s.heap.get? a=some o) (hx:o.ExactSet) (hd:o.data = .set es ep t) (hb:es1.size<scanBound) (hT:TabI w t2 es1.size) (hel:ElemsOf (intKind prog w) es1.toList) (hs:IntsAre (es1.toList.map (·.2)) xs1) (hn:xs1.Nodup)
  (h:∀ h' xs',Heap.SameBut a s.heap h'→SetI prog w h' a xs'→xs1.Perm xs'→R (some true) { s with heap:=h' }) :
  wpAny (model prog w) A (do
    storeSet a es1 t2
    if (!wd && t2.tooFull)=true then do
      g (relayAll t2 es1 (SetTable.grown es1.size)).2.2
      storeSet a (relayAll t2 es1 (SetTable.grown es1.size)).1 (relayAll t2 es1 (SetTable.grown es1.size)).2.1
      pure (some true)
     else pure (some true)) R E s:=by
 refine wpAny_bind (wpAny_storeSet_of ho hd ?_ (fits_of_scanBound hb))
 have o1:(s.heap.update a (Obj.putSet es1 t2)).get? a=some { o with data:=.set es1 (ep+1) t2 }:=by
  have q:=Heap.get?_update_self (Obj.putSet es1 t2) ho (by rw [putSet_of es1 t2 hd]; rfl)
  rwa [putSet_of es1 t2 hd] at q
 have b1:=Heap.SameBut.update s.heap a (Obj.putSet es1 t2)
 by_cases hc:(!wd && t2.tooFull)=true
 ·rw [if_pos hc]
  have hp:=relayAll_perm t2 es1 (SetTable.grown es1.size)
  have hf:=relayAll_fits t2 es1 (SetTable.grown es1.size)
  have hl:=Zei t2 es1 (SetTable.grown es1.size)
  have hrs:=Zhk (t:=t2) (es:=es1) (k:=SetTable.grown es1.size)
  generalize relayAll t2 es1 (SetTable.grown es1.size)=Rl at hp hf hl hrs ⊢
  obtain ⟨es2,t3,gv⟩:=Rl
  dsimp only at hp hf hl hrs ⊢
  have hz:es2.size=es1.size:=by simpa using hp.length_eq
  obtain ⟨xs2,hs2,hpx⟩:=Zgd (hp.map (·.2)).symm hs
  refine wpAny_bind (hg _ _ _ (wpAny_bind (wpAny_storeSet_of (s:={ s with heap:=s.heap.update a (Obj.putSet es1 t2) }) o1 rfl ?_ (fits_of_scanBound (by rw [hz]; exact hb)))))
  have o2:((s.heap.update a (Obj.putSet es1 t2)).update a (Obj.putSet es2 t3)).get? a=some { o with data:=.set es2 (ep+1+1) t3 }:=by
   have q:=Heap.get?_update_self (Obj.putSet es2 t3) o1 (by rw [putSet_of es2 t3 rfl]; rfl)
   rwa [putSet_of es2 t3 rfl] at q
  exact wpAny_pure (h _ xs2 (b1.trans (Heap.SameBut.update _ a _)) ⟨_,es2,_,t3,o2,hx,rfl,⟨hf,by rw [hl.1]; exact hT.led,hrs⟩,hel.perm hp,hs2,hpx.nodup_iff.mp hn,by rw [hz]; exact hb⟩ hpx)
 ·rw [if_neg hc]
  exact wpAny_pure (h _ xs1 b1 ⟨_,es1,_,t2,o1,hx,rfl,hT,hel,hs,hn,hb⟩ (.refl _))
theorem add_int {x:Int} {tk:Tok} {xs:List Int} {Q:Bool→Shared→Prop} (hS:SetI prog w s.heap a xs) (hr:xs.length+1<scanBound)
  (h:∀ h' xs' b,Heap.SameBut a s.heap h'→SetI prog w h' a xs'→(∀ y,y∈xs' ↔ y∈xs∨y=x)→xs'.length≤xs.length+1→Q b { s with heap:=h' }) :
  wpAny (model prog w) A (setAddHashed a (.int x tk) ((intKind prog w).hash x)) Q E s:=by
 obtain ⟨o,es,ep,t,ho,hx,hd,hT,hel,hs,hn,hb⟩:=id hS
 have hsz:es.size=xs.length:=by
  have:=hs.length
  simpa using this
 have hkey:(intKind prog w).is x (.int x tk)=true:=intKind_is _ _ _ _
 have hsc:(Value.int x tk).scannable=true:=rfl
 unfold setAddHashed setAddHashedIn
 refine wpAny_holding (wpAny_bind (wpAny_setState_of ho hd hT.fits ?_))
 dsimp only
 rw [byScan_of (knd:=intKind prog w) hsc hb hel,if_pos rfl]
 unfold setAddByScan
 refine wpAny_bind (wpAny_bind (wpAny_rule (wpAny_bind (wpAny_setScan_of (knd:=intKind prog w) hkey ho hd hT.fits hel ?_))))
 cases hf:es.toList.findIdx? (fun e=>(intKind prog w).is x e.2) with
 | some j =>
  dsimp only
  obtain ⟨hj,hp,_⟩:=List.findIdx?_eq_some_iff_getElem.mp hf
  have hm:x∈xs:=(Zc2 hs x).mpr ⟨_,List.mem_map.mpr ⟨_,List.getElem_mem hj,rfl⟩,hp⟩
  refine wpAny_pure (wpAny_pure ?_)
  have e:s = { s with heap:=s.heap }:=by cases s; rfl
  rw [e]
  exact h s.heap xs false (Heap.SameBut.refl a s.heap) hS (fun y=>⟨.inl,fun z=>z.elim id fun z=>z ▸ hm⟩) (Nat.le_succ _)
 | none =>
  dsimp only
  have hm:x ∉ xs:=fun hm=>by
   obtain ⟨v,hv,q⟩:=(Zc2 (prog:=prog) (w:=w) hs x).mp hm
   obtain ⟨e,he,rfl⟩:=List.mem_map.mp hv
   have:=List.findIdx?_eq_none_iff.mp hf e he
   rw [q] at this
   cases this
  have hg : ∀ (b : Bool) {s₁ : Shared} {Q' : Unit → Shared → Prop}, Q' () s₁ → wpAny (model prog w) A (match b with | true => rule "set.scan.the-table-gave-way" | false => pure ()) Q' E s₁ := by
   intro b s₁ Q' hq
   cases b
   ·exact wpAny_pure hq
   ·exact wpAny_rule hq
  have hp:=layNew_perm t es ((intKind prog w).hash x) (.int x tk)
  have hfit:=layNew_fits t es ((intKind prog w).hash x) (.int x tk)
  have hl:=ZbT t es ((intKind prog w).hash x) (.int x tk)
  have hrs:=Zhr (t:=t) (es:=es) (h:=(intKind prog w).hash x) (x:=.int x tk) hT.plain
  generalize layNew t es ((intKind prog w).hash x) (.int x tk)=Ln at hp hfit hl hrs ⊢
  obtain ⟨es1,t1,wd,gv⟩:=Ln
  dsimp only at hp hfit hl hrs ⊢
  rw [Array.toList_push] at hp
  have hz:es1.size=es.size+1:=by simpa using hp.length_eq
  have hel1:ElemsOf (intKind prog w) es1.toList:=(hel.push hkey hsc).perm hp
  have hs0:IntsAre ((es.toList++[((intKind prog w).hash x,Value.int x tk)]).map (·.2)) (xs++[x]):=by
   rw [List.map_append]
   exact ints_snoc hs x tk
  obtain ⟨xs1,hs1,hpx⟩:=Zgd (hp.map (·.2)).symm hs0
  have hn1:xs1.Nodup:=hpx.nodup_iff.mp (List.nodup_append.mpr ⟨hn,by simp,fun u hu v hv=>by
   rw [List.mem_singleton.mp hv]
   rintro rfl
   exact hm hu⟩)
  have fin:∀ h' xs',Heap.SameBut a s.heap h'→SetI prog w h' a xs'→xs1.Perm xs'→Q true { s with heap:=h' }:=fun h' xs' b1 b2 b3=>h h' xs' true b1 b2 (fun y=>by
   rw [← (hpx.trans b3).mem_iff]
   simp) (by rw [← (hpx.trans b3).length_eq]; simp)
  refine wpAny_bind (hg _ ?_)
  by_cases hpl:t1.plain=true
  ·rw [if_pos hpl,hashByValue_scannable 8 hsc]
   refine wpAny_bind (wpAny_pure ?_)
   refine Zf3 (t2:=if plainKind (Value.int x tk)=true then t1 else { t1 with plain:=false }) (fun b s₁ Q' hq=>by cases b <;> first | exact wpAny_pure hq | exact wpAny_rule hq) ho hx hd (by omega) ?_ hel1 hs1 hn1 fun h' xs' b1 b2 b3=>wpAny_pure (fin h' xs' b1 b2 b3)
   rw [if_pos (show plainKind (Value.int x tk)=true from rfl)]
   exact ⟨hfit,by rw [← hT.led]; exact hl.1,hrs⟩
  ·rw [if_neg hpl]
   refine wpAny_bind (wpAny_pure ?_)
   simp only [if_true]
   exact Zf3 (fun b s₁ Q' hq=>by cases b <;> first | exact wpAny_pure hq | exact wpAny_rule hq) ho hx hd (by omega) ⟨hfit,by rw [← hT.led]; exact hl.1,fun z=>absurd z hpl⟩ hel1 hs1 hn1 fun h' xs' b1 b2 b3=>wpAny_pure (fin h' xs' b1 b2 b3)
end
end DL
end
section
set_option maxHeartbeats 1000000
namespace DL
open PySem PySem.Spec PyProof.Rows L2 PySem.W SO
section
variable {prog:Program} {w:World} {A:Around} {E:Value→Shared→Prop} {s:Shared} {a:Addr}
theorem SetI.kept {h h':Heap} {xs:List Int} (x:SetI prog w h a xs) (hk:∀ b o,h.get? b=some o→h'.get? b=some o):SetI prog w h' a xs:=by
 obtain ⟨o,es,ep,t,ho,r⟩:=x
 exact ⟨o,es,ep,t,hk _ _ ho,r⟩
theorem SetI.typeIs {xs : List Int} (x : SetI prog w s.heap a xs) : s.TypeIs (.ref a) "set" := by
 obtain ⟨o,es,ep,t,ho,hx,_⟩:=x
 exact ⟨o,ho,hx.1⟩
theorem SetI.len {h:Heap} {xs:List Int} (x:SetI prog w h a xs):xs.length<scanBound∧xs.Nodup∧a<h.objs.size:=by
 obtain ⟨o,es,ep,t,ho,hx,hd,hT,hel,hs,hn,hb⟩:=x
 have:=hs.length
 rw [List.length_map,Array.length_toList] at this
 exact ⟨by omega,hn,Heap.lt_size ho⟩
end
end DL
end
section
set_option maxHeartbeats 1000000
end
section
set_option maxHeartbeats 1000000
namespace DL
open PySem PySem.SetTable
noncomputable def lq (m:Nat):Nat→Nat×Nat→Nat×Nat
 | 0,q=>q
 | n+1,q=>lq m n (leap m q.1 q.2)
theorem Zd5 (m:Nat):∀ (a b:Nat) (q:Nat×Nat),lq m (a+b) q=lq m b (lq m a q)
 | 0,b,q=>by rw [Nat.zero_add]; rfl
 | a+1,b,q=>by rw [Nat.succ_add]; exact Zd5 m a b _
theorem Zfn (m:Nat):∀ (n:Nat) (q:Nat×Nat),(lq m n q).2=q.2 / 32 ^ n
 | 0,q=>by simp [lq]
 | n+1,q=>by
  rw [lq,Zfn]
  show q.2 / 32 / 32 ^ n=_
  rw [Nat.div_div_eq_div_mul,Nat.pow_succ,Nat.mul_comm]
theorem Zfk (m:Nat):∀ (n:Nat) (q:Nat×Nat),q.1≤m→(lq m n q).1≤m
 | 0,q,h=>h
 | n+1,q,h=>Zfk m n _ (by
  show (q.1 * 5+1+q.2 / 32) % (m+1)≤m
  have:=Nat.mod_lt (q.1 * 5+1+q.2 / 32) (show 0<m+1 by omega)
  omega)
noncomputable def lc (m:Nat):Nat→Nat→Nat
 | 0,i=>i
 | n+1,i=>lc m n ((i * 5+1) % (m+1))
theorem ZbO (m:Nat):∀ (a b i:Nat),lc m (a+b) i=lc m b (lc m a i)
 | 0,b,i=>by rw [Nat.zero_add]; rfl
 | a+1,b,i=>by rw [Nat.succ_add]; exact ZbO m a b _
theorem Zff (m:Nat):∀ (n i:Nat),lq m n (i,0)=(lc m n i,0)
 | 0,i=>rfl
 | n+1,i=>by
  rw [lq]
  have:leap m (i,0).1 (i,0).2=((i * 5+1) % (m+1),0):=by simp [leap]
  rw [this,Zff]
  rfl
noncomputable def orb (m:Nat):Nat→Nat→List Nat
 | 0,_=>[]
 | n+1,i=>i :: orb m n ((i * 5+1) % (m+1))
theorem Zfc (m:Nat):∀ (n i x:Nat),x∈orb m n i→∃ k,k<n∧lc m k i=x
 | 0,i,x,h=>by cases h
 | n+1,i,x,h=>by
  rcases List.mem_cons.mp h with rfl | h
  ·exact ⟨0,by omega,rfl⟩
  ·obtain ⟨k,h1,h2⟩:=Zfc m n _ x h
   exact ⟨k+1,by omega,h2⟩
noncomputable def full (m:Nat):Bool:=(List.range (m+1)).all (fun e=>(orb m (m+1) 0).contains e) && lc m (m+1) 0 == 0
theorem ZdH {m e:Nat} (h:full m=true) (he:e≤m):∃ a,a≤m∧lc m a 0=e:=by
 unfold full at h
 rw [Bool.and_eq_true] at h
 have h1:=List.all_eq_true.mp h.1 e (by simp; omega)
 obtain ⟨k,h2,h3⟩:=Zfc m (m+1) 0 e (by simpa using h1)
 exact ⟨k,by omega,h3⟩
theorem Zms {m i e:Nat} (h:full m=true) (hi:i≤m) (he:e≤m):∃ n,n≤m∧lc m n i=e:=by
 have h0:lc m (m+1) 0=0:=by
  unfold full at h
  rw [Bool.and_eq_true] at h
  exact eq_of_beq h.2
 obtain ⟨a,ha,rfl⟩:=ZdH h hi
 obtain ⟨b,hb,rfl⟩:=ZdH h he
 by_cases hab:a≤b
 ·exact ⟨b - a,by omega,by rw [← ZbO,show a+(b - a)=b by omega]⟩
 ·exact ⟨m+1+b - a,by omega,by rw [← ZbO,show a+(m+1+b - a)=(m+1)+b by omega,ZbO,h0]⟩
noncomputable def Msk (m:Nat):Prop:=m=7∨m=31∨m=127∨m=511
theorem Zi0:full 7=true:=by decide +kernel
theorem Zmq:full 31=true:=by decide +kernel
theorem Zmv:full 127=true:=by decide +kernel
theorem Zj0:full 511=true:=by decide +kernel
theorem Msk.full {m:Nat} (h:Msk m):full m=true:=by
 rcases h with rfl | rfl | rfl | rfl
 ·exact Zi0
 ·exact Zmq
 ·exact Zmv
 ·exact Zj0
theorem ZjX {m e:Nat} (hm:Msk m) (q:Nat×Nat) (hi:q.1≤m) (hp:q.2<2 ^ 64) (he:e≤m):∃ n,1≤n∧n≤13+m∧(lq m n q).1=e:=by
 have h2:(lq m 13 q).2=0:=by
  rw [Zfn]
  exact Nat.div_eq_of_lt (Nat.lt_of_lt_of_le hp (by decide))
 obtain ⟨n,h3,h4⟩:=Zms hm.full (Zfk m 13 q hi) he
 refine ⟨13+n,by omega,by omega,?_⟩
 rw [Zd5]
 have:lq m 13 q=((lq m 13 q).1,0):=by rw [← h2]
 rw [this,Zff,h4]
section
variable {t:SetTable}
noncomputable def Z7 (t:SetTable):Nat→Probe→Probe
 | 0,p=>p
 | n+1,p=>Z7 t n (t.advance p)
theorem Za0:∀ (a b:Nat) (p:Probe),Z7 t (a+b) p=Z7 t b (Z7 t a p)
 | 0,b,p=>by rw [Nat.zero_add]; rfl
 | a+1,b,p=>by rw [Nat.succ_add]; exact Za0 a b _
theorem Zko (n:Nat) (p:Probe):Z7 t (n+1) p=t.advance (Z7 t n p):=Za0 n 1 p
theorem Zce:∀ (k:Nat) (p:Probe),k≤p.more→Z7 t k p = { p with j:=p.j+k,more:=p.more - k }
 | 0,p,_=>rfl
 | k+1,p,h=>by
  rw [Z7]
  have:t.advance p = { p with j:=p.j+1,more:=p.more - 1 }:=by
   unfold advance
   rw [if_pos (by omega)]
  rw [this,Zce k _ (by show k≤p.more - 1; omega)]
  dsimp only
  congr 1 <;> omega
noncomputable def Zhw (t:SetTable) (p:Probe) (L:Nat×Nat):Probe:={ p with j:=L.1,more:=runEnd t.mask L.1 - L.1,i:=L.1,perturb:=L.2 }
theorem ZkU (p:Probe):Z7 t (p.more+1) p=Zhw t p (leap t.mask p.i p.perturb):=by
 rw [Zko,Zce _ _ (Nat.le_refl _)]
 unfold advance
 rw [if_neg (by show ¬ p.more - p.more > 0; omega)]
 rfl
theorem Zi7 (h:Int):bits h<2 ^ 64:=by
 unfold bits
 have:=Int.emod_lt_of_pos h (show (0:Int)<2 ^ 64 by decide)
 have:=Int.emod_nonneg h (show (2 ^ 64:Int)≠0 by decide)
 omega
theorem Zfz (j:Nat):has #[] j=false:=by simp [has]
theorem slot_of (hd:t.dummies = #[]) (j:Nat):t.slot j = .empty∨∃ i,t.slot j = .live i∧t.place[i]?=some j:=by
 unfold slot
 by_cases h:(t.place[below t.place j]? == some j)=true
 ·right
  exact ⟨below t.place j,by simp only [h,if_true],eq_of_beq h⟩
 ·left
  simp only [h,if_false,hd,Zfz,Bool.false_eq_true]
theorem below_at {xs:Array Nat} (h:Rs xs) {i j:Nat} (e:xs[i]?=some j):below xs j=i:=by
 obtain ⟨hi,e⟩:=Array.getElem?_eq_some_iff.mp e
 obtain ⟨a,b,c⟩:=Zgu h j
 have hg:xs.getD i 0=j:=by simp [Array.getD,hi,e]
 have h1:¬ i<below xs j:=fun z=>by have:=b i z; omega
 have h2:¬ below xs j<i:=fun z=>by
  have h3:=h.lt z hi
  have h4:=c _ (Nat.le_refl _) (by omega)
  omega
 omega
theorem ZiA (h:Rs t.place) {i j:Nat} (e:t.place[i]?=some j):t.slot j = .live i:=by
 unfold slot
 simp only [below_at h e,e,beq_self_eq_true,if_true]
theorem ZgT (hd:t.dummies = #[]) {j:Nat} (h:j ∉ t.place.toList):t.slot j = .empty:=by
 rcases slot_of hd j with e | ⟨i,_,e⟩
 ·exact e
 ·exact absurd (by rw [← Array.getElem?_toList] at e; exact List.mem_of_getElem? e) h
theorem Zht {j:Nat} (hr:Rs t.place) (h:t.slot j = .empty):j ∉ t.place.toList:=fun z=>by
 obtain ⟨i,hi⟩:=List.mem_iff_getElem?.mp z
 rw [Array.getElem?_toList] at hi
 rw [ZiA hr hi] at h
 cases h
end
end DL
end
section
set_option maxHeartbeats 1000000
namespace DL
open PySem PySem.SetTable
noncomputable def Pth (t:SetTable) (p:Probe) (j:Nat):Prop:=∃ n,(Z7 t n p).j=j∧∀ m,m<n→t.slot (Z7 t m p).j≠.empty
structure TabP (t:SetTable) (es:List (Int×Value)):Prop where
 msk:Msk t.mask
 dum:t.dummies = #[]
 rs:Rs t.place
 len:t.place.size=es.length
 few:es.length * 5<t.mask * 3
 pth:∀ q∈t.place.toList.zip es,Pth t (t.probeStart q.2.1) q.1
section
variable {t t':SetTable} {es:List (Int×Value)}
theorem Msk.le {m:Nat} (h:Msk m):7≤m∧m≤511∧m % 2=1:=by
 rcases h with rfl | rfl | rfl | rfl <;> decide
theorem TabP.room (T:TabP t es):es.length≤t.mask:=by
 have:=T.few
 omega
theorem TabP.fits (T:TabP t es):t.fits es.length=true:=by
 have h:=T.room
 have l:=T.len
 have d:=T.dum
 unfold SetTable.fits SetTable.fill
 simp [l,d,h]
theorem TabP.gave (T:TabP t es):t.gaveWay=false:=by
 have:=T.msk.le
 unfold SetTable.gaveWay
 simp [this.2.2]
theorem ZgV (h:t.mask=t'.mask) (p:Probe):t.advance p=t'.advance p:=by
 unfold advance
 rw [h]
theorem Zdg (h:t.mask=t'.mask):∀ (n:Nat) (p:Probe),Z7 t n p=Z7 t' n p
 | 0,p=>rfl
 | n+1,p=>by rw [Z7,Z7,ZgV h,Zdg h]
theorem Pth.mono {p:Probe} {j:Nat} (h:t.mask=t'.mask) (hs:∀ x,t.slot x≠.empty→t'.slot x≠.empty) (q:Pth t p j):Pth t' p j:=by
 obtain ⟨n,a,b⟩:=q
 exact ⟨n,by rw [← Zdg h]; exact a,fun m hm=>by rw [← Zdg h]; exact hs _ (b m hm)⟩
theorem ZeQ (hd:t.dummies = #[]) (hr:Rs t.place) (x:Nat):t.slot x≠.empty ↔ x∈t.place.toList:=by
 constructor
 ·intro h
  exact Classical.byContradiction fun z=>h (ZgT hd z)
 ·intro h z
  exact Zht hr z h
theorem ZiT {α:Type} (xs:Array α) (p:Nat) (x:α):(insertAt xs p x).toList=xs.toList.take p++x :: xs.toList.drop p:=by
 unfold insertAt
 simp [Array.toList_extract,List.extract]
 rw [List.take_of_length_le (by simp)]
theorem Zjr {α β:Type} {xs:List α} {ys:List β} (h:xs.length=ys.length) (p:Nat) (x:α) (y:β) (q:α×β) (hq:q∈(xs.take p++x :: xs.drop p).zip (ys.take p++y :: ys.drop p)):q=(x,y)∨q∈xs.zip ys:=by
 rw [List.zip_append (by simp [h]),List.zip_cons_cons] at hq
 rcases List.mem_append.mp hq with z | z
 ·right
  rw [← List.take_append_drop p xs,← List.take_append_drop p ys,List.zip_append (by simp [h])]
  exact List.mem_append_left _ z
 ·rcases List.mem_cons.mp z with z | z
  ·exact .inl z
  ·right
   rw [← List.take_append_drop p xs,← List.take_append_drop p ys,List.zip_append (by simp [h])]
   exact List.mem_append_right _ z
theorem TabP.put (T:TabP t es) {j:Nat} {h:Int} {v:Value} (hj:t.slot j = .empty) (hp:Pth t (t.probeStart h) j) (pl:Bool) (hf:(es.length+1) * 5<t.mask * 3) :
  TabP { (t.put j).1 with plain:=pl } (es.take (t.put j).2++(h,v) :: es.drop (t.put j).2):=by
 have hd:(t.put j).1.dummies = #[]:=by
  show (if has t.dummies j then _ else t.dummies)=_
  rw [T.dum,Zfz]
  rfl
 have hpl:(t.put j).1.place.toList=t.place.toList.take (below t.place j)++j :: t.place.toList.drop (below t.place j):=ZiT _ _ _
 have hrs:Rs (t.put j).1.place:=ZeD T.rs (Zcb (.inl hj))
 have hl:(es.take (t.put j).2++(h,v) :: es.drop (t.put j).2).length=es.length+1:=by
  simp only [List.length_append,List.length_cons,List.length_take,List.length_drop]
  omega
 have hsl:∀ x,t.slot x≠.empty→({ (t.put j).1 with plain:=pl }:SetTable).slot x≠.empty:=fun x hx=>by
  rw [ZeQ (show ({ (t.put j).1 with plain:=pl }:SetTable).dummies = #[] from hd) (show Rs ({ (t.put j).1 with plain:=pl }:SetTable).place from hrs)]
  have:=(ZeQ T.dum T.rs x).mp hx
  show x∈(t.put j).1.place.toList
  rw [hpl,List.mem_append,List.mem_cons]
  rw [← List.take_append_drop (below t.place j) t.place.toList,List.mem_append] at this
  rcases this with z | z
  ·exact .inl z
  ·exact .inr (.inr z)
 refine ⟨T.msk,hd,hrs,?_,?_,fun q hq => ?_⟩
 ·have h1:=congrArg List.length hpl
  rw [Array.length_toList] at h1
  rw [hl]
  show (t.put j).1.place.size=_
  rw [h1]
  have:=T.len
  simp only [List.length_append,List.length_cons,List.length_take,List.length_drop,Array.length_toList]
  omega
 ·rw [hl]
  exact hf
 ·have hq':q∈(t.place.toList.take (below t.place j)++j :: t.place.toList.drop (below t.place j)).zip (es.take (below t.place j)++(h,v) :: es.drop (below t.place j)):=by
   rw [← hpl]
   exact hq
  rcases Zjr (by rw [Array.length_toList]; exact T.len) _ _ _ q hq' with rfl | z
  ·exact Pth.mono (t:=t) rfl hsl hp
  ·exact Pth.mono (t:=t) rfl hsl (T.pth q z)
end
section
variable {t:SetTable} {owner:Array (Option Nat)}
noncomputable def ZbE (t:SetTable) (owner:Array (Option Nat)) (p:Probe) (j:Nat):Prop:=∃ n,(Z7 t n p).j=j∧∀ m,m<n→∃ k,owner[(Z7 t m p).j]?=some (some k)
noncomputable def stP (t:SetTable) (i pert:Nat):Probe:={ j:=i,more:=runEnd t.mask i - i,i,perturb:=pert,dummy:=none }
theorem ZlQ {m i:Nat} (h:i≤m):runEnd m i≤m∧i≤runEnd m i:=by
 unfold runEnd
 split <;> omega
theorem getD_some {j:Nat} (h:j<owner.size) (hn:(owner.getD j (some 0)).isNone=false):∃ k,owner[j]?=some (some k):=by
 rw [Array.getElem?_eq_getElem h]
 simp only [Array.getD,h,dite_true] at hn
 have hn':owner[j].isNone=false:=hn
 cases e:owner[j] with
 | none=>rw [e] at hn'; cases hn'
 | some k=>exact ⟨k,rfl⟩
theorem getD_none {j:Nat} (hn:(owner.getD j (some 0)).isNone=true):owner[j]?=some none:=by
 by_cases h:j<owner.size
 ·rw [Array.getElem?_eq_getElem h]
  simp only [Array.getD,h,dite_true] at hn
  have hn':owner[j].isNone=true:=hn
  cases e:owner[j] with
  | none=>rfl
  | some k=>rw [e] at hn'; cases hn'
 ·simp [Array.getD,h] at hn
theorem Zd9 (ho:owner.size=t.mask+1):∀ (F i pert:Nat),i≤t.mask→(∃ n,n<F∧owner[(lq t.mask n (i,pert)).1]?=some none) →
  ∃ j,layClean.free t.mask owner F i pert=some j∧owner[j]?=some none∧ZbE t owner (stP t i pert) j
 | 0,i,pert,_,⟨n,h,_⟩=>by omega
 | F+1,i,pert,hi,⟨n,h1,h2⟩=>by
  have hr:=ZlQ hi
  have lin:∀ m,m≤runEnd t.mask i - i→(Z7 t m (stP t i pert)).j=i+m:=fun m hm=>by
   rw [Zce m _ hm]
   rfl
  unfold layClean.free
  cases hf:(List.range (runEnd t.mask i+1 - i)).find? fun k=>(owner.getD (i+k) (some 0)).isNone with
  | some k =>
   rw [List.find?_range_eq_some] at hf
   obtain ⟨f1,f2,f3⟩:=hf
   have hk:k<runEnd t.mask i+1 - i:=List.mem_range.mp f2
   refine ⟨i+k,rfl,getD_none f1,k,lin k (by omega),fun m hm => ?_⟩
   rw [lin m (by omega)]
   have:=f3 m hm
   exact getD_some (by omega) (by simpa using this)
  | none =>
   have hall:∀ m,m≤runEnd t.mask i - i→∃ k,owner[i+m]?=some (some k):=fun m hm=>by
    have:=List.find?_eq_none.mp hf m (List.mem_range.mpr (by omega))
    exact getD_some (by omega) (Bool.eq_false_iff.mpr this)
   have hn0:n≠0:=by
    rintro rfl
    obtain ⟨k,e⟩:=hall 0 (Nat.zero_le _)
    rw [Nat.add_zero] at e
    have h2':owner[i]?=some none:=h2
    rw [e] at h2'
    cases h2'
   obtain ⟨n',rfl⟩:∃ n',n=n' + 1:=⟨n - 1,by omega⟩
   have hle:(leap t.mask i pert).1≤t.mask:=by
    have:=Nat.mod_lt (i * 5+1+pert / 32) (show 0<t.mask+1 by omega)
    show (i * 5+1+pert / 32) % (t.mask+1)≤t.mask
    omega
   obtain ⟨j,a,b,n2,c,d⟩:=Zd9 ho F (leap t.mask i pert).1 (leap t.mask i pert).2 hle ⟨n',by omega,h2⟩
   have hlp:Z7 t (runEnd t.mask i - i+1) (stP t i pert)=stP t (leap t.mask i pert).1 (leap t.mask i pert).2:=ZkU (stP t i pert)
   refine ⟨j,a,b,runEnd t.mask i - i+1+n2,by rw [Za0,hlp]; exact c,fun m hm => ?_⟩
   by_cases hmm:m<runEnd t.mask i - i+1
   ·rw [lin m (by omega)]
    exact hall m (by omega)
   ·have e:m=runEnd t.mask i - i+1+(m - (runEnd t.mask i - i+1)):=by omega
    rw [e,Za0,hlp]
    exact d _ (by omega)
structure OwnOk (t:SetTable) (hs:List Int) (owner:Array (Option Nat)) (k:Nat):Prop where
 size:owner.size=t.mask+1
 perm:(owner.toList.filterMap id).Perm (List.range k)
 way:∀ j i,owner[j]?=some (some i)→∃ h,hs[i]?=some h∧ZbE t owner (t.probeStart h) j
theorem Zfo {k:Nat}:∀ (l:List (Option Nat)) (j:Nat),l[j]?=some none→((l.set j (some k)).filterMap id).Perm (k :: l.filterMap id)
 | [],j,h=>by simp at h
 | x :: l,0,h=>by
  simp at h
  subst h
  simp
 | x :: l,j+1,h=>by
  have ih:=Zfo (k:=k) l j (by simpa using h)
  cases x with
  | none=>simpa using ih
  | some y =>
   simp only [List.set_cons_succ,List.filterMap_cons,id]
   exact (ih.cons y).trans (.swap k y _)
theorem Zfu:∀ (l:List (Option Nat)),(∀ j,j<l.length→l[j]?≠some none)→l.length≤(l.filterMap id).length
 | [],_=>Nat.le_refl _
 | none :: l,h=>absurd rfl (h 0 (by simp))
 | some x :: l,h=>by
  have:=Zfu l fun j hj=>by
   have:=h (j+1) (by simpa using hj)
   simpa using this
  simpa using this
theorem OwnOk.step {hs:List Int} {k:Nat} {h:Int} (O:OwnOk t hs owner k) (hm:Msk t.mask) (hk:k≤t.mask) (hh:hs[k]?=some h) :
  ∃ j,layClean.free t.mask owner (turns t.mask) (bits h % (t.mask+1)) (bits h)=some j∧OwnOk t hs (owner.setIfInBounds j (some k)) (k+1):=by
 obtain ⟨e,he⟩:∃ e:Nat,owner[e]?=some none:=by
  refine Classical.byContradiction fun z => ?_
  have h1:=Zfu owner.toList fun j _ hj=>z ⟨j,by rw [← Array.getElem?_toList]; exact hj⟩
  rw [O.perm.length_eq,List.length_range,Array.length_toList,O.size] at h1
  omega
 have hel:e≤t.mask:=by
  have:=(Array.getElem?_eq_some_iff.mp he).1
  rw [O.size] at this
  omega
 have hi:bits h % (t.mask+1)≤t.mask:=by
  have:=Nat.mod_lt (bits h) (show 0<t.mask+1 by omega)
  omega
 obtain ⟨n,h1,h2,h3⟩:=ZjX hm (bits h % (t.mask+1),bits h) hi (Zi7 h) hel
 obtain ⟨j,a,b,c⟩:=Zd9 O.size (turns t.mask) _ _ hi ⟨n,by unfold turns; omega,by rw [h3]; exact he⟩
 have hj:j<owner.size:=(Array.getElem?_eq_some_iff.mp b).1
 have keep:∀ x i,owner[x]?=some (some i)→(owner.setIfInBounds j (some k))[x]?=some (some i):=fun x i hx=>by
  rw [Array.getElem?_setIfInBounds]
  rw [if_neg]
  ·exact hx
  ·rintro rfl
   rw [b] at hx
   cases hx
 have keepP:∀ {p:Probe} {x:Nat},ZbE t owner p x→ZbE t (owner.setIfInBounds j (some k)) p x:=fun ⟨n,u,v⟩=>⟨n,u,fun m hm=>let ⟨i,hi⟩:=v m hm; ⟨i,keep _ _ hi⟩⟩
 refine ⟨j,a,by simp [O.size],?_,fun x i hx => ?_⟩
 ·rw [Array.toList_setIfInBounds]
  refine (Zfo (k:=k) owner.toList j (by rw [Array.getElem?_toList]; exact b)).trans ?_
  refine (O.perm.cons k).trans ?_
  rw [List.range_succ]
  exact (List.perm_append_singleton k _).symm
 ·rw [Array.getElem?_setIfInBounds] at hx
  by_cases hjx:j=x
  ·subst hjx
   rw [if_pos rfl,if_pos hj] at hx
   cases hx
   exact ⟨h,hh,keepP c⟩
  ·rw [if_neg hjx] at hx
   obtain ⟨h',u,v⟩:=O.way x i hx
   exact ⟨h',u,keepP v⟩
end
end DL
end
section
set_option maxHeartbeats 1000000
namespace DL
open PySem PySem.Spec PyProof.Rows L2 PySem.W SO
section
variable (prog:Program) (w:World) (B:Addr→Prop)
inductive ElP (h:Heap):List (Int×Value)→List (List Str)→Prop
 | nil:ElP h [] []
 | cons {es:List (Int×Value)} {ps:List (List Str)} (b:Addr) (its:List Value) (p:List Str):B b→IsTup h b its.toArray→StrsAre its p→ElP h es ps→ElP h ((tupleKeyHash (strKind prog w) p,.ref b) :: es) (p :: ps)
noncomputable def SetP (h:Heap) (a:Addr) (ps:List (List Str)):Prop :=
 ∃ o es ep t,h.get? a=some o∧o.ExactSet∧o.data = .set es ep t∧t.led = !byT w∧TabP t es.toList∧ElP prog w B h es.toList ps∧ps.Nodup∧es.size<128
end
section
variable {prog:Program} {w:World} {B:Addr→Prop} {A:Around} {E:Value→Shared→Prop} {s:Shared} {a:Addr}
theorem ElP.mono {h h':Heap}:∀ {es:List (Int×Value)} {ps:List (List Str)},ElP prog w B h es ps→(∀ b its,IsTup h b its→IsTup h' b its)→ElP prog w B h' es ps
 | _,_,.nil,_ => .nil
 | _,_,.cons b its p y t r e,k => .cons b its p y (k b _ t) r (e.mono k)
theorem ElP.length {h:Heap} {es:List (Int×Value)} {ps:List (List Str)} (e:ElP prog w B h es ps):es.length=ps.length:=by
 induction e with
 | nil=>rfl
 | cons b its p _ _ _ _ ih=>simp [ih]
theorem ElP.at {h:Heap} {es:List (Int×Value)} {ps:List (List Str)} (e:ElP prog w B h es ps):∀ (i:Nat),i<es.length→∃ b its p,es[i]?=some (tupleKeyHash (strKind prog w) p,.ref b)∧ps[i]?=some p∧IsTup h b its.toArray∧StrsAre its p∧B b:=by
 induction e with
 | nil=>intro i hi; simp at hi
 | cons b its p y t r _ ih =>
  intro i hi
  cases i with
  | zero=>exact ⟨b,its,p,rfl,rfl,t,r,y⟩
  | succ i=>exact ih i (by simpa using hi)
theorem ElP.perm {h:Heap} {es es':List (Int×Value)} (pm:es.Perm es'):∀ {ps:List (List Str)},ElP prog w B h es ps→∃ ps',ElP prog w B h es' ps'∧ps.Perm ps':=by
 induction pm with
 | nil=>intro ps e; exact ⟨ps,e,.refl _⟩
 | cons x _ ih =>
  intro ps e
  cases e with
  | cons b its p y t r e =>
   obtain ⟨ps',h1,h2⟩:=ih e
   exact ⟨p :: ps',.cons b its p y t r h1,h2.cons p⟩
 | swap x y l =>
  intro ps e
  cases e with
  | cons b its p y t r e =>
   cases e with
   | cons b' its' p' y' t' r' e=>exact ⟨p' :: p :: _,.cons b' its' p' y' t' r' (.cons b its p y t r e),.swap p' p _⟩
 | trans _ _ ih1 ih2 =>
  intro ps e
  obtain ⟨qs,h1,h2⟩:=ih1 e
  obtain ⟨rs,h3,h4⟩:=ih2 h1
  exact ⟨rs,h3,h2.trans h4⟩
theorem ElP.bs {h:Heap} {es:List (Int×Value)} {ps:List (List Str)} (e:ElP prog w B h es ps):∀ v∈es.map (·.2),∃ b,v = .ref b∧B b:=by
 induction e with
 | nil=>intro v hv; cases hv
 | cons b its p y t r _ ih =>
  intro v hv
  rcases List.mem_cons.mp hv with rfl | hv
  ·exact ⟨b,rfl,y⟩
  ·exact ih v hv
end
end DL
end
section
set_option maxHeartbeats 1000000
namespace DL
open PySem PySem.Spec PyProof.Rows L2 PySem.W SO
section
variable {prog:Program} {w:World} {B:Addr→Prop} {A:Around} {E:Value→Shared→Prop} {s:Shared} {a:Addr}
theorem SetP.kept {h h':Heap} {xs:List (List Str)} (x:SetP prog w B h a xs) (hk:∀ b o,h.get? b=some o→h'.get? b=some o):SetP prog w B h' a xs:=by
 obtain ⟨o,es,ep,t,ho,h1,h2,h3,h4,h5,r⟩:=x
 exact ⟨o,es,ep,t,hk _ _ ho,h1,h2,h3,h4,h5.mono fun b its ⟨u,g1,g2⟩=>⟨u,hk _ _ g1,g2⟩,r⟩
theorem SetP.typeIs {xs : List (List Str)} (x : SetP prog w B s.heap a xs) : s.TypeIs (.ref a) "set" := by
 obtain ⟨o,es,ep,t,ho,hx,_⟩:=x
 exact ⟨o,ho,hx.1⟩
theorem SetP.len {h:Heap} {xs:List (List Str)} (x:SetP prog w B h a xs):xs.length<128∧xs.Nodup∧a<h.objs.size:=by
 obtain ⟨o,es,ep,t,ho,hx,hd,hled,T,el,hn,hb⟩:=x
 have:=el.length
 rw [Array.length_toList] at this
 exact ⟨by omega,hn,Heap.lt_size ho⟩
theorem ElP.lt {h:Heap}:∀ {es:List (Int×Value)} {ps:List (List Str)},ElP prog w B h es ps→ElP prog w (fun b=>B b∧b<h.objs.size) h es ps
 | _,_,.nil => .nil
 | _,_,.cons b its p y t r e => .cons b its p ⟨y,let ⟨_,g,_⟩:=t; Heap.lt_size g⟩ t r (ElP.lt e)
theorem SetP.lt {h:Heap} {xs:List (List Str)} (x:SetP prog w B h a xs):SetP prog w (fun b=>B b∧b<h.objs.size) h a xs:=by
 obtain ⟨o,es,ep,t,ho,h1,h2,h3,h4,h5,r⟩:=x
 exact ⟨o,es,ep,t,ho,h1,h2,h3,h4,h5.lt,r⟩
end
end DL
end
section
set_option maxHeartbeats 1000000
end
section
set_option maxHeartbeats 1000000
namespace DL
open PySem PySem.Spec PyProof.Rows L2
structure BlkD (sc scope:Scope) (N0 N:List Str) (caps:List Nat) (nT:Nat):Prop where
 kind:scope.kind = .function
 names:∀ y∈scope.names,y.2 = .local→scope.names.lookup y.1=some .local
 free:∀ y∈scope.names,y.2 = .free→sc.names.lookup y.1=some .cell∨sc.names.lookup y.1=some .free
 len:N.length=nT+caps.length
 cap:∀ q∈(List.range caps.length),∃ i x,caps[q]?=some i∧N[nT+q]?=some x∧N0[i]?=some x∧(x,NameKind.free)∈scope.names∧(x,NameKind.cell) ∉ scope.names∧((Y5 scope sc).names.lookup x=some .cell∨(Y5 scope sc).names.lookup x=some .free)
noncomputable def Zgq (sc scope:Scope) (N0 N:List Str) (caps:List Nat) (nT:Nat):Bool :=
 (scope.kind == .function) && scope.names.all (fun y => !(y.2 == .local) || scope.names.lookup y.1 == some .local) &&
  scope.names.all (fun y => !(y.2 == .free) || (sc.names.lookup y.1 == some .cell || sc.names.lookup y.1 == some .free)) && (N.length == nT+caps.length) &&
  (List.range caps.length).all fun q=>match caps[q]?,N[nT+q]? with
   | some i,some x=>(N0[i]? == some x) && scope.names.any (fun y=>y.1 == x && y.2 == .free) && scope.names.all (fun y => !(y.1 == x && y.2 == .cell)) && ((Y5 scope sc).names.lookup x == some .cell || (Y5 scope sc).names.lookup x == some .free)
   | _,_=>false
theorem BlkD.of {sc scope:Scope} {N0 N:List Str} {caps:List Nat} {nT:Nat} (h:Zgq sc scope N0 N caps nT=true):BlkD sc scope N0 N caps nT:=by
 unfold Zgq at h
 simp only [Bool.and_eq_true] at h
 obtain ⟨⟨⟨⟨h1,h3⟩,h4⟩,h5⟩,h6⟩:=h
 refine ⟨eq_of_beq h1,fun y hy hl => ?_,fun y hy hl => ?_,eq_of_beq h5,fun q hq => ?_⟩
 ·have:=List.all_eq_true.mp h3 y hy
  rw [hl] at this
  simpa using this
 ·have:=List.all_eq_true.mp h4 y hy
  rw [hl] at this
  simpa using this
 ·have:=List.all_eq_true.mp h6 q hq
  split at this
  ·rename_i i x e1 e2
   simp only [Bool.and_eq_true,Bool.or_eq_true,List.any_eq_true,beq_iff_eq] at this
   obtain ⟨⟨⟨g1,⟨y,g2,g3,g4⟩⟩,g6⟩,g5⟩:=this
   refine ⟨i,x,e1,e2,g1,?_,fun z => ?_,g5⟩
   ·obtain ⟨y1,y2⟩:=y
    simp only at g3 g4
    subst g3 g4
    exact g2
   ·have:=List.all_eq_true.mp g6 _ z
    simp at this
  ·cases this
end DL
end
section
set_option maxHeartbeats 1000000
end
section
set_option maxHeartbeats 1000000
end
section
set_option maxHeartbeats 2000000
end
section
set_option maxHeartbeats 2000000
namespace L2
open PySem PyProof.Rows
section
variable {X:Cx} {pins:List (Addr×Obj)} {σ:St} {H:Hp} {s:Shared} {a:Addr} {y v:V} {u r:Value} {A:Around} {E:Value→Shared→Prop}
theorem Zny {H':Hp} {Q:Unit→Shared→Prop} {kvs0:List (List Key×V)} (hu:A.units<cLine) (I:Inv X pins σ H s) (e0:H a=some (.dT kvs0)) (g:DPut H a y v H') (ry:RelV y u) (rv:RelV v r) (h:∀ s',Inv X pins σ H' s'→Q () s') :
  wpAny (model X.prog X.w) A (dictSet a u r) Q E s:=by
 rcases g with ⟨kvs,k,e,_⟩ | ⟨kvs,k,b,e,ey,eb,l,eH⟩
 ·rw [e0] at e; cases e
 ·subst ey eH
  cases (show u=Value.ref b from ry)
  obtain ⟨z,hd,xs,rel,dd⟩:=Zfw I.hok e
  have hz:xs.length≤sizeLine:=by rw [← Paired.length rel]; exact z
  have hl:(putK kvs k v).length≤sizeLine:=by have:=Zb8 kvs k v; omega
  refine wpAny_dictSet_heap (hsz:=hz) hu (QY I.hok eb) dd fun h' dd' hs=>h _ ?_
  obtain ⟨q,es,ep,hq,h2,h3,h4,_,h5⟩:=dd'
  refine Zc8 I (by rw [e]; exact True.intro) hs ⟨q,hq⟩ ⟨hl,hd,_,(rel.put k eb rv).keeps fun c ys ec => ?_,q,es,ep,hq,h2,h3,h4,h5⟩
  rw [Zt (ne_of ec e (fun z=>nomatch z))]
  exact ec
noncomputable def ZmC (tk tv:TE):TE:=fun σ H Q => ∀ p,H p=none→tk σ (upd H p (.dT [])) fun x H1=>tv σ H1 fun y H2 => ∃ kvs0 H3,H2 p=some (.dT kvs0)∧DPut H2 p x y H3∧Q (.ref p) H3
theorem Zl8 {pos:Pos} {k v:Expr} {tk tv:TE} (hu:X.A.units<cLine) (hk:PE X k tk) (hv:PE X v tv):PE X (.Dict [some k] [v] pos) (ZmC tk tv):=by
 intro pins s σ H Q I q
 have hn:=I.hok.fresh (Nat.le_refl s.heap.objs.size)
 have I1 := I.laid (a := s.heap.objs.size) (o := .dT []) (h' := s.heap.push { cls := .type "dict", data := .dict #[] }) (t' := s.toks) (fun _ _ q => Heap.get?_push_of_some _ q) (Nat.le_refl _) (Zm6 s.heap I.big)
 rw [arm_eval_Dict,zip_pairTrees [some k] [v] X.env pos rfl rfl,dictDisplay_pairs (pairTrees [some k] [v] X.env pos) (by simp [pairTrees]) (by simp [pairTrees])]
 refine wpAny_bind (wpAny_standAt (wpAny_bind ?_))
 unfold subDict
 refine wpAny_bind (wpAny_alloc ?_)
 refine wpAny_bind (wpAny_holding ?_)
 rw [if_pos (by simp [pairTrees])]
 refine wpAny_bind (pairTrees_cons_walk (thn (hk pins _ σ _ _ I1 (q _ hn)) fun u s1 ⟨x,H1,I2,rx,q1⟩=>thn (hv pins s1 σ H1 _ I2 q1) fun w2 s2 ⟨y,H2,I3,ry,kvs0,H3,e0,g,q2⟩=>pairTrees_nil_walk ?_))
 refine wpAny_holding ?_
 rw [List.forIn_cons]
 refine wpAny_bind (wpAny_bind (wpAny_bind (Zny hu I3 e0 g rx ry fun s' I4 => ?_)))
 refine wpAny_pure ?_
 show wpAny _ _ (forIn [] _ _) _ _ _
 rw [List.forIn_nil]
 have fin:EP X pins σ Q (.ref s.heap.objs.size) s':=⟨.ref s.heap.objs.size,H3,I4,rfl,q2⟩
 first
  | exact wpAny_pure (wpAny_pure (wpAny_pure (wpAny_pure fin)))
  | exact wpAny_pure (wpAny_pure fin)
  | exact wpAny_pure (wpAny_pure (wpAny_pure fin))
  | exact wpAny_pure fin
end
end L2
namespace DL
open PySem PySem.Spec PyProof.Rows L2
noncomputable def QU (fk fv:DE):DE:=fun ρ st=>(fk ρ (st++[.dtt []])).bind fun k st1=>(fv ρ st1).bind fun v st2=>match st2[st.length]? with
 | some (.dtt _)=>match Yz st2 (.res st.length) k v with
  | some st3 => .ok (.res st.length) st3
  | none => .bad
 | _ => .bad
section
variable {X:Cx} {EX:EXT} {k v:Expr} {fk fv:DE} {pos:Pos}
theorem ZeX (hu:X.A.units+64<cLine) (hk:PD X EX k fk) (hv:PD X EX v fv):PD X EX (.Dict [some k] [v] pos) (QU fk fv):=by
 refine PE.mono (Zl8 (by omega) hk hv) ?_
 rintro σ H Q ⟨O,ρ,st,W,E,R⟩ p hp
 have kp:Keep X.K O H (O++[p]) (upd H p (.dT [])):=Keep.push hp
 have W1:WR X.K (O++[p]) (upd H p (.dT [])) (st++[.dtt []]):=W.push' hp ⟨[],YR,rfl⟩
 have R1:=Run.later R kp
 have hq:(O++[p])[st.length]?=some p:=by rw [← W.len]; simp
 refine ⟨O++[p],ρ,st++[.dtt []],W1,E.mono kp,R1.bind.mono fun d st1 O1 H1 k1 W2 R2 x rx => ?_⟩
 refine ⟨O1,ρ,st1,W2,E.mono (kp.trans k1),R2.bind.mono fun z st2 O2 H2 k2 W3 R3 y ry => ?_⟩
 have hq2:=k2.pre _ _ (k1.pre _ _ hq)
 split at R3
 ·rename_i kvs hs
  split at R3
  ·rename_i st3 h3
   have rr:Rep X.K O2 H2 (.res st.length) (.ref p):=Rep.res_i.mpr ⟨p,rfl,hq2⟩
   obtain ⟨a,H3,ea,g,kp3,W4⟩:=Zgt W3 h3 rr (Rep.mono k2 _ _ rx) ry
   cases ea
   obtain ⟨vs,e2,_⟩:=W3.at_ _ _ _ hq2 hs
   exact ⟨vs,H3,e2,g,R3 O2 H3 kp3 W4 (.ref p) (Rep.mono kp3 _ _ rr)⟩
  ·exact R3.elim
 ·exact R3.elim
theorem ZdU {ρ:Ev} {st:Sto}:QU fk fv ρ st=(fk ρ (st++[.dtt []])).bind fun k st1=>(fv ρ st1).bind fun v st2=>match st2[st.length]? with
 | some (.dtt _)=>match Yz st2 (.res st.length) k v with
  | some st3 => .ok (.res st.length) st3
  | none => .bad
 | _ => .bad:=rfl
end
end DL
end
section
set_option maxHeartbeats 2000000
namespace PySem
open Sem (wp)
section
variable {prog:Program} {w:World} {K:Type} [DecidableEq K] {knd:HeapKind prog w K} {A:Around} {E:Value→Shared→Prop} {s:Shared}
theorem Zmu {stored:List Value} {Q:Bool→Shared→Prop} (hst:∀ v∈stored,∃ k' b,v = .ref b∧knd.is s.heap k' b) (h:Q false s):wpAny (model prog w) A (tableMayTell .none stored) Q E s:=by
 unfold tableMayTell
 split
 ·exact wpAny_pure h
 ·refine wpAny_bind (wpAny_pure ?_)
  simp only [Bool.not_true,Bool.false_eq_true,if_false]
  refine wpAny_bind ?_
  refine wpAny_forIn_list _ (fun rest r s'=>s'=s∧r=(none,())∧∀ v∈rest,∃ k' b,v = .ref b∧knd.is s.heap k' b) _ ?_ ?_ _ _ ⟨rfl,rfl,hst⟩
  ·rintro x rest r s' ⟨rfl,rfl,hr⟩
   obtain ⟨k',b,rfl,hb⟩:=hr x List.mem_cons_self
   refine wpAny_bind (knd.quiet hb ?_)
   simp only [Bool.not_true,Bool.false_eq_true,if_false]
   exact wpAny_pure ⟨rfl,rfl,fun v hv=>hr v (List.mem_cons_of_mem _ hv)⟩
  ·rintro r s' ⟨rfl,rfl,_⟩
   exact wpAny_pure h
theorem Zkh {d:Addr} {o:Obj} {es ep} {xs:List (K×Addr×Value)} {h:Int} {Q:Option Nat→Shared→Prop} (ho:s.heap.get? d=some o) (hd:o.data = .dict es ep) (he:es.toList=xs.map (entryOfKey knd)) (his:∀ x∈xs,knd.is s.heap x.1 x.2.1)
  (heq:∀ x∈xs,∀ Q:Bool→Shared→Prop,Q false s→wpAny (model prog w) A (eqBool (.ref x.2.1) .none) Q E s) (hQ:Q none s):wpAny (model prog w) A (dictFind d .none h) Q E s:=by
 have hmem:∀ e∈es,∃ x∈xs,e=entryOfKey knd x:=by
  intro e hin
  have:e∈xs.map (entryOfKey knd):=he ▸ Array.mem_toList_iff.mpr hin
  obtain ⟨x,hx,rfl⟩:=List.mem_map.mp this
  exact ⟨x,hx,rfl⟩
 have hst:∀ v∈(placesWithHash es.size (fun i=>es[i]?.map (·.hash)) h).filterMap (fun i=>es[i]?.map (·.key)),∃ k' b,v = .ref b∧knd.is s.heap k' b:=by
  intro v hv
  obtain ⟨i,_,hi⟩:=List.mem_filterMap.mp hv
  cases hei:es[i]? with
  | none=>rw [hei] at hi; cases hi
  | some e =>
   rw [hei] at hi
   obtain rfl:e.key=v:=by simpa using hi
   obtain ⟨x,hx,rfl⟩:=hmem e (Array.mem_of_getElem? hei)
   exact ⟨x.1,x.2.1,rfl,his x hx⟩
 unfold dictFind
 try with_reducible refine wpAny_holding ?_
 refine wpAny_bind (wpAny_dictEntries ho hd ?_)
 dsimp only
 by_cases c:((Value.none :: (placesWithHash es.size (fun i=>es[i]?.map (·.hash)) h).filterMap (fun i=>es[i]?.map (·.key))).all carriedByValue)=true
 ·rw [if_pos c]
  unfold dictWalkPlain
  refine wpAny_bind ?_
  refine wpAny_forIn_list _ (fun rest r s'=>s'=s∧r=(none,())) _ ?_ ?_ _ _ ⟨rfl,rfl⟩
  ·rintro x rest r s' ⟨rfl,rfl⟩
   cases hei:es[x]? with
   | none =>
    dsimp only
    exact wpAny_pure ⟨rfl,rfl⟩
   | some e =>
    obtain ⟨y,hy,rfl⟩:=hmem e (Array.mem_of_getElem? hei)
    dsimp only
    split
    ·refine wpAny_bind (wpAny_dictEpoch ho hd (wpAny_bind (heq y hy _ (wpAny_bind (wpAny_dictEpoch ho hd ?_)))))
     rw [if_neg (by simp)]
     simp only [Bool.false_eq_true,if_false]
     first
      | exact wpAny_bind (wpAny_rule (wpAny_pure ⟨rfl,rfl⟩))
      | exact wpAny_bind (wpAny_pure (wpAny_bind (wpAny_rule (wpAny_pure ⟨rfl,rfl⟩))))
    ·exact wpAny_pure ⟨rfl,rfl⟩
  ·rintro r s' ⟨rfl,rfl⟩
   first
    | exact wpAny_pure (wpAny_pure hQ)
    | exact wpAny_pure hQ
 ·rw [if_neg c]
  by_cases hone:(((placesWithHash es.size (fun i=>es[i]?.map (·.hash)) h).filterMap (fun i=>es[i]?.map (·.key))) == [Value.none])=true <;>
  (first | rw [if_pos hone] | rw [if_neg hone]) <;> (first | refine wpAny_bind (wpAny_pure ?_) | refine wpAny_bind (Zmu (knd:=knd) hst ?_)) <;> (
   rw [if_neg (by simp)]
   refine wpAny_bind ?_
   refine wpAny_forIn_list _ (fun rest r s'=>s'=s∧r=(none,none)) _ ?_ ?_ _ _ ⟨rfl,rfl⟩
   ·rintro x rest r s' ⟨rfl,rfl⟩
    cases hei:es[x]? with
    | none =>
     dsimp only
     exact wpAny_pure ⟨rfl,rfl⟩
    | some e =>
     obtain ⟨y,hy,rfl⟩:=hmem e (Array.mem_of_getElem? hei)
     dsimp only
     split
     ·refine wpAny_bind (wpAny_dictEpoch ho hd (wpAny_bind (heq y hy _ (wpAny_bind (wpAny_dictEpoch ho hd ?_)))))
      rw [if_neg (by simp)]
      simp only [Bool.false_eq_true,if_false]
      first
       | exact wpAny_bind (wpAny_rule (wpAny_pure ⟨rfl,rfl⟩))
       | exact wpAny_bind (wpAny_pure (wpAny_bind (wpAny_rule (wpAny_pure ⟨rfl,rfl⟩))))
       | (refine wpAny_bind (wpAny_rule ?_); rw [if_neg (by simp)]; exact wpAny_pure ⟨rfl,rfl⟩)
     ·exact wpAny_pure ⟨rfl,rfl⟩
   ·rintro r s' ⟨rfl,rfl⟩
    exact wpAny_pure hQ)
theorem ZiR {Q:Int→Shared→Prop} (h:∀ n tk,Q n { s with toks:=tk }):wpAny (model prog w) A (pyHash .none) Q E s :=
 show wpAny (model prog w) A (pyHashByItsType .none) Q E s from
 PySem.W.pyHash_slot (T := "NoneType") rfl F.slot_NoneType_hash F.entry_NoneType_hash (F.args_NoneType_hash_1 _) (beq_builtin_none _) (.inl rfl) (wpAny_bind (wpAny_pure (wpAny_bind (wpAny_mkInt (wpAny_pure ⟨_, _, rfl, h _ _⟩)))))
theorem Zhh {d:Addr} {xs:List (K×Addr×Value)} {Q:Value→Shared→Prop} (hd:(d == sysModules)=false) (hm:s.heap.DictOfH knd d xs)
  (heq:∀ tk,∀ x∈xs,∀ (E:Value→Shared→Prop) (Q:Bool→Shared→Prop),Q false { s with toks:=tk }→wpAny (model prog w) A.in1 (eqBool (.ref x.2.1) .none) Q E { s with toks:=tk }) (h:∀ tk,Q (.bool true) { s with toks:=tk }) :
  wpAny (model prog w) A (compareOp .NotIn .none (.ref d)) Q E s:=by
 show wpAny _ _ (do return .bool (!(← contains (.ref d) .none))) Q E s
 refine wpAny_bind ?_
 unfold contains
 try with_reducible refine wpAny_holding ?_
 refine wpAny_bind (wpAny_specialOf hm.typeIs slot_dict_contains.lookup ?_)
 show wpAny _ _ (if (some (Value.builtin "dict.__contains__") == some Value.none) = true then _ else _) _ E s
 rw [if_neg (by rw [beq_builtin_none]; exact Bool.false_ne_true)]
 refine wpAny_bind (wpAny_callSpecialUnlessNone?_slot (name := Str.ofString "__contains__") hm.typeIs slot_dict_contains
  (wpAny_call_entry slot_dict_contains hm.typeIs entry_dict_contains ?_ (args_dict_contains _ _)))
 show wpAny _ _ (dictGet d .none >>= _) _ _ s
 refine wpAny_bind ?_
 unfold dictGet
 try with_reducible refine wpAny_holding ?_
 refine wpAny_bind (ZiR fun n tk => ?_)
 obtain ⟨o,es,ep,ho,hc,hdd,he,his,hn⟩:=hm
 refine wpAny_bind (Zkh (s:={ s with toks:=tk }) (knd:=knd) ho hdd he his (fun x hx Q hq=>heq tk x hx _ Q hq) ?_)
 refine wpAny_pure ?_
 show wpAny _ _ (Builtin.Dict.pendingKey? d .none >>= _) _ _ _
 exact wpAny_bind (wpAny_pendingKey_other hd (wpAny_pure ⟨_,rfl,wpAny_truthy_bool (wpAny_pure (h tk))⟩))
end
end PySem
namespace DL
open PySem PySem.Spec PyProof.Rows L2
noncomputable def Ys:D→D→Sto→Out D
 | .non,.res i,st=>match st[i]? with
  | some (.dtt _) => .ok (.bl true) st
  | _ => .bad
 | k,d,st=>YX k d st
theorem Zfx {st:Sto} {K:PySem.W.Frag} {O:List Addr} {H:Hp}:∀ {ds:List (D×D)} {vs:List (List Key×V)},Kvs K ZK O H ds vs→inN st depth .non (ds.map (·.1))=some false
 | [],_,_=>rfl
 | (k,d) :: ds,vs,h=>by
  obtain ⟨q,v,r,rfl,hk,_,ht⟩:=(show ∃ q v r,vs=(q,v) :: r∧ZK k=some q∧Rep K O H d v∧Kvs K ZK O H ds r from h)
  rw [List.map_cons]
  unfold inN
  rw [Zfx ht]
  cases k with
  | tup xs=>rfl
  | _=>cases hk
section
variable {X:Cx} {EX:EXT}
theorem Zbq (hu:X.A.units+64<cLine):OpD X EX (compareOp .NotIn) Ys:=by
 intro pins s σ H x y v u Q I rx ry h
 obtain ⟨O,k,d,st,W,rk,rd,R⟩:=h
 unfold Ys at R
 split at R
 ·rename_i i
  split at R
  ·rename_i ds hs
   rw [Rep.non_i] at rk
   subst rk
   rw [Rep.res_i] at rd
   obtain ⟨a,rfl,q⟩:=rd
   cases (show v=Value.none from rx)
   cases (show u=Value.ref a from ry)
   obtain ⟨vs,e2,kv⟩:=W.at_ _ _ _ q hs
   obtain ⟨z,hd,xs,kt,dd⟩:=WH I.hok (.inl e2)
   have refs:∀ (l:List (List Key×Addr×Value)),Vals (l.map fun x=>V.ref x.2.1) (l.map fun x=>Value.ref x.2.1):=by
    intro l
    induction l with
    | nil=>exact .nil
    | cons x l ih=>exact .cons rfl ih
   refine Zhh hd dd (fun tk x hx E Q hq => ?_) fun tk=>⟨.bl true,H,I.tok tk,rfl,Run.now (k:=Val X.K Q) R W _ (Rep.bl_i.mpr rfl)⟩
   obtain ⟨e,_,h1,h2⟩:=ZbP (I.tok tk) W (x:=.non) (vx:=.non) (ux:=Value.none) (Rep.non_i.mpr rfl) rfl (Zci hu) (Zfx kv) (ZcH kv kt) (refs xs)
   have hm:Value.ref x.2.1∈xs.map fun x=>Value.ref x.2.1:=List.mem_map.mpr ⟨x,hx,rfl⟩
   have h3:=h1 _ hm
   have h4:e (Value.ref x.2.1)=false:=by
    cases h5:e (Value.ref x.2.1) with
    | false=>rfl
    | true =>
     have:(xs.map fun x=>Value.ref x.2.1).any e=true:=List.any_eq_true.mpr ⟨_,hm,h5⟩
     rw [h2] at this
     cases this
   rw [h4] at h3
   exact h3 _ _ E Q hq
  ·exact R.elim
 ·exact ZmA hu pins s σ H x y v u Q I rx ry ⟨O,k,d,st,W,rk,rd,R⟩
end
end DL
end
section
set_option maxHeartbeats 2000000
namespace HT
open PySem PyProof.Rows PyProof.Rows.LSm
theorem ZkV (bs:List Bool):((List.range bs.length).any fun i=>(bs[i]?).getD true)=bs.any id:=by
 rw [Bool.eq_iff_iff,List.any_eq_true,List.any_eq_true]
 constructor
 ·rintro ⟨i,hi,h⟩
  have hi':=List.mem_range.mp hi
  rw [List.getElem?_eq_getElem hi',Option.getD_some] at h
  exact ⟨bs[i],List.getElem_mem hi',h⟩
 ·rintro ⟨b,hb,h⟩
  obtain ⟨i,hi,rfl⟩:=List.mem_iff_getElem.mp hb
  refine ⟨i,List.mem_range.mpr hi,?_⟩
  rw [List.getElem?_eq_getElem hi,Option.getD_some]
  exact h
section
variable {prog:Program} {w:World} {A:Around} {E:Value→Shared→Prop} {s:Shared} {l:Addr} {vs:List Value}
theorem any_kept {bs:List Bool} {Q:Value→Shared→Prop} (hh:A.handled=none) (hl:s.heap.IsList l vs.toArray) (hb:BoolsAre vs bs)
  (h : ∀ h' tk, (∀ b x, s.heap.get? b = some x → h'.get? b = some x) → Q (.bool (bs.any id)) { s with heap := h', toks := tk }) : wpAny (model prog w) A (call (.builtin "any") [.ref l]) Q E s := by
 have hlt:l<s.heap.objs.size:=by obtain ⟨_,e,_⟩:=hl; exact Heap.lt_size e
 refine call_any_walk (wpAny_pyIter_list hl ?_)
 refine ⟨s.heap.objs.size,[s.heap.objs.size,l],[s.heap.objs.size],vs.toArray.size,_,_,fun i=>(bs[i]?).getD true,rfl,Walks.list (A:=A.in1) hh _ l (Nat.ne_of_lt hlt) vs.toArray,⟨⟨_,Heap.get?_push_size _ rfl,rfl,rfl⟩,hl.push _⟩,fun i v s' Q' E' hP hQ => ?_,fun h' tk hk => ?_⟩
 ·obtain ⟨b,e,rfl⟩:=hb.get i v (by simpa using hP)
  simp only [e,Option.getD_some] at hQ
  exact wpAny_truthy_bool hQ
 ·have e:((List.range vs.toArray.size).any fun i=>(bs[i]?).getD true)=bs.any id:=by
   rw [List.size_toArray,hb.length]
   exact ZkV bs
  rw [e]
  exact h h' tk (kept_iter hk)
end
end HT
namespace DL
open PySem PySem.Spec PyProof.Rows L2
noncomputable def ZbH:List D→Sto→Out D
 | [.lst ds],st=>match Wr ds with
  | some bs => .ok (.bl (bs.any id)) st
  | none => .bad
 | _,_ => .bad
section
variable {X:Cx} {EX:EXT}
theorem ZhN (hc : X.calm = true) : QN X EX (.builtin "any") ZbH := by
 intro pins s σ H xs us Q I rx h
 obtain ⟨O,ds,st,W,r,R⟩:=h
 unfold ZbH at R
 split at R
 ·rename_i zs
  obtain ⟨v,rfl,rv⟩:=r.one_of
  cases e:Wr zs with
  | none=>rw [e] at R; exact R.elim
  | some bs =>
   rw [e] at R
   rw [Rep.lst_i] at rv
   obtain ⟨a,vs,rfl,_,z,rs⟩:=rv
   obtain ⟨u,rfl,ru⟩:=vals1 rx
   cases ru
   obtain ⟨its,q,pl,_⟩:=I.list (Or.inl (Or.inl z))
   exact HT.any_kept (I.ok.hd hc) pl.isList (Zjt e rs q) fun h' tk k=>⟨.bl _,H,I.kept k,rfl,Run.now (k:=Val X.K Q) R W _ (Rep.bl_i.mpr rfl)⟩
 ·exact R.elim
end
end DL
end
section
namespace DL
open PySem PySem.Spec PyProof.Rows L2
mutual
noncomputable def nice:Nat→D→Bool
 | 0,_=>false
 | _+1,.non=>true
 | _+1,.int _=>true
 | _+1,.str _=>true
 | n+1,.tup xs=>Wv n xs
 | n+1,.lst xs=>Wv n xs
 | _+1,_=>false
noncomputable def Wv:Nat→List D→Bool
 | _,[]=>true
 | n,x :: xs=>nice n x && Wv n xs
end
theorem Qx (n:Nat):∀ xs:List D,Wv n xs=true ↔ ∀ x∈xs,nice n x=true
 | []=>by simp [Wv]
 | x :: xs=>by simp [Wv,Qx n xs]
open Classical in
theorem Zb3 {f:D→D→Option Bool}:∀ (xs ys:List D),(∀ x∈xs,∀ y∈ys,f x y=some (decide (x=y)))→ZZ f xs ys=some (decide (xs=ys))
 | [],[],_=>by simp [ZZ]
 | [],y :: ys,_=>by simp [ZZ]
 | x :: xs,[],_=>by simp [ZZ]
 | x :: xs,y :: ys,h=>by
  unfold ZZ
  rw [h x List.mem_cons_self y List.mem_cons_self,Zb3 xs ys fun a ha b hb=>h a (List.mem_cons_of_mem _ ha) b (List.mem_cons_of_mem _ hb)]
  by_cases h1:x=y <;> by_cases h2:xs=ys <;> simp [h1,h2]
open Classical in
theorem WY (st:Sto):∀ (n:Nat) (a b:D),nice n a=true→nice n b=true→eqN st n a b=some (decide (a=b))
 | 0,a,b,h,_=>by cases a <;> simp [nice] at h
 | n+1,a,b,ha,hb=>by
  unfold eqN
  cases a <;> cases b <;> simp only [nice,Bool.false_eq_true] at ha hb <;> simp only [kd]
  case tup.tup xs ys =>
   rw [Zb3 xs ys fun x hx y hy=>WY st n x y ((Qx n xs).mp ha x hx) ((Qx n ys).mp hb y hy)]
   simp
  case lst.lst xs ys =>
   rw [Zb3 xs ys fun x hx y hy=>WY st n x y ((Qx n xs).mp ha x hx) ((Qx n ys).mp hb y hy)]
   simp
  all_goals simp [Bool.beq_eq_decide_eq]
open Classical in
theorem ZbI {a b:D} {st:Sto} (ha:nice depth a=true) (hb:nice depth b=true):eqD a b st = .ok (.bl (decide (a=b))) st:=by
 unfold eqD; rw [WY st depth a b ha hb]
open Classical in
theorem Zbb {a b:D} {st:Sto} (ha:nice depth a=true) (hb:nice depth b=true):neD a b st = .ok (.bl (!decide (a=b))) st:=by
 unfold neD; rw [WY st depth a b ha hb]
noncomputable def pl (ws:List Str):D:=.tup (ws.map .str)
theorem ZjM (n:Nat) (ws:List Str):Wv (n+1) (ws.map .str)=true:=by
 rw [Qx]
 intro x hx
 obtain ⟨w,_,rfl⟩:=List.mem_map.mp hx
 rfl
theorem Zdh (n:Nat) (ws:List Str):nice (n+2) (pl ws)=true:=ZjM n ws
theorem Za9 (ws:List Str):nice depth (pl ws)=true:=Zdh 48 ws
theorem str_inj {ws us:List Str}:ws.map D.str=us.map D.str ↔ ws=us:=by
 constructor
 ·intro h
  have : (ws.map D.str).map (fun d => match d with | .str x => x | _ => ("" : Str)) = (us.map D.str).map (fun d => match d with | .str x => x | _ => ("" : Str)) := by rw [h]
  simpa [List.map_map,Function.comp_def] using this
 ·intro h; rw [h]
theorem ZfZ {ws us:List Str}:pl ws=pl us ↔ ws=us:=by
 unfold pl
 rw [D.tup.injEq]
 exact str_inj
theorem Zgz (ws us:List Str) (st:Sto):eqD (pl ws) (pl us) st = .ok (.bl (decide (ws=us))) st:=by
 rw [ZbI (Za9 ws) (Za9 us)]
 congr 2
 exact decide_eq_decide.mpr ZfZ
theorem Zd1 (ws us:List Str) (st:Sto):neD (pl ws) (pl us) st = .ok (.bl (!decide (ws=us))) st:=by
 rw [Zbb (Za9 ws) (Za9 us)]
 congr 3
 exact decide_eq_decide.mpr ZfZ
theorem WD (x y:Str) (st:Sto):eqD (.str x) (.str y) st = .ok (.bl (decide (x=y))) st:=by
 rw [ZbI rfl rfl]
 congr 2
 exact decide_eq_decide.mpr (by rw [D.str.injEq])
theorem Za8 (x y:Str) (st:Sto):neD (.str x) (.str y) st = .ok (.bl (!decide (x=y))) st:=by
 rw [Zbb rfl rfl]
 congr 3
 exact decide_eq_decide.mpr (by rw [D.str.injEq])
theorem Zbs (x y:Int) (st:Sto):eqD (.int x) (.int y) st = .ok (.bl (decide (x=y))) st:=by
 rw [ZbI rfl rfl]
 congr 2
 exact decide_eq_decide.mpr (by rw [D.int.injEq])
theorem Zaz (ws:List Str) (st:Sto):itemsOf st (pl ws)=some (ws.map .str):=rfl
theorem ZbF (ws:List Str) (st:Sto):ZO [pl ws] st = .ok (.int ws.length) st:=by
 simp [ZO,pl,itemsOf]
theorem ZmK (ws us:List Str) (st:Sto) (h:ws.length+us.length≤small):ZG (pl ws) (pl us) st = .ok (pl (ws++us)) st:=by
 simp [ZG,pl,h]
theorem Zjd {α β:Type} (f:α→β) (xs:List α) (lo hi:Option Int):YA (xs.map f) lo hi=(YA xs lo hi).map f:=by
 simp [YA,List.map_take,List.map_drop]
theorem ZeR (ws:List Str) (lo hi:Option Int) (st:Sto):Zaf (pl ws) lo hi st = .ok (pl (YA ws lo hi)) st:=by
 simp [Zaf,pl,Zjd]
theorem ZdD {α:Type} (xs:List α) (n:Nat):YA xs none (some (n:Int))=xs.take n:=by
 unfold YA
 rw [HT.sIx_none,HT.sIx_nat,List.drop_zero,Nat.sub_zero]
 by_cases h:n≤xs.length
 ·rw [Nat.min_eq_left h]
 ·rw [Nat.min_eq_right (by omega),List.take_length,List.take_of_length_le (by omega)]
theorem YU {chk:Sto→Prop} {t:TgD} {g:DS} {ρ:Ev} {st:Sto} (hc:chk st):Zz chk t g [] ρ st = .nx ρ st:=by
 unfold Zz; rw [if_pos hc]
theorem Yo {chk:Sto→Prop} {t:TgD} {g:DS} {x:D} {xs:List D} {ρ ρ1 ρ2:Ev} {st st2:Sto} (hc:chk st) (ht:t x ρ=some ρ1) (hg:g ρ1 st = .nx ρ2 st2):Zz chk t g (x :: xs) ρ st=Zz chk t g xs ρ2 st2:=by
 rw [Zz,if_pos hc,ht]; dsimp only; rw [hg]
theorem ZaM {chk:Sto→Prop} {t:TgD} {g:DS} {x d:D} {xs:List D} {ρ ρ1:Ev} {st st2:Sto} (hc:chk st) (ht:t x ρ=some ρ1) (hg:g ρ1 st = .rt d st2):Zz chk t g (x :: xs) ρ st = .rt d st2:=by
 rw [Zz,if_pos hc,ht]; dsimp only; rw [hg]
theorem Zh2 (i j:Int) (h1 : -(2 ^ 64)<j) (h2:j<2 ^ 64):Qh i j=true:=by
 unfold Qh
 rw [decide_eq_true h1,decide_eq_true h2]
 simp
theorem QW (i j:Int) (h1 : -(2 ^ 64)<i) (h2:i<2 ^ 64):Qh i j=true:=by
 unfold Qh
 rw [decide_eq_true h1,decide_eq_true h2]
 simp
theorem Qb (i j:Int) (st:Sto) (h:Qh i j=true):Yl (.int i) (.int j) st = .ok (.int (i * j)) st:=by
 simp [Yl,Zbj,intOp,h]
theorem mod_int (i j:Int) (st:Sto) (h:0<j):Wu (.int i) (.int j) st = .ok (.int (i % j)) st:=by
 simp [Wu,intOp,h]
theorem Zbv (i j:Int) (st:Sto) (h:0<j) (h2:j<1073741824):Qa (.int i) (.int j) st = .ok (.int (i / j)) st:=by
 have e:ZdM i j=true:=@decide_eq_true (0<j∧j<1073741824) (Classical.propDecidable _) ⟨h,h2⟩
 simp [Qa,intOp,e]
theorem ZaA (a b:Int) (st:Sto):ZG (.int a) (.int b) st = .ok (.int (a+b)) st:=rfl
theorem law_sp {K:PySem.W.Frag} {F:FD} (hF:∀ ns:List Int,ns.length≤63→∃ st,F [.scr (ns.map .int)] [] = .ok (.bl true) st) (H:Hp) (a:Addr) (ns:List Int) (hl:ns.length≤63) (ho:ZbK H) (hs:SqL K H a (ns.map V.int)) :
  spD K F [.ref a] H (fun v _=>v = .bl true) fun _ _ _=>False:=by
 obtain ⟨st,e⟩:=hF ns hl
 refine ⟨[],[.scr (ns.map .int)],[],⟨rfl,List.nodup_nil,fun i a s h=>by simp at h⟩,Reps.one (Rep.scr_i.mpr ⟨a,_,rfl,SqF.of hs ?_,?_⟩),?_⟩
 ·rcases ho a with h | ⟨o,xs,h⟩ <;> rw [h] <;> intro z <;> cases z
 ·have:∀ (ms:List Int),Reps K [] H (ms.map D.int) (ms.map V.int):=by
   intro ms
   induction ms with
   | nil=>exact Reps.nil_i.mpr rfl
   | cons m ms ih=>exact Reps.cons_i.mpr ⟨_,_,rfl,Rep.int_i.mpr rfl,ih⟩
  exact this ns
 ·rw [e]
  exact fun O' H' _ _ v r=>Rep.bl_i.mp r
section
variable {α β:Type} {ρ:Ev} {st:Sto} {f fa fb fc fo:DE} {ta tb t:DT} {g g':DS} {da:DA} {i:Nat} {G:D→D→Sto→Out D} {H:D→D→Sto→Out (List D)}
@[simp] theorem ZeA (a:α) (st:Sto) (k:α→Sto→Out β):(Out.ok a st).bind k=k a st:=rfl
@[simp] theorem ZnK (k:α→Sto→Out β):(Out.bad:Out α).bind k = .bad:=rfl
@[simp] theorem ZcV (a:α) (st:Sto) (k:α→Sto→OutS):(Out.ok a st).to k=k a st:=rfl
@[simp] theorem ZdN:Za i ρ st=match ρ[i]? with
 | some (some d) => .ok d st
 | _ => .bad:=rfl
@[simp] theorem z_C (d:D):dC d ρ st = .ok d st:=rfl
@[simp] theorem ZnM:Ze G fa fb ρ st=(fa ρ st).bind fun x st1=>(fb ρ st1).bind fun y st2=>G x y st2:=rfl
@[simp] theorem Zn1:Za2 H fa fb ρ st=(fa ρ st).bind fun x st1=>(fb ρ st1).bind fun y st2=>H x y st2:=rfl
@[simp] theorem z_B:dB f ρ st=(f ρ st).bind asB:=rfl
@[simp] theorem ZnI (b:Bool):asB (.bl b) st = .ok b st:=rfl
@[simp] theorem ZnV (b:Int):Zcy (.int b) st = .ok (some b) st:=rfl
@[simp] theorem ZnQ:Yg ta tb ρ st=(ta ρ st).bind fun x st1=>if x=true then tb ρ st1 else .ok false st1:=rfl
@[simp] theorem ZnH:dOr ta tb ρ st=(ta ρ st).bind fun x st1=>if x=true then .ok true st1 else tb ρ st1:=rfl
@[simp] theorem ZnL:ZaG ta ρ st=(ta ρ st).bind fun x st1 => .ok (!x) st1:=rfl
@[simp] theorem ZnO:dIf t fa fb ρ st=(t ρ st).bind fun x st1=>if x=true then fa ρ st1 else fb ρ st1:=rfl
@[simp] theorem ZnN:Zf ρ st = .ok [] st:=rfl
@[simp] theorem Zn0:Zc f da ρ st=(f ρ st).bind fun x st1=>(da ρ st1).bind fun xs st2 => .ok (x :: xs) st2:=rfl
@[simp] theorem Zn6:Z4 da ρ st=(da ρ st).bind fun xs st1=>if xs.length≤small then .ok (.tup xs) st1 else .bad:=rfl
@[simp] theorem Zn4:ZL da ρ st=(da ρ st).bind fun xs st1=>if xs.length≤small then .ok xs st1 else .bad:=rfl
@[simp] theorem z_F:dF da ρ st=(da ρ st).bind fun xs st1 => .ok (.lst xs) st1:=rfl
@[simp] theorem ZnB {γ:D→Option Int→Option Int→Sto→Out α} {l h:DO}:dSl γ f l h ρ st=(f ρ st).bind fun x st1=>(l ρ st1).bind fun lo st2=>(h ρ st2).bind fun hi st3=>γ x lo hi st3:=rfl
@[simp] theorem ZnP:Zav ρ st = .ok none st:=rfl
@[simp] theorem Zn9:Zal f ρ st=(f ρ st).bind Zcy:=rfl
@[simp] theorem ZnW {γ:List D→Sto→Out α}:Zk γ da ρ st=(da ρ st).bind γ:=rfl
@[simp] theorem ZnU {caps:List Nat} {nT:Nat} {fi:DI} {tg:TgD}:YB caps nT fi tg t f ρ st=(fi ρ st).bind fun q st1=>ZU q.2 tg t f q.1 (Z6 ρ caps nT) st1 []:=rfl
@[simp] theorem ZnX:ZI f ρ st=(f ρ st).bind fun d st1=>match itemsOf st1 d with
 | some xs => .ok (xs,fun st=>itemsOf st d=some xs) st1
 | none => .bad:=rfl
@[simp] theorem ZnR {T:String}:ZaZ T f ρ st=(f ρ st).bind fun d st1=>match tyName d with
 | some t => .ok (.bl (Qu t T)) st1
 | none => .bad:=rfl
@[simp] theorem Zn3:Zap f ρ st=(f ρ st).bind fun d st1=>match d with
 | .int i => .ok (.int (-i)) st1
 | _ => .bad:=rfl
@[simp] theorem Zn2:Z8 ρ st = .nx ρ st:=rfl
@[simp] theorem ZnT:Zl g g' ρ st=match g ρ st with
 | .nx ρ' st'=>g' ρ' st'
 | r=>r:=rfl
@[simp] theorem Zn8:Y4 f ρ st=(f ρ st).to fun _ st1 => .nx ρ st1:=rfl
@[simp] theorem ZnJ:ZE f ρ st=(f ρ st).to fun d st1 => .rt d st1:=rfl
@[simp] theorem Zn7:sIf t g g' ρ st=(t ρ st).to fun x st1=>if x=true then g ρ st1 else g' ρ st1:=rfl
@[simp] theorem ZkQ:Zw i f ρ st=(f ρ st).to fun d st1 => .nx (ρ.set i (some d)) st1:=rfl
@[simp] theorem ZnC:Yj i da ρ st=(da ρ st).to fun ds st1 => .nx (ρ.set i (some (.res st1.length))) (st1++[.lst ds]):=rfl
@[simp] theorem Zae {fi:DI} {tg:TgD}:Yc fi tg g ρ st=(fi ρ st).to fun q st1=>Zz q.2 tg g q.1 ρ st1:=rfl
@[simp] theorem Zle {N n:Nat} {ds:List D}:ZQ N n g ds st=if ds.length=n then (match g (ds.map some++List.replicate (N - n) none) st with
 | .nx _ st' => .ok .non st'
 | .rt d st' => .ok d st'
 | _ => .bad) else .bad:=rfl
@[simp] theorem ZnZ (a b:Int) (st:Sto):ZG (.int a) (.int b) st = .ok (.int (a+b)) st:=rfl
theorem Yx {n:Nat} (h:n≤1000):n≤small:=Nat.le_trans h (by decide)
@[simp] theorem ZnD:(0:Nat)≤small:=Nat.zero_le _
@[simp] theorem Zn5:(1:Nat)≤small:=by decide
@[simp] theorem ZnG:(2:Nat)≤small:=by decide
@[simp] theorem ZnA:(3:Nat)≤small:=by decide
@[simp] theorem ZnF:(4:Nat)≤small:=by decide
@[simp] theorem Znz:(5:Nat)≤small:=by decide
@[simp] theorem ZnS:(6:Nat)≤small:=by decide
end
end DL
end
section
namespace K52
open PySem L2 DL
noncomputable def top (i:Nat):Stmt:=PySem.Challenge.pw_cardplaces_k52_ways.main.body.getD i (.Pass ⟨0,0,0,0⟩)
noncomputable abbrev QB:Stmt:=top 16
theorem Zhx : FnScope ["_law_script", "_law_k"] ["_law_script", "_law_k"] (Zi QB) := ⟨rfl, rfl, rfl, by decide +kernel, rfl, by decide +kernel, by decide +kernel⟩
noncomputable def Zdt:DS:=(Zl (sIf (dB (Ze eqD (Za 0) (dF (ZL Zf)))) (ZE (Ze Yl (dC (.int 7)) (Za 1))) Z8) (ZE (Ze ZG (Ze ixD (Za 0) (Ze Wu (Za 1) (Zk ZO (Zc (Za 0) Zf)))) (Ze Yl (dC (.int 6553)) (Ze Qa (Za 1) (Zk ZO (Zc (Za 0) Zf)))))))
noncomputable def Q3:FD:=ZQ 2 2 (Zdt)
noncomputable abbrev QS:Stmt:=top 17
theorem scz_law_drawn : FnScope ["_law_script", "_law_k", "_law_many", "_law_cell_here"] ["_law_script", "_law_k", "_law_many"] (Zi QS) := ⟨rfl, rfl, rfl, by decide +kernel, rfl, by decide +kernel, by decide +kernel⟩
noncomputable def ZdZ:DS:=(Zl (Zw 3 (Ze Wu (Ze ZG (Ze Yl (Ze Wu (Zk Q3 (Zc (Za 0) (Zc (Za 1) Zf))) (dC (.int 2147483563))) (dC (.int 69069))) (Ze Yl (dC (.int 104723)) (Ze ZG (Za 1) (dC (.int 1))))) (dC (.int 2147483563)))) (Zl (Zw 3 (Ze Wu (Ze ZG (Ze Yl (Za 3) (Za 3)) (Ze Qa (Za 3) (dC (.int 3)))) (dC (.int 2147483399)))) (ZE (Ze Wu (Ze Qa (Ze Wu (Ze ZG (Ze Yl (Za 3) (Za 3)) (Ze Qa (Za 3) (dC (.int 7)))) (dC (.int 2147483647))) (dC (.int 11))) (Za 2)))))
noncomputable def Ya:FD:=ZQ 4 3 (ZdZ)
noncomputable abbrev Qo:Stmt:=top 22
theorem scz_law_few : FnScope ["_law_script", "_law_at", "_law_found", "_law_k", "_law_here", "_law_word", "_law_whence", "_law_down", "_law_steps", "_law_kind"] ["_law_script", "_law_at"] (Zi Qo) := ⟨rfl, rfl, rfl, by decide +kernel, rfl, by decide +kernel, by decide +kernel⟩
noncomputable def Zdi : DE := (Ze ixD (dC (.str "ab")) (Zk Ya (Zc (Za 1) (Zc (Ze ZG (Ze ZG (Za 2) (dC (.int 4))) (Za 0)) (Zc (dC (.int 2)) Zf)))))
noncomputable def QO : DS := (Zl (Zw 4 (Ze ZG (Ze ZG (Za 1) (dC (.int 1))) (Ze Yl (dC (.int 12)) (Za 3)))) (Zl (Zw 5 (Ze ixD (dF (ZL (Zc (dC (.str "up")) (Zc (dC (.str "in")) (Zc (dC (.str "on")) (Zc (dC (.str "go")) Zf)))))) (Zk Ya (Zc (Za 0) (Zc (Za 4) (Zc (dC (.int 4)) Zf)))))) (Zl (Zw 6 (Zk YN (Zc (dF (YB [0, 4] 1 (Wg (Zc (Zk Ya (Zc (Za 0) (Zc (Ze ZG (Za 4) (dC (.int 3))) (Zc (dC (.int 3)) Zf)))) Zf)) (Zp 0) YZ Zdi)) Zf))) (Zl (Zw 7 (Z4 (Zc (Ze ixD (dC (.str "ab")) (Zk intD (Zc (Ze eqD (Zk ZO (Zc (Za 6) Zf)) (dC (.int 2))) Zf))) Zf))) (Zl (Zw 8 (Ze ixD (dF (ZL (Zc (Z4 (Zc (dC (.str "a")) Zf)) (Zc (Za 7) (Zc (Z4 (Zc (dC (.str "..")) Zf)) (Zc (Z4 (Zc (dC (.str "..")) (Zc (dC (.str "a")) Zf))) (Zc (Z4 (Zc (dC (.str ".")) Zf)) (Zc (Z4 (Zc (dC (.str "..")) (Zc (dC (.str "..")) Zf))) Zf)))))))) (Zk Ya (Zc (Za 0) (Zc (Ze ZG (Za 4) (dC (.int 1))) (Zc (dC (.int 6)) Zf)))))) (Zl (Zw 9 (Ze ixD (dF (ZL (Zc (dC (.str "open")) (Zc (dC (.str "open")) (Zc (dC (.str "replace")) (Zc (dC (.str "go")) Zf)))))) (Zk Ya (Zc (Za 0) (Zc (Ze ZG (Za 4) (dC (.int 2))) (Zc (dC (.int 4)) Zf)))))) (Zw 2 (Ze ZG (Za 2) (Z4 (Zc (Z4 (Zc (Za 6) (Zc (Za 5) (Zc (Za 9) (Zc (Ze ixD (dF (ZL (Zc (Za 8) (Zc (Zap (dC (.int 1))) Zf)))) (Zk intD (Zc (Ze eqD (Za 9) (dC (.str "go"))) Zf))) Zf))))) Zf))))))))))
noncomputable def ZdS:DS:=(Zl (Zw 2 (Z4 Zf)) (Zl (Yc (Wg (Zc (Zk Ya (Zc (Za 0) (Zc (Za 1) (Zc (dC (.int 6)) Zf)))) Zf)) (Zp 3) QO) (ZE (Za 2))))
noncomputable def W9:FD:=ZQ 10 2 (ZdS)
noncomputable abbrev W8:Stmt:=top 21
theorem scz_law_link : FnScope ["_law_links_here", "_law_place_here", "_law_word", "_law_some"] ["_law_links_here", "_law_place_here", "_law_word"] (Zi W8) := ⟨rfl, rfl, rfl, by decide +kernel, rfl, by decide +kernel, by decide +kernel⟩
noncomputable def Zcj:DE:=(Za 0)
noncomputable def Zdb:DT:=(Yg (dB (Ze eqD (Ze ixD (Za 0) (dC (.int 1))) (Za 1))) (dB (Ze eqD (dSl Zaf (Za 2) Zav (Zal (Zk ZO (Zc (Ze ixD (Za 0) (dC (.int 0))) Zf)))) (Ze ixD (Za 0) (dC (.int 0))))))
noncomputable def Zem:DS:=(Zl (Zw 3 (dF (YB [2,1] 1 (ZI (Za 0)) (Zp 0) Zdb Zcj))) (ZE (Ze ixD (dF (Za2 Zat (Za 3) (dF (ZL (Zc (dC .non) Zf))))) (dC (.int 0)))))
noncomputable def Qf:FD:=ZQ 4 3 (Zem)
noncomputable abbrev QH:Stmt:=top 20
theorem scz_law_led : FnScope ["_law_place_here", "_law_steps", "_law_found", "_law_step"] ["_law_place_here", "_law_steps"] (Zi QH) := ⟨rfl, rfl, rfl, by decide +kernel, rfl, by decide +kernel, by decide +kernel⟩
noncomputable def YD : DS := (Zl (sIf (dOr (Yg (dB (Ze eqD (Za 3) (dC (.str "..")))) (dB (Ze eqD (Za 2) (dF (ZL Zf))))) (Yg (dB (Ze ZaL (Za 3) (Z4 (Zc (dC (.str ".")) (Zc (dC (.str "..")) Zf))))) (dB (Ze eqD (Zk ZO (Zc (Za 2) Zf)) (dC (.int 6)))))) (ZE (dC .non)) Z8) (sIf (dB (Ze eqD (Za 3) (dC (.str "..")))) (Yj 2 (dSl ZaC (Za 2) Zav (Zal (Zap (dC (.int 1)))))) (sIf (dB (Ze neD (Za 3) (dC (.str ".")))) (Y4 (Yv (Za 2) (Za 3))) Z8)))
noncomputable def ZbQ:DS:=(Zl (Yj 2 (Zk Zad (Zc (Za 0) Zf))) (Zl (Yc (ZI (Za 1)) (Zp 3) YD) (ZE (Zk YN (Zc (Za 2) Zf)))))
noncomputable def Wl:FD:=ZQ 4 2 (ZbQ)
noncomputable abbrev Qq:Stmt:=top 23
theorem scz_law_next : FnScope ["_law_links_here", "_law_place_here", "_law_found", "_law_word", "_law_link_here"] ["_law_links_here", "_law_place_here"] (Zi Qq) := ⟨rfl, rfl, rfl, by decide +kernel, rfl, by decide +kernel, by decide +kernel⟩
noncomputable def ZcE:DE:=(Ze ixD (Za 0) (dC (.int 1)))
noncomputable def Zbi : DS := (Zl (Zw 4 (Zk Qf (Zc (Za 0) (Zc (Za 1) (Zc (Za 3) Zf))))) (sIf (Yg (dB (Ze Yf (Za 4) (dC .non))) (Yg (dB (Ze neD (Ze ixD (Za 4) (dC (.int 2))) (dC (.str "go")))) (dB (Ze Yf (Zk Wl (Zc (Za 1) (Zc (Ze ixD (Za 4) (dC (.int 3))) Zf))) (dC .non))))) (Y4 (Yv (Za 2) (Zk Wl (Zc (Za 1) (Zc (Ze ixD (Za 4) (dC (.int 3))) Zf))))) Z8))
noncomputable def ZfP:DS:=(Zl (Yj 2 (ZL Zf)) (Zl (Yc (ZI (dF (Zk QX (Zc (dF (YB [] 1 (ZI (Za 0)) (Zp 0) YZ ZcE)) Zf)))) (Zp 3) Zbi) (ZE (Za 2))))
noncomputable def Y3:FD:=ZQ 5 2 (ZfP)
noncomputable abbrev Zag:Stmt:=top 3
theorem Zix : FnScope ["place", "other"] ["place", "other"] (Zi Zag) := ⟨rfl, rfl, rfl, by decide +kernel, rfl, by decide +kernel, by decide +kernel⟩
noncomputable def ZfT:DS:=(ZE (Ze eqD (dSl Zaf (Za 0) Zav (Zal (Zk ZO (Zc (Za 1) Zf)))) (Za 1)))
noncomputable def WV:FD:=ZQ 2 2 (ZfT)
noncomputable abbrev Qe:Stmt:=top 7
theorem Zk0 : FnScope ["links", "place"] ["links", "place"] (Zi Qe) := ⟨rfl, rfl, rfl, by decide +kernel, rfl, by decide +kernel, by decide +kernel⟩
noncomputable def ZbX:DE:=(Ze ixD (Za 0) (dC (.int 1)))
noncomputable def Zde:DT:=(dB (Zk WV (Zc (Za 1) (Zc (Ze ixD (Za 0) (dC (.int 0))) Zf))))
noncomputable def ZdP:DS:=(ZE (dF (Zk QX (Zc (dF (YB [1] 1 (ZI (Za 0)) (Zp 0) Zde ZbX)) Zf))))
noncomputable def Q5:FD:=ZQ 2 2 (ZdP)
noncomputable abbrev QI:Stmt:=top 6
theorem sczlink_at : FnScope ["links", "place", "word", "link"] ["links", "place", "word"] (Zi QI) := ⟨rfl, rfl, rfl, by decide +kernel, rfl, by decide +kernel, by decide +kernel⟩
noncomputable def Qg:DS:=(sIf (Yg (dB (Ze eqD (Ze ixD (Za 3) (dC (.int 1))) (Za 2))) (dB (Zk WV (Zc (Za 1) (Zc (Ze ixD (Za 3) (dC (.int 0))) Zf))))) (ZE (Za 3)) Z8)
noncomputable def ZfX:DS:=(Zl (Yc (ZI (Za 0)) (Zp 3) Qg) (ZE (dC .non)))
noncomputable def QT:FD:=ZQ 4 3 (ZfX)
noncomputable abbrev Qv:Stmt:=top 2
theorem Zk4 : FnScope ["words"] ["words"] (Zi Qv) := ⟨rfl, rfl, rfl, by decide +kernel, rfl, by decide +kernel, by decide +kernel⟩
noncomputable def ZcP:DS:=(ZE (Ze gtD (Zk ZO (Zc (Za 0) Zf)) (dC (.int 6))))
noncomputable def QG:FD:=ZQ 1 1 (ZcP)
noncomputable abbrev QD:Stmt:=top 4
theorem sczled : FnScope ["place", "steps", "words", "step"] ["place", "steps"] (Zi QD) := ⟨rfl, rfl, rfl, by decide +kernel, rfl, by decide +kernel, by decide +kernel⟩
noncomputable def YG : DS := (sIf (dB (Ze eqD (Za 3) (dC (.str "..")))) (Zl (sIf (dB (Ze eqD (Zk ZO (Zc (Za 2) Zf)) (dC (.int 0)))) (ZE (dC .non)) Z8) (Y4 (ZaO (Za 2)))) (sIf (dB (Ze neD (Za 3) (dC (.str ".")))) (Zl (Y4 (Yv (Za 2) (Za 3))) (sIf (dB (Zk QG (Zc (Za 2) Zf))) (ZE (dC .non)) Z8)) Z8))
noncomputable def ZcC:DS:=(Zl (Yj 2 (Zk Zad (Zc (Za 0) Zf))) (Zl (Yc (ZI (Za 1)) (Zp 3) YG) (ZE (Zk YN (Zc (Za 2) Zf)))))
noncomputable def Qj:FD:=ZQ 4 2 (ZcC)
noncomputable abbrev QL:Stmt:=top 8
theorem Zhy : FnScope ["link", "place"] ["link", "place"] (Zi QL) := ⟨rfl, rfl, rfl, by decide +kernel, rfl, by decide +kernel, by decide +kernel⟩
noncomputable def Zb1 : DS := (ZE (dIf (dB (Ze eqD (Ze ixD (Za 0) (dC (.int 2))) (dC (.str "go")))) (dC .non) (Zk Qj (Zc (Za 1) (Zc (Ze ixD (Za 0) (dC (.int 3))) Zf)))))
noncomputable def Ql:FD:=ZQ 2 2 (Zb1)
noncomputable abbrev Zah:Stmt:=top 9
theorem scznext_places : FnScope ["links", "place", "told", "word", "goal"] ["links", "place"] (Zi Zah) := ⟨rfl, rfl, rfl, by decide +kernel, rfl, by decide +kernel, by decide +kernel⟩
noncomputable def Zax:DS:=(Zl (Zw 4 (Zk Ql (Zc (Zk QT (Zc (Za 0) (Zc (Za 1) (Zc (Za 3) Zf)))) (Zc (Za 1) Zf)))) (sIf (dB (Ze Yf (Za 4) (dC .non))) (Y4 (Yv (Za 2) (Z4 (Zc (Za 3) (Zc (Za 4) Zf))))) Z8))
noncomputable def Zdu:DS:=(Zl (Yj 2 (ZL Zf)) (Zl (Yc (ZI (Zk Q5 (Zc (Za 0) (Zc (Za 1) Zf)))) (Zp 3) Zax) (ZE (Za 2))))
noncomputable def Ww:FD:=ZQ 5 2 (Zdu)
noncomputable abbrev QQ:Stmt:=top 10
theorem sczways_from : FnScope ["links", "start", "goal", "ways", "ring", "further", "place", "word", "beyond"] ["links", "start", "goal"] (Zi QQ) := ⟨rfl, rfl, rfl, by decide +kernel, rfl, by decide +kernel, by decide +kernel⟩
noncomputable def ZaB:DS:=(sIf (dB (Ze Ys (Za 8) (Za 3))) (Zl (Zbo (Za 3) (Za 8) (Ze ZG (WB (Za 3) (Za 6)) (Z4 (Zc (Za 7) Zf)))) (Y4 (Yv (Za 5) (Za 8)))) Z8)
noncomputable def Q8:DS:=(Yc (ZI (Zk Ww (Zc (Za 0) (Zc (Za 6) Zf)))) (Q7 [7,8]) ZaB)
noncomputable def Zgw:DS:=(Zl (Zw 3 (QU (Za 1) (Z4 Zf))) (Zl (Zw 4 (dF (ZL (Zc (Za 1) Zf)))) (Zl (YL 130 (Yg (dB (Ze gtD (Zk ZO (Zc (Za 4) Zf)) (dC (.int 0)))) (dB (Ze Ys (Za 2) (Za 3)))) (Zl (Yj 5 (ZL Zf)) (Zl (Yc (ZI (Za 4)) (Zp 6) Q8) (Zw 4 (Za 5))))) (ZE (Za 3)))))
noncomputable def YV:FD:=ZQ 9 3 (Zgw)
noncomputable abbrev QR:Stmt:=top 12
theorem ZhT : FnScope ["links", "start"] ["links", "start"] (Zi QR) := ⟨rfl, rfl, rfl, by decide +kernel, rfl, by decide +kernel, by decide +kernel⟩
noncomputable def ZfV:DS:=(ZE (dF (Zk Wt (Zc (Zk YV (Zc (Za 0) (Zc (Za 1) (Zc (dC .non) Zf)))) Zf))))
noncomputable def Wp:FD:=ZQ 2 2 (ZfV)
noncomputable abbrev W6:Stmt:=top 13
theorem Zlh : FnScope ["links", "place"] ["links", "place"] (Zi W6) := ⟨rfl, rfl, rfl, by decide +kernel, rfl, by decide +kernel, by decide +kernel⟩
noncomputable def ZcQ:DE:=(Ze neD (Za 1) (Za 2))
noncomputable def ZgN:DS:=(ZE (Zk ZbH (Zc (dF (YB [1] 2 (ZI (Zk Ww (Zc (Za 0) (Zc (Za 1) Zf)))) (Q7 [0,1]) YZ ZcQ)) Zf)))
noncomputable def QV:FD:=ZQ 2 2 (ZgN)
noncomputable abbrev WZ:Stmt:=top 14
theorem Zjk : FnScope ["links", "start"] ["links", "start"] (Zi WZ) := ⟨rfl, rfl, rfl, by decide +kernel, rfl, by decide +kernel, by decide +kernel⟩
noncomputable def Zb7:DE:=(Za 0)
noncomputable def Zcx:DT:=(ZaG (dB (Zk QV (Zc (Za 1) (Zc (Za 0) Zf)))))
noncomputable def Zf6:DS:=(ZE (dF (YB [0] 1 (ZI (Zk Wp (Zc (Za 0) (Zc (Za 1) Zf)))) (Zp 0) Zcx Zb7)))
noncomputable def Qr:FD:=ZQ 2 2 (Zf6)
noncomputable abbrev Zaa:Stmt:=top 11
theorem ZjC : FnScope ["links", "start", "goal"] ["links", "start", "goal"] (Zi Zaa) := ⟨rfl, rfl, rfl, by decide +kernel, rfl, by decide +kernel, by decide +kernel⟩
noncomputable def ZgK:DS:=(ZE (ZcF (Zk YV (Zc (Za 0) (Zc (Za 1) (Zc (Za 2) Zf)))) (Za 2)))
noncomputable def WJ:FD:=ZQ 3 3 (ZgK)
noncomputable abbrev Zq:Stmt:=top 24
theorem sczlaw : FnScope ["_law_script", "_law_links_here", "_law_start", "_law_far", "_law_row", "_law_longer", "_law_place_here", "_law_there", "_law_ends", "_law_some", "_law_goals", "_law_goal", "_law_told"] ["_law_script"] (Zi Zq) := ⟨rfl, rfl, rfl, by decide +kernel, rfl, by decide +kernel, by decide +kernel⟩
noncomputable def Zew:Stmt:=(Zv Zq).getD 0 (.Pass ⟨0,0,0,0⟩)
noncomputable def ZeW:Stmt:=(Zv Zq).getD 1 (.Pass ⟨0,0,0,0⟩)
noncomputable def Zfh:Stmt:=(Zv Zq).getD 2 (.Pass ⟨0,0,0,0⟩)
noncomputable def ZdF:Stmt:=(Zv Zq).getD 3 (.Pass ⟨0,0,0,0⟩)
noncomputable def ZeT:Stmt:=(Zv Zq).getD 4 (.Pass ⟨0,0,0,0⟩)
noncomputable def Zeh:Stmt:=(Zv Zq).getD 5 (.Pass ⟨0,0,0,0⟩)
noncomputable def Zd3:Stmt:=(Zv Zq).getD 6 (.Pass ⟨0,0,0,0⟩)
noncomputable def Ze7:Stmt:=(Zv Zq).getD 7 (.Pass ⟨0,0,0,0⟩)
noncomputable def ZgG:Stmt:=(Zv Zq).getD 8 (.Pass ⟨0,0,0,0⟩)
noncomputable def Zfb:Stmt:=(Zv Zq).getD 9 (.Pass ⟨0,0,0,0⟩)
noncomputable def ZdX:Stmt:=(Zv Zq).getD 10 (.Pass ⟨0,0,0,0⟩)
noncomputable def Zfy:Stmt:=(Zv Zq).getD 11 (.Pass ⟨0,0,0,0⟩)
noncomputable def Zf7:Stmt:=(Zv Zq).getD 12 (.Pass ⟨0,0,0,0⟩)
noncomputable def ZcZ:DS:=(Zw 1 (Zk W9 (Zc (Za 0) (Zc (dC (.int 0)) Zf))))
noncomputable def Zbx : DE := (Ze ixD (dC (.str "ab")) (Zk Ya (Zc (Za 1) (Zc (Ze ZG (dC (.int 101)) (Za 0)) (Zc (dC (.int 2)) Zf)))))
noncomputable def ZcK:DS:=(Zw 2 (Zk YN (Zc (dF (YB [0] 1 (Wg (Zc (Zk Ya (Zc (Za 0) (Zc (dC (.int 100)) (Zc (dC (.int 4)) Zf)))) Zf)) (Zp 0) YZ Zbx)) Zf)))
noncomputable def Zcs:DS:=(Zw 3 (QU (Za 2) (dC (.int 0))))
noncomputable def ZcM:DS:=(Zw 4 (dF (ZL (Zc (Za 2) Zf))))
noncomputable def Zaj:DS:=(sIf (dB (Ze Ys (Za 7) (Za 3))) (Zl (Zbo (Za 3) (Za 7) (Ze ZG (WB (Za 3) (Za 6)) (dC (.int 1)))) (Y4 (Yv (Za 5) (Za 7)))) Z8)
noncomputable def Qy:DS:=(Yc (ZI (Zk Y3 (Zc (Za 1) (Zc (Za 6) Zf)))) (Zp 7) Zaj)
noncomputable def Zgo:DS:=(YL 130 (dB (Ze neD (Za 4) (dF (ZL Zf)))) (Zl (Yj 5 (ZL Zf)) (Zl (Yc (ZI (Za 4)) (Zp 6) Qy) (Zw 4 (Za 5)))))
noncomputable def Za5:DS:=(sIf (dB (Ze neD (Zk Wp (Zc (Za 1) (Zc (Za 2) Zf))) (dF (Zk Wt (Zc (Za 3) Zf))))) (ZE (dC (.bl false))) Z8)
noncomputable def Zct:DS:=(Yj 8 (ZL Zf))
noncomputable def ZcS:DE:=(Za 0)
noncomputable def Zcr:DT:=(dB (Ze neD (Za 0) (Za 1)))
noncomputable def ZaI:DS:=(sIf (dB (Ze eqD (dF (YB [6] 1 (ZI (Zk Y3 (Zc (Za 1) (Zc (Za 6) Zf)))) (Zp 0) Zcr ZcS)) (dF (ZL Zf)))) (Y4 (Yv (Za 8) (Za 6))) Z8)
noncomputable def Zcd:DS:=(Yc (ZI (dF (Zk Wt (Zc (Za 3) Zf)))) (Zp 6) ZaI)
noncomputable def ZbM:DS:=(sIf (dB (Ze neD (Zk Qr (Zc (Za 1) (Zc (Za 2) Zf))) (Za 8))) (ZE (dC (.bl false))) Z8)
noncomputable def ZcR:DS:=(Zw 9 (dF (Zk Wt (Zc (Za 3) Zf))))
noncomputable def ZcN : DS := (Zw 10 (dF (ZL (Zc (Za 2) (Zc (Ze ixD (Za 9) (Zap (dC (.int 1)))) (Zc (Ze ixD (Za 9) (Zk Ya (Zc (Za 0) (Zc (dC (.int 110)) (Zc (Zk ZO (Zc (Za 9) Zf)) Zf))))) (Zc (Z4 (Zc (dC (.str "a")) (Zc (dC (.str "b")) Zf))) Zf)))))))
noncomputable def ZbJ : DS := (Zl (Zw 12 (Zk WJ (Zc (Za 1) (Zc (Za 2) (Zc (Za 11) Zf))))) (Zl (sIf (dOr (dB (Ze neD (Ze isD (Za 12) (dC .non)) (Ze Ys (Za 11) (Za 3)))) (Yg (dB (Ze Yf (Za 12) (dC .non))) (ZaG (dB (ZaZ "tuple" (Za 12)))))) (ZE (dC (.bl false))) Z8) (sIf (Yg (dB (Ze Yf (Za 12) (dC .non))) (dB (Ze neD (Zk ZO (Zc (Za 12) Zf)) (WB (Za 3) (Za 11))))) (ZE (dC (.bl false))) Z8)))
noncomputable def Zcv:DS:=(Yc (ZI (Za 10)) (Zp 11) ZbJ)
noncomputable def ZfB:DS:=(ZE (dC (.bl true)))
noncomputable def ZbW:DS:=(Zl ZcZ (Zl ZcK (Zl Zcs (Zl ZcM (Zl Zgo (Zl Za5 (Zl Zct (Zl Zcd (Zl ZbM (Zl ZcR (Zl ZcN (Zl Zcv ZfB))))))))))))
noncomputable def Q0:FD:=ZQ 13 1 (ZbW)
section
set_option maxHeartbeats 4000000
variable {P:Program} {w:World} {K:PySem.W.Frag} {mg:Str→Option Value} {base:Heap} {cv:Nat→Addr}
theorem ZhF {f : Addr} {fd : FuncData} (F : Fun K "_law_cell" "_law_cell" QB f fd) (hm : mg "_law_cell" = some (.ref f)) (hb : Binds K fd ["_law_script", "_law_k"] []) (b_len : mg "len" = none) : FnAt P w K mg base "_law_cell" 1 Q3 :=
 fnAt (k:=0) F Zhx hm hb fun cdv A outer s H E hr=>(Zr (Yd (ZD (Yq hr.units) (Zb 0) (ZP (Yi Zh))) (Zm (ZN (Zx Qk Zn (Zb 1)))) Ym) (Zm (ZN (Zx Yk (ZV (Zb 0) (Zx QF (Zb 1) (YJ YK rfl b_len PySem.boot_len (Zd (Zb 0) Zh)))) (Zx Qk Zn (Zx ZaX (Zb 1) (YJ YK rfl b_len PySem.boot_len (Zd (Zb 0) Zh))))))))
theorem ZjF {f : Addr} {fd : FuncData} (F : Fun K "_law_drawn" "_law_drawn" QS f fd) (hm : mg "_law_drawn" = some (.ref f)) (hb : Binds K fd ["_law_script", "_law_k", "_law_many"] []) (hz_law_cell : FnAt P w K mg base "_law_cell" 1 Q3) : FnAt P w K mg base "_law_drawn" 2 Ya :=
 fnAt (k:=1) F scz_law_drawn hm hb fun cdv A outer s H E hr=>(Zr (ZW 3 scz_law_drawn.nd rfl (by first | exact Or.inl rfl | exact Or.inr rfl) (Zx QF (Zx Yk (Zx Qk (Zx QF (ZA hz_law_cell hr (by decide) rfl (Zd (Zb 0) (Zd (Zb 1) Zh))) Zn) Zn) (Zx Qk Zn (Zx Yk (Zb 1) Zn))) Zn)) (Zr (ZW 3 scz_law_drawn.nd rfl (by first | exact Or.inl rfl | exact Or.inr rfl) (Zx QF (Zx Yk (Zx Qk (Zb 3) (Zb 3)) (Zx ZaX (Zb 3) Zn)) Zn)) (Zm (ZN (Zx QF (Zx ZaX (Zx QF (Zx Yk (Zx Qk (Zb 3) (Zb 3)) (Zx ZaX (Zb 3) Zn)) Zn) Zn) (Zb 2))))))
theorem Znd {f : Addr} {fd : FuncData} (F : Fun K "_law_few" "_law_few" Qo f fd) (hm : mg "_law_few" = some (.ref f)) (hb : Binds K fd ["_law_script", "_law_at"] []) (b_int : mg "int" = none) (b_len : mg "len" = none) (b_range : mg "range" = none) (b_tuple : mg "tuple" = none) (hz_law_drawn : FnAt P w K mg base "_law_drawn" 2 Ya) : FnAt P w K mg base "_law_few" 3 W9 :=
 fnAt (k := 2) F scz_law_few hm hb fun cdv A outer s H E hr => (Zr (ZW 2 scz_law_few.nd rfl (by first | exact Or.inl rfl | exact Or.inr rfl) (Yu Zh)) (Zr (YM PassesOwn.never rfl (ZbY rfl b_range (Zd (ZA hz_law_drawn hr (by decide) rfl (Zd (Zb 0) (Zd (Zb 1) (Zd Zn Zh)))) Zh)) (Z9 3 scz_law_few.nd rfl (by first | exact Or.inl rfl | exact Or.inr rfl)) (Zr (ZW 4 scz_law_few.nd rfl (by first | exact Or.inl rfl | exact Or.inr rfl) (Zx Yk (Zx Yk (Zb 1) Zn) (Zx Qk Zn (Zb 3)))) (Zr (ZW 5 scz_law_few.nd rfl (by first | exact Or.inl rfl | exact Or.inr rfl) (ZV (ZP (Yi (Zd ZF (Zd ZF (Zd ZF (Zd ZF Zh)))))) (ZA hz_law_drawn hr (by decide) rfl (Zd (Zb 0) (Zd (Zb 4) (Zd Zn Zh)))))) (Zr (ZW 6 scz_law_few.nd rfl (by first | exact Or.inl rfl | exact Or.inr rfl) (QC Zbz rfl b_tuple PyProof.Rows.boot_tuple (Zd (ZP (W5 rfl ⟨Blk.of (N := ["_law_j", "_law_script", "_law_here"]) (caps := [0, 4]) (nT := 1) (by show Y1 (Zi Qo) _ ["_law_script", "_law_at", "_law_found", "_law_k", "_law_here", "_law_word", "_law_whence", "_law_down", "_law_steps", "_law_kind"] _ _ _ = true; decide +kernel), fun _ _ _ _ => (Z9 0 (by show (["_law_j", "_law_script", "_law_here"] : List Str).Nodup; decide +kernel) rfl (by first | exact Or.inl rfl | exact Or.inr rfl)), fun _ _ _ _ => Zba, fun _ _ _ _ => (ZV ZF (ZA hz_law_drawn hr (by decide) rfl (Zd (Zb 1) (Zd (Zx Yk (Zx Yk (Zb 2) Zn) (Zb 0)) (Zd Zn Zh)))))⟩ (ZbY rfl b_range (Zd (ZA hz_law_drawn hr (by decide) rfl (Zd (Zb 0) (Zd (Zx Yk (Zb 4) Zn) (Zd Zn Zh)))) Zh)))) Zh))) (Zr (ZW 7 scz_law_few.nd rfl (by first | exact Or.inl rfl | exact Or.inr rfl) (Yu (Zd (ZV ZF (QC Zf4 rfl b_int PyProof.Rows.boot_int (Zd (Qc (Yq hr.units) (YJ YK rfl b_len PySem.boot_len (Zd (Zb 6) Zh)) Zn) Zh))) Zh))) (Zr (ZW 8 scz_law_few.nd rfl (by first | exact Or.inl rfl | exact Or.inr rfl) (ZV (ZP (Yi (Zd (Yu (Zd ZF Zh)) (Zd (Zb 7) (Zd (Yu (Zd ZF Zh)) (Zd (Yu (Zd ZF (Zd ZF Zh))) (Zd (Yu (Zd ZF Zh)) (Zd (Yu (Zd ZF (Zd ZF Zh))) Zh)))))))) (ZA hz_law_drawn hr (by decide) rfl (Zd (Zb 0) (Zd (Zx Yk (Zb 4) Zn) (Zd Zn Zh)))))) (Zr (ZW 9 scz_law_few.nd rfl (by first | exact Or.inl rfl | exact Or.inr rfl) (ZV (ZP (Yi (Zd ZF (Zd ZF (Zd ZF (Zd ZF Zh)))))) (ZA hz_law_drawn hr (by decide) rfl (Zd (Zb 0) (Zd (Zx Yk (Zb 4) Zn) (Zd Zn Zh)))))) (Zm (ZW 2 scz_law_few.nd rfl (by first | exact Or.inl rfl | exact Or.inr rfl) (Zx Yk (Zb 2) (Yu (Zd (Yu (Zd (Zb 6) (Zd (Zb 5) (Zd (Zb 9) (Zd (ZV (ZP (Yi (Zd (Zb 8) (Zd (ZcB Zn) Zh)))) (QC Zf4 rfl b_int PyProof.Rows.boot_int (Zd (Qc (Yq hr.units) (Zb 9) ZF) Zh))) Zh))))) Zh)))))))))))) (Zm (ZN (Zb 2)))))
theorem ZhO {f : Addr} {fd : FuncData} (F : Fun K "_law_link" "_law_link" W8 f fd) (hm : mg "_law_link" = some (.ref f)) (hb : Binds K fd ["_law_links_here", "_law_place_here", "_law_word"] []) (b_len : mg "len" = none) : FnAt P w K mg base "_law_link" 1 Qf :=
 fnAt (k := 0) F scz_law_link hm hb fun cdv A outer s H E hr => (Zr (Zhz 3 rfl ⟨Blk.of (N := ["_law_link_here", "_law_word", "_law_place_here"]) (caps := [2, 1]) (nT := 1) (by show Y1 (Zi W8) _ ["_law_links_here", "_law_place_here", "_law_word", "_law_some"] _ _ _ = true; decide +kernel), fun _ _ _ _ => (Z9 0 (by show (["_law_link_here", "_law_word", "_law_place_here"] : List Str).Nodup; decide +kernel) rfl (by first | exact Or.inl rfl | exact Or.inr rfl)), fun _ _ _ _ => Zbw (PDW.pt (Wj (ZD (Yq hr.units) (ZV (Zb 0) Zn) (Zb 1)) (WU (ZD (Yq hr.units) (Zej ZfA (Zb 2) ZcY (ZcW (YJ YK rfl b_len PySem.boot_len (Zd (ZV (Zb 0) Zn) Zh)))) (ZV (Zb 0) Zn))))), fun _ _ _ _ => (Zb 0)⟩ (Yh (Zb 0)) scz_law_link.nd rfl (by first | exact Or.inl rfl | exact Or.inr rfl)) (Zm (ZN (ZV (ZP (ZjV ZgP (Zb 3) (ZP (Yi (Zd YI Zh))))) Zn))))
theorem ZhC {f : Addr} {fd : FuncData} (F : Fun K "_law_led" "_law_led" QH f fd) (hm : mg "_law_led" = some (.ref f)) (hb : Binds K fd ["_law_place_here", "_law_steps"] []) (b_len : mg "len" = none) (b_list : mg "list" = none) (b_tuple : mg "tuple" = none) : FnAt P w K mg base "_law_led" 1 Wl :=
 fnAt (k:=0) F scz_law_led hm hb fun cdv A outer s H E hr=>(Zr (WO 2 scz_law_led.nd rfl (by first | exact Or.inl rfl | exact Or.inr rfl) (Zd8 Zgb rfl b_list PyProof.Rows.boot_list (Zd (Zb 0) Zh))) (Zr (YM PassesOwn.never rfl (Yh (Zb 1)) (Z9 3 scz_law_led.nd rfl (by first | exact Or.inl rfl | exact Or.inr rfl)) (Zr (Yd (PDW.pt (ZgF (PDW.pt (Wj (ZD (Yq hr.units) (Zb 3) ZF) (WU (ZD (Yq hr.units) (Zb 2) (ZP (Yi Zh)))))) (ZeP (PDW.pt (Wj (ZD (ZgQ hr.units) (Zb 3) (Yu (Zd ZF (Zd ZF Zh)))) (WU (ZD (Yq hr.units) (YJ YK rfl b_len PySem.boot_len (Zd (Zb 2) Zh)) Zn))))))) (Zm (ZN YI)) Ym) (Zm (Yd (ZD (Yq hr.units) (Zb 3) ZF) (Zm (WO 2 scz_law_led.nd rfl (by first | exact Or.inl rfl | exact Or.inr rfl) (Zg6 Zl6 (Zb 2) ZcY (ZcW (ZcB Zn))))) (Zm (Yd (ZD (Y2 hr.units) (Zb 3) ZF) (Zm (WW (Qs (Zb 2) (Zb 3)))) Ym)))))) (Zm (ZN (QC Zbz rfl b_tuple PyProof.Rows.boot_tuple (Zd (Zb 2) Zh))))))
theorem Zmo {f : Addr} {fd : FuncData} (F : Fun K "_law_next" "_law_next" Qq f fd) (hm : mg "_law_next" = some (.ref f)) (hb : Binds K fd ["_law_links_here", "_law_place_here"] []) (b_set : mg "set" = none) (b_sorted : mg "sorted" = none) (hz_law_led : FnAt P w K mg base "_law_led" 1 Wl) (hz_law_link : FnAt P w K mg base "_law_link" 1 Qf) : FnAt P w K mg base "_law_next" 2 Y3 :=
 fnAt (k := 1) F scz_law_next hm hb fun cdv A outer s H E hr => (Zr (WO 2 scz_law_next.nd rfl (by first | exact Or.inl rfl | exact Or.inr rfl) (Yi Zh)) (Zr (YM PassesOwn.never rfl (Yh (ZP (Zec rfl rfl b_sorted PyProof.Rows.boot_sorted rfl b_set PyProof.Rows.boot_set (Zd (ZP (W5 rfl ⟨Blk.of (N := ["_law_link_here"]) (caps := []) (nT := 1) (by show Y1 (Zi Qq) _ ["_law_links_here", "_law_place_here", "_law_found", "_law_word", "_law_link_here"] _ _ _ = true; decide +kernel), fun _ _ _ _ => (Z9 0 (by show (["_law_link_here"] : List Str).Nodup; decide +kernel) rfl (by first | exact Or.inl rfl | exact Or.inr rfl)), fun _ _ _ _ => Zba, fun _ _ _ _ => (ZV (Zb 0) Zn)⟩ (Yh (Zb 0)))) Zh)))) (Z9 3 scz_law_next.nd rfl (by first | exact Or.inl rfl | exact Or.inr rfl)) (Zr (ZW 4 scz_law_next.nd rfl (by first | exact Or.inl rfl | exact Or.inr rfl) (ZA hz_law_link hr (by decide) rfl (Zd (Zb 0) (Zd (Zb 1) (Zd (Zb 3) Zh))))) (Zm (Yd (PDW.pt (Wj (ZD Zau (Zb 4) YI) (Wj (ZD (Y2 hr.units) (ZV (Zb 4) Zn) ZF) (WU (ZD Zau (ZA hz_law_led hr (by decide) rfl (Zd (Zb 1) (Zd (ZV (Zb 4) Zn) Zh))) YI))))) (Zm (WW (Qs (Zb 2) (ZA hz_law_led hr (by decide) rfl (Zd (Zb 1) (Zd (ZV (Zb 4) Zn) Zh)))))) Ym)))) (Zm (ZN (Zb 2)))))
theorem Zmp {f : Addr} {fd : FuncData} (F : Fun K "is_under" "is_under" Zag f fd) (hm : mg "is_under" = some (.ref f)) (hb : Binds K fd ["place", "other"] []) (b_len : mg "len" = none) : FnAt P w K mg base "is_under" 1 WV :=
 fnAt (k:=0) F Zix hm hb fun cdv A outer s H E hr=>(Zm (ZN (Qc (Yq hr.units) (Zej ZfA (Zb 0) ZcY (ZcW (YJ YK rfl b_len PySem.boot_len (Zd (Zb 1) Zh)))) (Zb 1))))
theorem Zja {f : Addr} {fd : FuncData} (F : Fun K "words_at" "words_at" Qe f fd) (hm : mg "words_at" = some (.ref f)) (hb : Binds K fd ["links", "place"] []) (b_set : mg "set" = none) (b_sorted : mg "sorted" = none) (hzis_under : FnAt P w K mg base "is_under" 1 WV) : FnAt P w K mg base "words_at" 2 Q5 :=
 fnAt (k := 1) F Zk0 hm hb fun cdv A outer s H E hr => (Zm (ZN (ZP (Zec rfl rfl b_sorted PyProof.Rows.boot_sorted rfl b_set PyProof.Rows.boot_set (Zd (ZP (W5 rfl ⟨Blk.of (N := ["link", "place"]) (caps := [1]) (nT := 1) (by show Y1 (Zi Qe) _ ["links", "place"] _ _ _ = true; decide +kernel), fun _ _ _ _ => (Z9 0 (by show (["link", "place"] : List Str).Nodup; decide +kernel) rfl (by first | exact Or.inl rfl | exact Or.inr rfl)), fun _ _ _ _ => Zbw (Zaw (ZA hzis_under hr (by decide) rfl (Zd (Zb 1) (Zd (ZV (Zb 0) Zn) Zh)))), fun _ _ _ _ => (ZV (Zb 0) Zn)⟩ (Yh (Zb 0)))) Zh)))))
theorem ZhG {f : Addr} {fd : FuncData} (F : Fun K "link_at" "link_at" QI f fd) (hm : mg "link_at" = some (.ref f)) (hb : Binds K fd ["links", "place", "word"] []) (hzis_under : FnAt P w K mg base "is_under" 1 WV) : FnAt P w K mg base "link_at" 2 QT :=
 fnAt (k:=1) F sczlink_at hm hb fun cdv A outer s H E hr=>(Zr (YM PassesOwn.never rfl (Yh (Zb 0)) (Z9 3 sczlink_at.nd rfl (by first | exact Or.inl rfl | exact Or.inr rfl)) (Zm (Yd (PDW.pt (Wj (ZD (Yq hr.units) (ZV (Zb 3) Zn) (Zb 2)) (WU (Zaw (ZA hzis_under hr (by decide) rfl (Zd (Zb 1) (Zd (ZV (Zb 3) Zn) Zh))))))) (Zm (ZN (Zb 3))) Ym))) (Zm (ZN YI)))
theorem Zkj {f : Addr} {fd : FuncData} (F : Fun K "is_too_long" "is_too_long" Qv f fd) (hm : mg "is_too_long" = some (.ref f)) (hb : Binds K fd ["words"] []) (b_len : mg "len" = none) {t_MOST_WORDS : Tok} (c_MOST_WORDS : mg "MOST_WORDS" = some (Value.int 6 t_MOST_WORDS)) : FnAt P w K mg base "is_too_long" 1 QG :=
 fnAt (k:=0) F Zk4 hm hb fun cdv A outer s H E hr=>(Zm (ZN (Qc Ze2 (YJ YK rfl b_len PySem.boot_len (Zd (Zb 0) Zh)) (Zk8 (v:=.int 6) rfl c_MOST_WORDS ⟨_,rfl⟩ (fun _ _=>Rep.int_i.mpr rfl)))))
theorem Zh8 {f : Addr} {fd : FuncData} (F : Fun K "led" "led" QD f fd) (hm : mg "led" = some (.ref f)) (hb : Binds K fd ["place", "steps"] []) (b_len : mg "len" = none) (b_list : mg "list" = none) (b_tuple : mg "tuple" = none) (hzis_too_long : FnAt P w K mg base "is_too_long" 1 QG) : FnAt P w K mg base "led" 2 Qj :=
 fnAt (k:=1) F sczled hm hb fun cdv A outer s H E hr=>(Zr (WO 2 sczled.nd rfl (by first | exact Or.inl rfl | exact Or.inr rfl) (Zd8 Zgb rfl b_list PyProof.Rows.boot_list (Zd (Zb 0) Zh))) (Zr (YM PassesOwn.never rfl (Yh (Zb 1)) (Z9 3 sczled.nd rfl (by first | exact Or.inl rfl | exact Or.inr rfl)) (Zm (Yd (ZD (Yq hr.units) (Zb 3) ZF) (Zr (Yd (ZD (Yq hr.units) (YJ YK rfl b_len PySem.boot_len (Zd (Zb 2) Zh)) Zn) (Zm (ZN YI)) Ym) (Zm (WW (Zk9 (Zb 2))))) (Zm (Yd (ZD (Y2 hr.units) (Zb 3) ZF) (Zr (WW (Qs (Zb 2) (Zb 3))) (Zm (Yd (Zaw (ZA hzis_too_long hr (by decide) rfl (Zd (Zb 2) Zh))) (Zm (ZN YI)) Ym))) Ym))))) (Zm (ZN (QC Zbz rfl b_tuple PyProof.Rows.boot_tuple (Zd (Zb 2) Zh))))))
theorem Zif {f : Addr} {fd : FuncData} (F : Fun K "goal_of" "goal_of" QL f fd) (hm : mg "goal_of" = some (.ref f)) (hb : Binds K fd ["link", "place"] []) (hzled : FnAt P w K mg base "led" 2 Qj) : FnAt P w K mg base "goal_of" 3 Ql :=
 fnAt (k:=2) F Zhy hm hb fun cdv A outer s H E hr=>(Zm (ZN (ZiL (ZD (Yq hr.units) (ZV (Zb 0) Zn) ZF) YI (ZA hzled hr (by decide) rfl (Zd (Zb 1) (Zd (ZV (Zb 0) Zn) Zh))))))
theorem ZlN {f : Addr} {fd : FuncData} (F : Fun K "next_places" "next_places" Zah f fd) (hm : mg "next_places" = some (.ref f)) (hb : Binds K fd ["links", "place"] []) (hzgoal_of : FnAt P w K mg base "goal_of" 3 Ql) (hzlink_at : FnAt P w K mg base "link_at" 2 QT) (hzwords_at : FnAt P w K mg base "words_at" 2 Q5) : FnAt P w K mg base "next_places" 4 Ww :=
 fnAt (k:=3) F scznext_places hm hb fun cdv A outer s H E hr=>(Zr (WO 2 scznext_places.nd rfl (by first | exact Or.inl rfl | exact Or.inr rfl) (Yi Zh)) (Zr (YM PassesOwn.never rfl (Yh (ZA hzwords_at hr (by decide) rfl (Zd (Zb 0) (Zd (Zb 1) Zh)))) (Z9 3 scznext_places.nd rfl (by first | exact Or.inl rfl | exact Or.inr rfl)) (Zr (ZW 4 scznext_places.nd rfl (by first | exact Or.inl rfl | exact Or.inr rfl) (ZA hzgoal_of hr (by decide) rfl (Zd (ZA hzlink_at hr (by decide) rfl (Zd (Zb 0) (Zd (Zb 1) (Zd (Zb 3) Zh)))) (Zd (Zb 1) Zh)))) (Zm (Yd (ZD Zau (Zb 4) YI) (Zm (WW (Qs (Zb 2) (Yu (Zd (Zb 3) (Zd (Zb 4) Zh)))))) Ym)))) (Zm (ZN (Zb 2)))))
theorem Zhu {f : Addr} {fd : FuncData} (F : Fun K "ways_from" "ways_from" QQ f fd) (hm : mg "ways_from" = some (.ref f)) (hb : Binds K fd ["links", "start", "goal"] []) (b_len : mg "len" = none) (hznext_places : FnAt P w K mg base "next_places" 4 Ww) : FnAt P w K mg base "ways_from" 5 YV :=
 fnAt (k:=4) F sczways_from hm hb fun cdv A outer s H E hr=>(Zr (ZW 3 sczways_from.nd rfl (by first | exact Or.inl rfl | exact Or.inr rfl) (ZeX hr.units (Zb 1) (Yu Zh))) (Zr (ZW 4 sczways_from.nd rfl (by first | exact Or.inl rfl | exact Or.inr rfl) (ZP (Yi (Zd (Zb 1) Zh)))) (Zr (ZfJ 130 PassesOwn.never (PDW.pt (Wj (ZD Ze2 (YJ YK rfl b_len PySem.boot_len (Zd (Zb 4) Zh)) Zn) (WU (ZD (Zbq hr.units) (Zb 2) (Zb 3))))) (Zr (WO 5 sczways_from.nd rfl (by first | exact Or.inl rfl | exact Or.inr rfl) (Yi Zh)) (Zr (YM PassesOwn.never rfl (Yh (Zb 4)) (Z9 6 sczways_from.nd rfl (by first | exact Or.inl rfl | exact Or.inr rfl)) (Zm (YM PassesOwn.never rfl (Yh (ZA hznext_places hr (by decide) rfl (Zd (Zb 0) (Zd (Zb 6) Zh)))) (ZgO rfl (Zbc 7 sczways_from.nd rfl (by first | exact Or.inl rfl | exact Or.inr rfl) (Zbc 8 sczways_from.nd rfl (by first | exact Or.inl rfl | exact Or.inr rfl) Zdz))) (Zm (Yd (ZD (Zbq hr.units) (Zb 8) (Zb 3)) (Zr (Zet hr.units (Zb 3) (Zb 8) (Zx Yk (ZcI hr.units (Zb 3) (Zb 6)) (Yu (Zd (Zb 7) Zh)))) (Zm (WW (Qs (Zb 5) (Zb 8))))) Ym))))) (Zm (ZW 4 sczways_from.nd rfl (by first | exact Or.inl rfl | exact Or.inr rfl) (Zb 5)))))) (Zm (ZN (Zb 3))))))
theorem Zl2 {f : Addr} {fd : FuncData} (F : Fun K "reached" "reached" QR f fd) (hm : mg "reached" = some (.ref f)) (hb : Binds K fd ["links", "start"] []) (b_sorted : mg "sorted" = none) (hzways_from : FnAt P w K mg base "ways_from" 5 YV) : FnAt P w K mg base "reached" 6 Wp :=
 fnAt (k:=5) F ZhT hm hb fun cdv A outer s H E hr=>(Zm (ZN (ZP (ZbD (ZbB rfl (Za7 hr.units)) rfl b_sorted PyProof.Rows.boot_sorted (Zd (ZA hzways_from hr (by decide) rfl (Zd (Zb 0) (Zd (Zb 1) (Zd YI Zh)))) Zh)))))
theorem Zjl {f : Addr} {fd : FuncData} (F : Fun K "leads_on" "leads_on" W6 f fd) (hm : mg "leads_on" = some (.ref f)) (hb : Binds K fd ["links", "place"] []) (b_any : mg "any" = none) (hznext_places : FnAt P w K mg base "next_places" 4 Ww) : FnAt P w K mg base "leads_on" 5 QV :=
 fnAt (k := 4) F Zlh hm hb fun cdv A outer s H E hr => (Zm (ZN (YJ (ZhN rfl) rfl b_any PyProof.Rows.boot_any (Zd (ZP (W5 rfl ⟨Blk.of (N := ["word", "goal", "place"]) (caps := [1]) (nT := 2) (by show Y1 (Zi W6) _ ["links", "place"] _ _ _ = true; decide +kernel), fun _ _ _ _ => (ZgO rfl (Zbc 0 (by show (["word", "goal", "place"] : List Str).Nodup; decide +kernel) rfl (by first | exact Or.inl rfl | exact Or.inr rfl) (Zbc 1 (by show (["word", "goal", "place"] : List Str).Nodup; decide +kernel) rfl (by first | exact Or.inl rfl | exact Or.inr rfl) Zdz))), fun _ _ _ _ => Zba, fun _ _ _ _ => (Qc (Y2 hr.units) (Zb 1) (Zb 2))⟩ (Yh (ZA hznext_places hr (by decide) rfl (Zd (Zb 0) (Zd (Zb 1) Zh)))))) Zh))))
theorem ZlD {f : Addr} {fd : FuncData} (F : Fun K "dead_ends" "dead_ends" WZ f fd) (hm : mg "dead_ends" = some (.ref f)) (hb : Binds K fd ["links", "start"] []) (hzleads_on : FnAt P w K mg base "leads_on" 5 QV) (hzreached : FnAt P w K mg base "reached" 6 Wp) : FnAt P w K mg base "dead_ends" 7 Qr :=
 fnAt (k := 6) F Zjk hm hb fun cdv A outer s H E hr => (Zm (ZN (ZP (W5 rfl ⟨Blk.of (N := ["place", "links"]) (caps := [0]) (nT := 1) (by show Y1 (Zi WZ) _ ["links", "start"] _ _ _ = true; decide +kernel), fun _ _ _ _ => (Z9 0 (by show (["place", "links"] : List Str).Nodup; decide +kernel) rfl (by first | exact Or.inl rfl | exact Or.inr rfl)), fun _ _ _ _ => Zbw (Zey (Zaw (ZA hzleads_on hr (by decide) rfl (Zd (Zb 1) (Zd (Zb 0) Zh))))), fun _ _ _ _ => (Zb 0)⟩ (Yh (ZA hzreached hr (by decide) rfl (Zd (Zb 0) (Zd (Zb 1) Zh))))))))
theorem Zjw {f : Addr} {fd : FuncData} (F : Fun K "shortest" "shortest" Zaa f fd) (hm : mg "shortest" = some (.ref f)) (hb : Binds K fd ["links", "start", "goal"] []) (hzways_from : FnAt P w K mg base "ways_from" 5 YV) : FnAt P w K mg base "shortest" 6 WJ :=
 fnAt (k:=5) F ZjC hm hb fun cdv A outer s H E hr=>(Zm (ZN (ZmP hr.units (ZA hzways_from hr (by decide) rfl (Zd (Zb 0) (Zd (Zb 1) (Zd (Zb 2) Zh)))) (Zb 2))))
noncomputable abbrev Nzlaw : List Str := ["_law_script", "_law_links_here", "_law_start", "_law_far", "_law_row", "_law_longer", "_law_place_here", "_law_there", "_law_ends", "_law_some", "_law_goals", "_law_goal", "_law_told"]
theorem Zj6 (hz_law_few : FnAt P w K mg base "_law_few" 3 W9) (fA : Addr) (cdv : Value) (A : Around) (outer : List Env) (s : Shared) (H : Hp) (E : XK) (hr : Room 7 (A.deeper (PyProof.Rows.envOfC "law" (Zi Zq) s.heap.objs.size fA cdv))) : PDs (Z1 CX0 P w K mg base Nzlaw "law" (Zi Zq) fA cdv A outer s H E).nox EX0 Zew ZcZ := (ZW 1 sczlaw.nd rfl (by first | exact Or.inl rfl | exact Or.inr rfl) (ZA hz_law_few hr (by decide) rfl (Zd (Zb 0) (Zd Zn Zh))))
theorem ZjW (b_range : mg "range" = none) (b_tuple : mg "tuple" = none) (hz_law_drawn : FnAt P w K mg base "_law_drawn" 2 Ya) (fA : Addr) (cdv : Value) (A : Around) (outer : List Env) (s : Shared) (H : Hp) (E : XK) (hr : Room 7 (A.deeper (PyProof.Rows.envOfC "law" (Zi Zq) s.heap.objs.size fA cdv))) : PDs (Z1 CX0 P w K mg base Nzlaw "law" (Zi Zq) fA cdv A outer s H E).nox EX0 ZeW ZcK := (ZW 2 sczlaw.nd rfl (by first | exact Or.inl rfl | exact Or.inr rfl) (QC Zbz rfl b_tuple PyProof.Rows.boot_tuple (Zd (ZP (W5 rfl ⟨Blk.of (N := ["_law_k", "_law_script"]) (caps := [0]) (nT := 1) (by show Y1 (Zi Zq) _ Nzlaw _ _ _ = true; decide +kernel), fun _ _ _ _ => (Z9 0 (by show (["_law_k", "_law_script"] : List Str).Nodup; decide +kernel) rfl (by first | exact Or.inl rfl | exact Or.inr rfl)), fun _ _ _ _ => Zba, fun _ _ _ _ => (ZV ZF (ZA hz_law_drawn hr (by decide) rfl (Zd (Zb 1) (Zd (Zx Yk Zn (Zb 0)) (Zd Zn Zh)))))⟩ (ZbY rfl b_range (Zd (ZA hz_law_drawn hr (by decide) rfl (Zd (Zb 0) (Zd Zn (Zd Zn Zh)))) Zh)))) Zh)))
theorem Zi3  (fA : Addr) (cdv : Value) (A : Around) (outer : List Env) (s : Shared) (H : Hp) (E : XK) (hr : Room 7 (A.deeper (PyProof.Rows.envOfC "law" (Zi Zq) s.heap.objs.size fA cdv))) : PDs (Z1 CX0 P w K mg base Nzlaw "law" (Zi Zq) fA cdv A outer s H E).nox EX0 Zfh Zcs := (ZW 3 sczlaw.nd rfl (by first | exact Or.inl rfl | exact Or.inr rfl) (ZeX hr.units (Zb 2) Zn))
theorem Zjm  (fA : Addr) (cdv : Value) (A : Around) (outer : List Env) (s : Shared) (H : Hp) (E : XK) (hr : Room 7 (A.deeper (PyProof.Rows.envOfC "law" (Zi Zq) s.heap.objs.size fA cdv))) : PDs (Z1 CX0 P w K mg base Nzlaw "law" (Zi Zq) fA cdv A outer s H E).nox EX0 ZdF ZcM := (ZW 4 sczlaw.nd rfl (by first | exact Or.inl rfl | exact Or.inr rfl) (ZP (Yi (Zd (Zb 2) Zh))))
theorem Zm9 (hz_law_next : FnAt P w K mg base "_law_next" 2 Y3) (fA : Addr) (cdv : Value) (A : Around) (outer : List Env) (s : Shared) (H : Hp) (E : XK) (hr : Room 7 (A.deeper (PyProof.Rows.envOfC "law" (Zi Zq) s.heap.objs.size fA cdv))) : PDs (Z1 CX0 P w K mg base Nzlaw "law" (Zi Zq) fA cdv A outer s H E).nox EX0 ZeT Zgo := (ZfJ 130 PassesOwn.never (ZD (Y2 hr.units) (Zb 4) (ZP (Yi Zh))) (Zr (WO 5 sczlaw.nd rfl (by first | exact Or.inl rfl | exact Or.inr rfl) (Yi Zh)) (Zr (YM PassesOwn.never rfl (Yh (Zb 4)) (Z9 6 sczlaw.nd rfl (by first | exact Or.inl rfl | exact Or.inr rfl)) (Zm (YM PassesOwn.never rfl (Yh (ZA hz_law_next hr (by decide) rfl (Zd (Zb 1) (Zd (Zb 6) Zh)))) (Z9 7 sczlaw.nd rfl (by first | exact Or.inl rfl | exact Or.inr rfl)) (Zm (Yd (ZD (Zbq hr.units) (Zb 7) (Zb 3)) (Zr (Zet hr.units (Zb 3) (Zb 7) (Zx Yk (ZcI hr.units (Zb 3) (Zb 6)) Zn)) (Zm (WW (Qs (Zb 5) (Zb 7))))) Ym))))) (Zm (ZW 4 sczlaw.nd rfl (by first | exact Or.inl rfl | exact Or.inr rfl) (Zb 5))))))
theorem Zjs (b_sorted : mg "sorted" = none) (hzreached : FnAt P w K mg base "reached" 6 Wp) (fA : Addr) (cdv : Value) (A : Around) (outer : List Env) (s : Shared) (H : Hp) (E : XK) (hr : Room 7 (A.deeper (PyProof.Rows.envOfC "law" (Zi Zq) s.heap.objs.size fA cdv))) : PDs (Z1 CX0 P w K mg base Nzlaw "law" (Zi Zq) fA cdv A outer s H E).nox EX0 Zeh Za5 := (Yd (ZD (Y2 hr.units) (ZA hzreached hr (by decide) rfl (Zd (Zb 1) (Zd (Zb 2) Zh))) (ZP (ZbD (ZbB rfl (Za7 hr.units)) rfl b_sorted PyProof.Rows.boot_sorted (Zd (Zb 3) Zh)))) (Zm (ZN Zak)) Ym)
theorem ZjG  (fA : Addr) (cdv : Value) (A : Around) (outer : List Env) (s : Shared) (H : Hp) (E : XK) (hr : Room 7 (A.deeper (PyProof.Rows.envOfC "law" (Zi Zq) s.heap.objs.size fA cdv))) : PDs (Z1 CX0 P w K mg base Nzlaw "law" (Zi Zq) fA cdv A outer s H E).nox EX0 Zd3 Zct := (WO 8 sczlaw.nd rfl (by first | exact Or.inl rfl | exact Or.inr rfl) (Yi Zh))
theorem ZmL (b_sorted : mg "sorted" = none) (hz_law_next : FnAt P w K mg base "_law_next" 2 Y3) (fA : Addr) (cdv : Value) (A : Around) (outer : List Env) (s : Shared) (H : Hp) (E : XK) (hr : Room 7 (A.deeper (PyProof.Rows.envOfC "law" (Zi Zq) s.heap.objs.size fA cdv))) : PDs (Z1 CX0 P w K mg base Nzlaw "law" (Zi Zq) fA cdv A outer s H E).nox EX0 Ze7 Zcd := (YM PassesOwn.never rfl (Yh (ZP (ZbD (ZbB rfl (Za7 hr.units)) rfl b_sorted PyProof.Rows.boot_sorted (Zd (Zb 3) Zh)))) (Z9 6 sczlaw.nd rfl (by first | exact Or.inl rfl | exact Or.inr rfl)) (Zm (Yd (ZD (Yq hr.units) (ZP (W5 rfl ⟨Blk.of (N := ["_law_there", "_law_place_here"]) (caps := [6]) (nT := 1) (by show Y1 (Zi Zq) _ Nzlaw _ _ _ = true; decide +kernel), fun _ _ _ _ => (Z9 0 (by show (["_law_there", "_law_place_here"] : List Str).Nodup; decide +kernel) rfl (by first | exact Or.inl rfl | exact Or.inr rfl)), fun _ _ _ _ => Zbw (ZD (Y2 hr.units) (Zb 0) (Zb 1)), fun _ _ _ _ => (Zb 0)⟩ (Yh (ZA hz_law_next hr (by decide) rfl (Zd (Zb 1) (Zd (Zb 6) Zh)))))) (ZP (Yi Zh))) (Zm (WW (Qs (Zb 8) (Zb 6)))) Ym)))
theorem ZlE (hzdead_ends : FnAt P w K mg base "dead_ends" 7 Qr) (fA : Addr) (cdv : Value) (A : Around) (outer : List Env) (s : Shared) (H : Hp) (E : XK) (hr : Room 7 (A.deeper (PyProof.Rows.envOfC "law" (Zi Zq) s.heap.objs.size fA cdv))) : PDs (Z1 CX0 P w K mg base Nzlaw "law" (Zi Zq) fA cdv A outer s H E).nox EX0 ZgG ZbM := (Yd (ZD (Y2 hr.units) (ZA hzdead_ends hr (by decide) rfl (Zd (Zb 1) (Zd (Zb 2) Zh))) (Zb 8)) (Zm (ZN Zak)) Ym)
theorem Zjf (b_sorted : mg "sorted" = none) (fA : Addr) (cdv : Value) (A : Around) (outer : List Env) (s : Shared) (H : Hp) (E : XK) (hr : Room 7 (A.deeper (PyProof.Rows.envOfC "law" (Zi Zq) s.heap.objs.size fA cdv))) : PDs (Z1 CX0 P w K mg base Nzlaw "law" (Zi Zq) fA cdv A outer s H E).nox EX0 Zfb ZcR := (ZW 9 sczlaw.nd rfl (by first | exact Or.inl rfl | exact Or.inr rfl) (ZP (ZbD (ZbB rfl (Za7 hr.units)) rfl b_sorted PyProof.Rows.boot_sorted (Zd (Zb 3) Zh))))
theorem Zka (b_len : mg "len" = none) (hz_law_drawn : FnAt P w K mg base "_law_drawn" 2 Ya) (fA : Addr) (cdv : Value) (A : Around) (outer : List Env) (s : Shared) (H : Hp) (E : XK) (hr : Room 7 (A.deeper (PyProof.Rows.envOfC "law" (Zi Zq) s.heap.objs.size fA cdv))) : PDs (Z1 CX0 P w K mg base Nzlaw "law" (Zi Zq) fA cdv A outer s H E).nox EX0 ZdX ZcN := (ZW 10 sczlaw.nd rfl (by first | exact Or.inl rfl | exact Or.inr rfl) (ZP (Yi (Zd (Zb 2) (Zd (ZV (Zb 9) (ZcB Zn)) (Zd (ZV (Zb 9) (ZA hz_law_drawn hr (by decide) rfl (Zd (Zb 0) (Zd Zn (Zd (YJ YK rfl b_len PySem.boot_len (Zd (Zb 9) Zh)) Zh))))) (Zd (Yu (Zd ZF (Zd ZF Zh))) Zh)))))))
theorem Zns (b_isinstance : mg "isinstance" = none) (b_len : mg "len" = none) (b_tuple : mg "tuple" = none) (hzshortest : FnAt P w K mg base "shortest" 6 WJ) (fA : Addr) (cdv : Value) (A : Around) (outer : List Env) (s : Shared) (H : Hp) (E : XK) (hr : Room 7 (A.deeper (PyProof.Rows.envOfC "law" (Zi Zq) s.heap.objs.size fA cdv))) : PDs (Z1 CX0 P w K mg base Nzlaw "law" (Zi Zq) fA cdv A outer s H E).nox EX0 Zfy Zcv := (YM PassesOwn.never rfl (Yh (Zb 10)) (Z9 11 sczlaw.nd rfl (by first | exact Or.inl rfl | exact Or.inr rfl)) (Zr (ZW 12 sczlaw.nd rfl (by first | exact Or.inl rfl | exact Or.inr rfl) (ZA hzshortest hr (by decide) rfl (Zd (Zb 1) (Zd (Zb 2) (Zd (Zb 11) Zh))))) (Zr (Yd (PDW.pt (ZgF (ZD (Y2 hr.units) (Qc Zjn (Zb 12) YI) (Qc (Zbq hr.units) (Zb 11) (Zb 3))) (ZeP (PDW.pt (Wj (ZD Zau (Zb 12) YI) (WU (Zey (Zaw (ZkN (T := "tuple") (by decide) (Zb 12) rfl b_isinstance rfl b_tuple PyProof.Rows.boot_tuple))))))))) (Zm (ZN Zak)) Ym) (Zm (Yd (PDW.pt (Wj (ZD Zau (Zb 12) YI) (WU (ZD (Y2 hr.units) (YJ YK rfl b_len PySem.boot_len (Zd (Zb 12) Zh)) (ZcI hr.units (Zb 3) (Zb 11)))))) (Zm (ZN Zak)) Ym)))))
theorem Zm1  (fA : Addr) (cdv : Value) (A : Around) (outer : List Env) (s : Shared) (H : Hp) (E : XK) (hr : Room 7 (A.deeper (PyProof.Rows.envOfC "law" (Zi Zq) s.heap.objs.size fA cdv))) : PDs (Z1 CX0 P w K mg base Nzlaw "law" (Zi Zq) fA cdv A outer s H E).nox EX0 Zf7 ZfB := (ZN Zak)
theorem Zlr {f : Addr} {fd : FuncData} (F : Fun K "law" "law" Zq f fd) (b_isinstance : mg "isinstance" = none) (b_len : mg "len" = none) (b_range : mg "range" = none) (b_sorted : mg "sorted" = none) (b_tuple : mg "tuple" = none) (hz_law_drawn : FnAt P w K mg base "_law_drawn" 2 Ya) (hz_law_few : FnAt P w K mg base "_law_few" 3 W9) (hz_law_next : FnAt P w K mg base "_law_next" 2 Y3) (hzdead_ends : FnAt P w K mg base "dead_ends" 7 Qr) (hzreached : FnAt P w K mg base "reached" 6 Wp) (hzshortest : FnAt P w K mg base "shortest" 6 WJ) : FnOk P w K mg base CX0 8 f fd ["_law_script"] (spD K Q0) :=
 fnD (k:=7) F sczlaw fun cdv A outer s H E hr=>(show PDS _ _ [Zew,ZeW,Zfh,ZdF,ZeT,Zeh,Zd3,Ze7,ZgG,Zfb,ZdX,Zfy,Zf7] _ from (Zr (Zj6 hz_law_few f cdv A outer s H E hr) (Zr (ZjW b_range b_tuple hz_law_drawn f cdv A outer s H E hr) (Zr (Zi3  f cdv A outer s H E hr) (Zr (Zjm  f cdv A outer s H E hr) (Zr (Zm9 hz_law_next f cdv A outer s H E hr) (Zr (Zjs b_sorted hzreached f cdv A outer s H E hr) (Zr (ZjG  f cdv A outer s H E hr) (Zr (ZmL b_sorted hz_law_next f cdv A outer s H E hr) (Zr (ZlE hzdead_ends f cdv A outer s H E hr) (Zr (Zjf b_sorted f cdv A outer s H E hr) (Zr (Zka b_len hz_law_drawn f cdv A outer s H E hr) (Zr (Zns b_isinstance b_len b_tuple hzshortest f cdv A outer s H E hr) (Zm (Zm1  f cdv A outer s H E hr)))))))))))))))
end
end K52
end
section
set_option maxHeartbeats 2000000
namespace K52
open PySem L2 DL
theorem Zha (x y:Int) (st:Sto):neD (.int x) (.int y) st = .ok (.bl (!decide (x=y))) st:=by
 rw [Zbb rfl rfl]
 congr 3
 exact decide_eq_decide.mpr (by rw [D.int.injEq])
theorem ZdW {chk:Sto→Prop} {t:TgD} {g:DS} (P:Nat→Ev→Sto→Prop) (hc:∀ j ρ st,P j ρ st→chk st):∀ (xs:List D) (n:Nat),(∀ j x,xs[j]?=some x→∀ ρ st,P (n+j) ρ st→∃ ρ1 ρ2 st2,t x ρ=some ρ1∧g ρ1 st = .nx ρ2 st2∧P (n+j+1) ρ2 st2) →
  ∀ ρ st,P n ρ st→∃ ρ2 st2,Zz chk t g xs ρ st = .nx ρ2 st2∧P (n+xs.length) ρ2 st2
 | [],n,_,ρ,st,h=>⟨ρ,st,YU (hc n ρ st h),h⟩
 | x :: xs,n,hx,ρ,st,h=>by
  obtain ⟨ρ1,ρ2,st2,e1,e2,h2⟩:=hx 0 x rfl ρ st h
  obtain ⟨ρ3,st3,e3,h3⟩:=ZdW P hc xs (n+1) (fun j y hy ρ st hp=>by
   have q:n+1+j=n+(j+1):=by omega
   rw [q] at hp
   obtain ⟨r1,r2,s2,k1,k2,k3⟩:=hx (j+1) y (by simpa using hy) ρ st hp
   exact ⟨r1,r2,s2,k1,k2,by rw [q]; exact k3⟩) ρ2 st2 h2
  refine ⟨ρ3,st3,(Yo (hc n ρ st h) e1 e2).trans e3,?_⟩
  have q:n+(x :: xs).length=n+1+xs.length:=by simp; omega
  rw [q]
  exact h3
theorem Zll {chk:Sto→Prop} {t:TgD} {g:DS} {f:Nat→D} (P:Nat→Ev→Sto→Prop) (hc:∀ j ρ st,P j ρ st→chk st) (n:Nat) (step:∀ j,j<n→∀ ρ st,P j ρ st→∃ ρ1 ρ2 st2,t (f j) ρ=some ρ1∧g ρ1 st = .nx ρ2 st2∧P (j+1) ρ2 st2) (ρ:Ev) (st:Sto) (h:P 0 ρ st) :
  ∃ ρ2 st2,Zz chk t g ((List.range n).map f) ρ st = .nx ρ2 st2∧P n ρ2 st2:=by
 obtain ⟨ρ2,st2,e,h2⟩:=ZdW P hc ((List.range n).map f) 0 (fun j x hx ρ st hp=>by
  rw [Nat.zero_add] at hp ⊢
  have hj:j<n:=by
   have:=(List.getElem?_eq_some_iff.mp hx).1
   simpa using this
  rw [List.getElem?_map,List.getElem?_range hj] at hx
  simp only [Option.map_some,Option.some.injEq] at hx
  rw [← hx]
  exact step j hj ρ st hp) ρ st h
 refine ⟨ρ2,st2,e,?_⟩
 simpa using h2
noncomputable def ZR (ns:List Int) (k:Int):Int:=if ns=[] then 7 * k else ns.getD (k % ns.length).toNat 0+6553 * (k / ns.length)
theorem Zef (xs:List D) (st:Sto):eqD (.scr xs) (.lst []) st = .ok (.bl xs.isEmpty) st:=by
 cases xs <;> rfl
theorem ZhY (xs:List D) (st:Sto):ZO [.scr xs] st = .ok (.int xs.length) st:=rfl
theorem Zi1 (ns:List Int) (k:Int) (st:Sto) (h0:0≤k) (h1:k<ns.length):ixD (.scr (ns.map .int)) (.int k) st = .ok (.int (ns.getD k.toNat 0)) st:=by
 have e:L2.atI (ns.map D.int) k=some (.int (ns.getD k.toNat 0)):=by
  unfold L2.atI L2.ixN
  rw [if_pos h0,if_pos (by rw [List.length_map]; exact h1)]
  have hk:k.toNat<ns.length:=by omega
  simp [List.getElem?_map,List.getElem?_eq_getElem hk]
 simp [ixD,itemsOf,ZS,e]
theorem Zir (ns:List Int) (hl:ns.length≤63) (k:Int) (st:Sto):Q3 [.scr (ns.map .int),.int k] st = .ok (.int (ZR ns k)) st:=by
 unfold Q3 Zdt ZR
 by_cases h:ns=[]
 ·subst h
  have e1:=Qb _ _ st (QW 7 k (by decide) (by decide))
  have e2:=Zef [] st
  simp [e1,e2]
 ·have hp:0<ns.length:=List.length_pos_iff.mpr h
  have h1:(0:Int)<(ns.length:Int):=by omega
  have h2:0≤k % (ns.length:Int):=Int.emod_nonneg _ (by omega)
  have h3:k % (ns.length:Int)<ns.length:=Int.emod_lt_of_pos _ h1
  have e0:=Zef (ns.map .int) st
  have e1:=ZhY (ns.map .int) st
  have e2:=mod_int k _ st h1
  have e3:=Zbv k _ st h1 (by omega:(ns.length:Int)<1073741824)
  have e4:=Zi1 ns _ st h2 h3
  have e5:=Qb _ _ st (QW 6553 (k / ns.length) (by decide) (by decide))
  rw [List.length_map] at e1
  simp [e0,e1,e2,e3,e4,e5,h]
noncomputable def Yb (c k:Int):Int:=(c % 2147483563 * 69069+104723 * (k+1)) % 2147483563
noncomputable def WL (a:Int):Int:=(a * a+a / 3) % 2147483399
noncomputable def ZkB (b m:Int):Int:=(b * b+b / 7) % 2147483647 / 11 % m
noncomputable def Z2 (ns:List Int) (k m:Int):Int:=ZkB (WL (Yb (ZR ns k) k)) m
theorem Wz (ns:List Int) (hl:ns.length≤63) (k m:Int) (hm:0<m) (st:Sto):Ya [.scr (ns.map .int),.int k,.int m] st = .ok (.int (Z2 ns k m)) st:=by
 have a1:0≤Yb (ZR ns k) k:=Int.emod_nonneg _ (by decide)
 have a2:Yb (ZR ns k) k<2147483563:=Int.emod_lt_of_pos _ (by decide)
 have b1:0≤WL (Yb (ZR ns k) k):=Int.emod_nonneg _ (by decide)
 have b2:WL (Yb (ZR ns k) k)<2147483399:=Int.emod_lt_of_pos _ (by decide)
 have c0:0≤ZR ns k % 2147483563:=Int.emod_nonneg _ (by decide)
 have c1:ZR ns k % 2147483563<2147483563:=Int.emod_lt_of_pos _ (by decide)
 have e1:Yl (.int (ZR ns k % 2147483563)) (.int 69069) st = .ok (.int (ZR ns k % 2147483563 * 69069)) st:=Qb _ _ _ (Zh2 _ _ (by decide) (by decide))
 have e2:Yl (.int 104723) (.int (k+1)) st = .ok (.int (104723 * (k+1))) st:=Qb _ _ _ (QW _ _ (by decide) (by decide))
 have e3:Yl (.int (Yb (ZR ns k) k)) (.int (Yb (ZR ns k) k)) st = .ok (.int (Yb (ZR ns k) k * Yb (ZR ns k) k)) st:=Qb _ _ _ (QW _ _ (by omega) (by omega))
 have e4:Yl (.int (WL (Yb (ZR ns k) k))) (.int (WL (Yb (ZR ns k) k))) st = .ok (.int (WL (Yb (ZR ns k) k) * WL (Yb (ZR ns k) k))) st:=Qb _ _ _ (QW _ _ (by omega) (by omega))
 have hA:(ZR ns k % 2147483563 * 69069+104723 * (k+1)) % 2147483563=Yb (ZR ns k) k:=rfl
 have hB:(Yb (ZR ns k) k * Yb (ZR ns k) k+Yb (ZR ns k) k / 3) % 2147483399=WL (Yb (ZR ns k) k):=rfl
 have e0:=Zir ns hl k st
 have m1:=fun i=>mod_int i 2147483563 st (by decide)
 have m2:=fun i=>mod_int i 2147483399 st (by decide)
 have m3:=fun i=>mod_int i 2147483647 st (by decide)
 have m4:=fun i=>mod_int i m st hm
 have d1:=fun i=>Zbv i 3 st (by decide) (by decide)
 have d2:=fun i=>Zbv i 7 st (by decide) (by decide)
 have d3:=fun i=>Zbv i 11 st (by decide) (by decide)
 unfold Ya ZdZ
 simp [e0,e1,e2,e3,e4,m1,m2,m3,m4,d1,d2,d3,hA,hB]
 rfl
theorem Y9 (ns:List Int) (k m:Int) (hm:0<m):0≤Z2 ns k m:=Int.emod_nonneg _ (by omega)
theorem Y6 (ns:List Int) (k m:Int) (hm:0<m):Z2 ns k m<m:=Int.emod_lt_of_pos _ hm
noncomputable def up : Str := ".."
noncomputable def stay : Str := "."
noncomputable def ZM:List Str→List Str→Option (List Str)
 | ws,[]=>some ws
 | ws,x :: xs=>if x=up then (if ws=[] then none else ZM ws.dropLast xs) else if x=stay then ZM ws xs else if ws.length<6 then ZM (ws++[x]) xs else none
noncomputable def Zy:Option (List Str)→D
 | some ws=>pl ws
 | none => .non
theorem getL {st:Sto} {xs:List D} {i:Nat} (h:st[i]?=some (.lst xs)):itemsOf st (.res i)=some xs:=by simp [itemsOf,ZS,h]
theorem Zcf {st:Sto} {xs:List D} {i:Nat} (h:st[i]?=some (.lst xs)):ZO [.res i] st = .ok (.int xs.length) st:=by simp [ZO,getL h]
theorem ZeH {st:Sto} {xs:List D} {i:Nat} (h:st[i]?=some (.lst xs)):YN [.res i] st = .ok (.tup xs) st:=by simp [YN,getL h]
theorem Zln {ρ:Ev} {st:Sto} {j i:Nat} {xs:List D} (hj:ρ[j]?=some (some (.res i))) (h:st[i]?=some (.lst xs)) (hx:xs≠[]):∃ d,ZaO (Za j) ρ st = .ok d (st.set i (.lst xs.dropLast)):=by
 have hl:0<xs.length:=List.length_pos_iff.mpr hx
 refine ⟨xs[xs.length - 1],?_⟩
 unfold ZaO
 simp only [ZdN,hj,ZeA,h]
 rw [List.getElem?_eq_getElem (by omega)]
theorem Zcz {ρ:Ev} {st:Sto} {j i:Nat} {xs:List D} {f:DE} {d:D} (hj:ρ[j]?=some (some (.res i))) (h:st[i]?=some (.lst xs)) (hf:f ρ st = .ok d st) (hx:xs.length<small):Yv (Za j) f ρ st = .ok .non (st.set i (.lst (xs++[d]))):=by
 unfold Yv
 simp only [ZdN,hj,ZeA,h,hf,if_pos hx]
theorem Q1 {st:Sto} {i:Nat} {s s':S} (h:st[i]?=some s):(st.set i s')[i]?=some s':=by
 rw [List.getElem?_set_self (List.getElem?_eq_some_iff.mp h).1]
theorem Ze8 (ws:List Str) (st:Sto):Zad [pl ws] st = .ok (ws.map .str) st:=by simp [Zad,Zaz]
theorem Qz (st:Sto) (s:S):(st++[s])[st.length]?=some s:=by simp
theorem Zlj {st:Sto} {xs:List D} {i:Nat} (h:st[i]?=some (.lst xs)):ZaC (.res i) none (some (-1)) st = .ok xs.dropLast st:=by
 have e:YA xs none (some (-1))=xs.dropLast:=by
  unfold YA HT.sIx
  simp only [show (-1:Int)<0 by decide,if_true,List.drop_zero,Nat.sub_zero]
  rw [List.dropLast_eq_take]
  congr 1
  omega
 simp [ZaC,ZS,h,e]
theorem ZgA {st:Sto} {xs:List D} {i:Nat} (h:st[i]?=some (.lst xs)):eqD (.res i) (.lst []) st = .ok (.bl xs.isEmpty) st:=by
 have e:eqN st depth (.res i) (.lst [])=some xs.isEmpty:=by
  show eqN st (49+1) (.res i) (.lst [])=_
  unfold eqN
  simp only [kd,h]
  cases xs <;> rfl
 simp [eqD,e]
theorem ZmZ (x : Str) (st : Sto) : ZaL (.str x) (.tup [.str ".", .str ".."]) st = .ok (.bl (!(decide (x = stay) || decide (x = up)))) st := by
 have h1 : eqN st depth (.str ".") (.str x) = some (decide (x = stay)) := by
  rw [WY st depth _ _ rfl rfl]
  congr 1
  exact decide_eq_decide.mpr (by rw [D.str.injEq]; exact eq_comm)
 have h2 : eqN st depth (.str "..") (.str x) = some (decide (x = up)) := by
  rw [WY st depth _ _ rfl rfl]
  congr 1
  exact decide_eq_decide.mpr (by rw [D.str.injEq]; exact eq_comm)
 simp [ZaL,itemsOf,inN,h1,h2]
theorem YS {g g':DS} {ρ ρ':Ev} {st st':Sto} (h:g ρ st = .nx ρ' st'):Zl g g' ρ st=g' ρ' st':=by simp [h]
theorem ZhM (xs:List D) (st:Sto):ZO [.lst xs] st = .ok (.int xs.length) st:=rfl
theorem QM {α:Type} (g:α→D) (p:α→Bool) (h:α→D) {chk:Sto→Prop} {t:TgD} {cond:DT} {fe:DE} {st:Sto} (IE:Ev→Prop) (hc:chk st):∀ (xs:List α) (ρ:Ev) (acc:List D),IE ρ→acc.length+xs.length≤small →
  (∀ x∈xs,∀ ρ,IE ρ→∃ ρ1,t (g x) ρ=some ρ1∧IE ρ1∧cond ρ1 st = .ok (p x) st∧(p x=true→fe ρ1 st = .ok (h x) st))→ZU chk t cond fe (xs.map g) ρ st acc = .ok (acc++(xs.filter p).map h) st
 | [],ρ,acc,_,_,_=>by simp [ZU,hc]
 | x :: xs,ρ,acc,hI,hl,hx=>by
  obtain ⟨ρ1,e1,h1,e2,e3⟩:=hx x List.mem_cons_self ρ hI
  rw [List.map_cons]
  unfold ZU
  rw [if_pos ⟨hc,by simp at hl; omega⟩,e1]
  dsimp only
  rw [e2]
  cases hp:p x with
  | true =>
   dsimp only
   rw [e3 hp]
   dsimp only
   rw [QM g p h IE hc xs ρ1 (acc++[h x]) h1 (by simp at hl ⊢; omega) fun y hy=>hx y (List.mem_cons_of_mem _ hy)]
   simp [hp]
  | false =>
   dsimp only
   rw [QM g p h IE hc xs ρ1 acc h1 (by simp at hl ⊢; omega) fun y hy=>hx y (List.mem_cons_of_mem _ hy)]
   simp [hp]
theorem Zbl {α:Type} (g:α→D) (h:α→D) {chk:Sto→Prop} {t:TgD} {fe:DE} {st:Sto} (IE:Ev→Prop) (hc:chk st) (xs:List α) (ρ:Ev) (acc:List D) (hI:IE ρ) (hl:acc.length+xs.length≤small)
  (hx:∀ x∈xs,∀ ρ,IE ρ→∃ ρ1,t (g x) ρ=some ρ1∧IE ρ1∧fe ρ1 st = .ok (h x) st):ZU chk t YZ fe (xs.map g) ρ st acc = .ok (acc++xs.map h) st:=by
 rw [QM g (fun _=>true) h IE hc xs ρ acc hI hl fun x hm ρ hi => ?_]
 ·rw [List.filter_eq_self.mpr fun _ _=>rfl]
 ·obtain ⟨ρ1,e1,e2,e3⟩:=hx x hm ρ hi
  exact ⟨ρ1,e1,e2,rfl,fun _=>e3⟩
theorem YQ {g g':DS} {ρ ρ':Ev} {st st':Sto} (h:g ρ st = .nx ρ' st') (h2:∃ st2,g' ρ' st' = .rt (.bl true) st2):∃ st2,Zl g g' ρ st = .rt (.bl true) st2:=by
 obtain ⟨st2,e⟩:=h2
 exact ⟨st2,(YS h).trans e⟩
theorem ZaU {t:DT} {g:DS} {ρ:Ev} {st st':Sto} (h:t ρ st = .ok false st'):sIf t g Z8 ρ st = .nx ρ st':=by simp [h]
theorem Zml {t:DT} {g g':DS} {ρ:Ev} {st st':Sto} (h:t ρ st = .ok true st'):sIf t g g' ρ st=g ρ st':=by simp [h]
theorem Zfi {t:DT} {g g':DS} {ρ:Ev} {st st':Sto} (h:t ρ st = .ok false st'):sIf t g g' ρ st=g' ρ st':=by simp [h]
theorem Zjx {a:D} (h:nice depth a=true) (st:Sto):neD a a st = .ok (.bl false) st:=by
 rw [Zbb h h]
 simp
theorem ZfF {f f':DE} {ρ:Ev} {st st1 st2:Sto} (b:Bool) (h1:f ρ st = .ok (.bl b) st1) (h2:f' ρ st1 = .ok (.bl b) st2):dB (Ze neD f f') ρ st = .ok false st2:=by
 have e:neD (.bl b) (.bl b) st2 = .ok (.bl false) st2:=by cases b <;> rfl
 simp [h1,h2,e]
theorem ZfH {t t':DT} {ρ:Ev} {st st1 st2:Sto} (h:t ρ st = .ok false st1) (h':t' ρ st1 = .ok false st2):dOr t t' ρ st = .ok false st2:=by simp [h,h']
theorem ZbU {t t':DT} {ρ:Ev} {st st1:Sto} (h:t ρ st = .ok false st1):Yg t t' ρ st = .ok false st1:=by simp [h]
theorem Zcg {t t':DT} {ρ:Ev} {st st1 st2:Sto} {b:Bool} (h:t ρ st = .ok true st1) (h':t' ρ st1 = .ok b st2):Yg t t' ρ st = .ok b st2:=by simp [h,h']
theorem ZkS {N n:Nat} {g:DS} {ds:List D} {st st':Sto} {d:D} (hl:ds.length=n) (h:g (ds.map some++List.replicate (N - n) none) st = .rt d st'):ZQ N n g ds st = .ok d st':=by
 rw [Zle,if_pos hl,h]
theorem Qt (p:List Str):ZK (pl p)=some (p.map Sum.inr):=by
 show Wa (p.map D.str)=_
 induction p with
 | nil=>rfl
 | cons x p ih =>
  show (match Yn (.str x),Wa (p.map D.str) with | some k,some ks=>some (k :: ks) | _,_=>none)=_
  rw [ih]
  rfl
theorem keyT_inj {p q:List Str}:ZK (pl p)=ZK (pl q) ↔ p=q:=by
 rw [Qt,Qt,Option.some.injEq]
 constructor
 ·intro h
  induction p generalizing q with
  | nil =>
   cases q with
   | nil=>rfl
   | cons y q=>cases h
  | cons x p ih =>
   cases q with
   | nil=>cases h
   | cons y q =>
    rw [List.map_cons,List.map_cons] at h
    injection h with h1 h2
    injection h1 with h1
    rw [h1,ih h2]
 ·intro h; rw [h]
noncomputable def dpl (f:List Str→D) (ks:List (List Str)):List (D×D):=ks.map fun p=>(pl p,f p)
theorem Zdl (f:List Str→D) (p:List Str):∀ ks:List (List Str),YH ZK (dpl f ks) (pl p)=if p∈ks then some (f p) else none
 | []=>by simp [dpl,YH]
 | k :: ks=>by
  show (if ZK (pl k)=ZK (pl p) then some (f k) else YH ZK (dpl f ks) (pl p))=_
  rw [Zdl f p ks]
  by_cases h:k=p
  ·subst h
   simp
  ·rw [if_neg (fun z=>h (keyT_inj.mp z))]
   have h':¬ p=k:=fun z=>h z.symm
   simp [h']
theorem Zkz (f:List Str→D) (ks:List (List Str)) (p:List Str):hasD ZK (dpl f ks) (pl p)=decide (p∈ks):=by
 unfold hasD dpl
 rw [List.any_map]
 induction ks with
 | nil=>simp
 | cons k ks ih =>
  rw [List.any_cons,ih]
  by_cases h:k=p
  ·subst h
   simp
  ·have h':¬ p=k:=fun z=>h z.symm
   have h2:¬ ZK (pl k)=ZK (pl p):=fun z=>h (keyT_inj.mp z)
   simp [h',h2]
theorem Za6 (f:List Str→D) (ks:List (List Str)) (p:List Str) (v:D):putD ZK (dpl f ks) (pl p) v=dpl (fun q=>if q=p then v else f q) (if p∈ks then ks else ks++[p]):=by
 unfold putD
 rw [Zkz]
 by_cases h:p∈ks
 ·rw [if_pos (decide_eq_true h),if_pos h]
  unfold dpl
  rw [List.map_map]
  refine List.map_congr_left fun q _ => ?_
  show (if ZK (pl q)=ZK (pl p) then (pl q,v) else (pl q,f q))=(pl q,if q=p then v else f q)
  by_cases e:q=p
  ·rw [if_pos (keyT_inj.mpr e),if_pos e]
  ·rw [if_neg (fun z=>e (keyT_inj.mp z)),if_neg e]
 ·rw [if_neg (by simpa using h),if_neg h]
  unfold dpl
  rw [List.map_append]
  congr 1
  ·refine List.map_congr_left fun q hq => ?_
   have:¬ q=p:=fun z=>h (z ▸ hq)
   show (pl q,f q)=(pl q,if q=p then v else f q)
   rw [if_neg this]
  ·show [(pl p,v)]=[(pl p,if p=p then v else f p)]
   rw [if_pos rfl]
structure StoK (st st':Sto):Prop where
 fr:∀ (j:Nat) (x:S),st[j]?=some x→st'[j]?=some x
 le:st.length≤st'.length
theorem StoK.refl (st:Sto):StoK st st:=⟨fun _ _ h=>h,Nat.le_refl _⟩
theorem StoK.trans {a b c:Sto} (x:StoK a b) (y:StoK b c):StoK a c:=⟨fun j z h=>y.fr j z (x.fr j z h),Nat.le_trans x.le y.le⟩
theorem StoK.app (st t:Sto):StoK st (st++t):=⟨fun j x h=>by rw [List.getElem?_append_left (List.getElem?_eq_some_iff.mp h).1]; exact h,by simp⟩
theorem StoK.set {a b:Sto} (x:StoK a b) {r:Nat} (hr:a.length≤r) (y:S):StoK a (b.set r y):=⟨fun j z h=>by
 have hj:j<a.length:=(List.getElem?_eq_some_iff.mp h).1
 rw [List.getElem?_set_ne (by omega)]
 exact x.fr j z h,by rw [List.length_set]; exact x.le⟩
theorem Zbr:∀ (xs ws us:List Str),ws.length≤6→ZM ws xs=some us→us.length≤6
 | [],ws,us,hl,h=>by unfold ZM at h; cases h; exact hl
 | x :: xs,ws,us,hl,h=>by
  unfold ZM at h
  split at h
  ·split at h
   ·cases h
   ·exact Zbr xs _ us (by rw [List.length_dropLast]; omega) h
  ·split at h
   ·exact Zbr xs _ us hl h
   ·split at h
    ·exact Zbr xs _ us (by simp; omega) h
    ·cases h
theorem ZbN {chk:Sto→Prop} (hchk:∀ st,chk st) (p s0:Option D) (r:Nat) (st0:Sto) (hr:st0.length≤r):∀ (xs ws:List Str) (e:Option D) (st:Sto),ws.length≤6→st[r]?=some (.lst (ws.map .str))→StoK st0 st →
  (∀ us,ZM ws xs=some us→∃ e' st',Zz chk (Zp 3) YG (xs.map .str) [p,s0,some (.res r),e] st = .nx [p,s0,some (.res r),e'] st'∧st'[r]?=some (.lst (us.map .str))∧StoK st0 st') ∧
  (ZM ws xs=none→∃ st',Zz chk (Zp 3) YG (xs.map .str) [p,s0,some (.res r),e] st = .rt .non st'∧StoK st0 st')
 | [],ws,e,st,hl,h,hk=>⟨fun us hu=>by
   unfold ZM at hu
   cases hu
   exact ⟨e,st,YU (hchk st),h,hk⟩,fun hn=>by unfold ZM at hn; cases hn⟩
 | x :: xs,ws,e,st,hl,h,hk=>by
  have hlen:=Zcf h
  rw [List.length_map] at hlen
  have ht:Zp 3 (.str x) [p,s0,some (.res r),e]=some [p,s0,some (.res r),some (.str x)]:=rfl
  rw [List.map_cons]
  unfold ZM
  have q1 := WD x ".." st
  have q2 := Za8 x "." st
  by_cases hu:x=up
  ·have hu' : x = (".." : Str) := hu
   rw [decide_eq_true hu'] at q1
   rw [if_pos hu]
   by_cases h0:ws=[]
   ·rw [if_pos h0]
    have q3:=Zbs (ws.length:Int) 0 st
    rw [decide_eq_true (by rw [h0]; rfl)] at q3
    have hb:YG [p,s0,some (.res r),some (.str x)] st = .rt .non st:=by
     unfold YG
     simp [q1,hlen,q3]
    exact ⟨fun us hus=>(by cases hus),fun _=>⟨st,ZaM (hchk st) ht hb,hk⟩⟩
   ·rw [if_neg h0]
    obtain ⟨d,hp⟩:=Zln (ρ:=[p,s0,some (.res r),some (.str x)]) (j:=2) rfl h (by simpa using h0)
    have hb:YG [p,s0,some (.res r),some (.str x)] st = .nx [p,s0,some (.res r),some (.str x)] (st.set r (.lst (ws.map D.str).dropLast)):=by
     have h00:¬ (ws.length:Int)=0:=by
      have:=List.length_pos_iff.mpr h0
      omega
     have q3:=Zbs (ws.length:Int) 0 st
     rw [decide_eq_false h00] at q3
     unfold YG
     simp [q1,hlen,q3,hp]
    rw [List.map_dropLast.symm] at hb
    have ih:=ZbN hchk p s0 r st0 hr xs ws.dropLast (some (.str x)) _ (by rw [List.length_dropLast]; omega) (Q1 (s':=.lst (ws.dropLast.map .str)) h) (hk.set hr _)
    rw [Yo (hchk st) ht hb]
    exact ih
  ·have hu' : ¬ x = (".." : Str) := hu
   rw [decide_eq_false hu'] at q1
   rw [if_neg hu]
   by_cases hs:x=stay
   ·have hs' : x = ("." : Str) := hs
    rw [decide_eq_true hs'] at q2
    rw [if_pos hs]
    have hb:YG [p,s0,some (.res r),some (.str x)] st = .nx [p,s0,some (.res r),some (.str x)] st:=by
     unfold YG
     simp [q1,q2]
    rw [Yo (hchk st) ht hb]
    exact ZbN hchk p s0 r st0 hr xs ws (some (.str x)) st hl h hk
   ·have hs' : ¬ x = ("." : Str) := hs
    rw [decide_eq_false hs'] at q2
    rw [if_neg hs]
    have ha:=Zcz (ρ:=[p,s0,some (.res r),some (.str x)]) (j:=2) (f:=Za 3) (d:=.str x) rfl h rfl (by rw [List.length_map]; exact Nat.lt_of_le_of_lt hl (by decide))
    have hst:(st.set r (.lst (ws.map D.str++[.str x])))[r]?=some (.lst (ws.map D.str++[.str x])):=Q1 h
    have hlen2:=Zcf hst
    simp only [List.length_append,List.length_map,List.length_cons,List.length_nil] at hlen2
    by_cases h6:ws.length<6
    ·rw [if_pos h6]
     have hb:YG [p,s0,some (.res r),some (.str x)] st = .nx [p,s0,some (.res r),some (.str x)] (st.set r (.lst (ws.map D.str++[.str x]))):=by
      have h66:¬ (6:Int)<(ws.length:Int)+1:=by omega
      unfold YG
      simp [q1,q2,ha,hlen2,gtD,Zbh,h66,QG,ZcP]
     rw [Yo (hchk st) ht hb]
     exact ZbN hchk p s0 r st0 hr xs (ws++[x]) (some (.str x)) _ (by simp; omega) (by simpa using hst) (hk.set hr _)
    ·rw [if_neg h6]
     have hb:YG [p,s0,some (.res r),some (.str x)] st = .rt .non (st.set r (.lst (ws.map D.str++[.str x]))):=by
      have h66:(6:Int)<(ws.length:Int)+1:=by omega
      unfold YG
      simp [q1,q2,ha,hlen2,gtD,Zbh,h66,QG,ZcP]
     exact ⟨fun us hus=>(by cases hus),fun _=>⟨_,ZaM (hchk st) ht hb,hk.set hr _⟩⟩
theorem ZiW (ws xs:List Str) (hl:ws.length≤6) (st:Sto):∃ st',Qj [pl ws,pl xs] st = .ok (Zy (ZM ws xs)) st'∧StoK st st':=by
 have h1:=ZbN (chk:=fun st=>itemsOf st (pl xs)=some (xs.map D.str)) (fun st=>Zaz xs st) (some (pl ws)) (some (pl xs)) st.length st (Nat.le_refl _) xs ws none (st++[.lst (ws.map .str)]) hl (Qz _ _) (StoK.app _ _)
 have e1:=Ze8 ws st
 have e2:=Zaz xs (st++[.lst (ws.map .str)])
 cases h:ZM ws xs with
 | some us =>
  obtain ⟨e',st',e3,e4,e6⟩:=h1.1 us h
  have e5:=ZeH e4
  refine ⟨st',?_,e6⟩
  unfold Qj ZcC
  simp [e1,e2,e3,e5,Zy]
  rfl
 | none =>
  obtain ⟨st',e3,e6⟩:=h1.2 h
  refine ⟨st',?_,e6⟩
  unfold Qj ZcC
  simp [e1,e2,e3,Zy]
theorem Zbe {chk:Sto→Prop} (hchk:∀ st,chk st) (p s0:Option D) (st0:Sto):∀ (xs ws:List Str) (r:Nat) (e:Option D) (st:Sto),st0.length≤r→ws.length≤6→st[r]?=some (.lst (ws.map .str))→StoK st0 st →
  (∀ us,ZM ws xs=some us→∃ r' e' st',Zz chk (Zp 3) YD (xs.map .str) [p,s0,some (.res r),e] st = .nx [p,s0,some (.res r'),e'] st'∧st'[r']?=some (.lst (us.map .str))∧StoK st0 st') ∧
  (ZM ws xs=none→∃ st',Zz chk (Zp 3) YD (xs.map .str) [p,s0,some (.res r),e] st = .rt .non st'∧StoK st0 st')
 | [],ws,r,e,st,hr,hl,h,hk=>⟨fun us hu=>by
   unfold ZM at hu
   cases hu
   exact ⟨r,e,st,YU (hchk st),h,hk⟩,fun hn=>by unfold ZM at hn; cases hn⟩
 | x :: xs,ws,r,e,st,hr,hl,h,hk=>by
  have hlen:=Zcf h
  rw [List.length_map] at hlen
  have ht:Zp 3 (.str x) [p,s0,some (.res r),e]=some [p,s0,some (.res r),some (.str x)]:=rfl
  rw [List.map_cons]
  unfold ZM
  have q1 := WD x ".." st
  have q2 := Za8 x "." st
  have q3:=ZgA h
  have q4:=ZmZ x st
  have q5:=Zbs (ws.length:Int) 6 st
  by_cases hu:x=up
  ·have hu' : x = (".." : Str) := hu
   rw [decide_eq_true hu'] at q1
   rw [if_pos hu]
   by_cases h0:ws=[]
   ·rw [if_pos h0]
    have hb:YD [p,s0,some (.res r),some (.str x)] st = .rt .non st:=by
     subst h0
     unfold YD
     simp [q1,q3]
    exact ⟨fun us hus=>(by cases hus),fun _=>⟨st,ZaM (hchk st) ht hb,hk⟩⟩
   ·rw [if_neg h0]
    have hem:(ws.map D.str).isEmpty=false:=by simpa using h0
    rw [hem] at q3
    rw [decide_eq_true hu,Bool.or_true,Bool.not_true] at q4
    have q6:=Zlj h
    have hb:YD [p,s0,some (.res r),some (.str x)] st = .nx [p,s0,some (.res st.length),some (.str x)] (st++[.lst (ws.map D.str).dropLast]):=by
     unfold YD
     simp [q1,q3,q4,q6]
    rw [List.map_dropLast.symm] at hb
    rw [Yo (hchk st) ht hb]
    exact Zbe hchk p s0 st0 xs ws.dropLast st.length (some (.str x)) _ hk.le (by rw [List.length_dropLast]; omega) (Qz _ _) (hk.trans (StoK.app _ _))
  ·have hu' : ¬ x = (".." : Str) := hu
   rw [decide_eq_false hu'] at q1
   rw [decide_eq_false hu,Bool.or_false] at q4
   rw [if_neg hu]
   by_cases hs:x=stay
   ·have hs' : x = ("." : Str) := hs
    rw [decide_eq_true hs'] at q2
    rw [decide_eq_true hs,Bool.not_true] at q4
    rw [if_pos hs]
    have hb:YD [p,s0,some (.res r),some (.str x)] st = .nx [p,s0,some (.res r),some (.str x)] st:=by
     unfold YD
     simp [q1,q2,q4]
    rw [Yo (hchk st) ht hb]
    exact Zbe hchk p s0 st0 xs ws r (some (.str x)) st hr hl h hk
   ·have hs' : ¬ x = ("." : Str) := hs
    rw [decide_eq_false hs'] at q2
    rw [decide_eq_false hs,Bool.not_false] at q4
    rw [if_neg hs]
    have ha:=Zcz (ρ:=[p,s0,some (.res r),some (.str x)]) (j:=2) (f:=Za 3) (d:=.str x) rfl h rfl (by rw [List.length_map]; exact Nat.lt_of_le_of_lt hl (by decide))
    have hst:(st.set r (.lst (ws.map D.str++[.str x])))[r]?=some (.lst (ws.map D.str++[.str x])):=Q1 h
    by_cases h6:ws.length<6
    ·rw [if_pos h6]
     have hb:YD [p,s0,some (.res r),some (.str x)] st = .nx [p,s0,some (.res r),some (.str x)] (st.set r (.lst (ws.map D.str++[.str x]))):=by
      have h66:¬ (ws.length:Int)=6:=by omega
      rw [decide_eq_false h66] at q5
      unfold YD
      simp [q1,q2,q4,q5,hlen,ha]
     rw [Yo (hchk st) ht hb]
     exact Zbe hchk p s0 st0 xs (ws++[x]) r (some (.str x)) _ hr (by simp; omega) (by simpa using hst) (hk.set hr _)
    ·rw [if_neg h6]
     have hb:YD [p,s0,some (.res r),some (.str x)] st = .rt .non st:=by
      have h66:(ws.length:Int)=6:=by omega
      rw [decide_eq_true h66] at q5
      unfold YD
      simp [q1,q2,q4,q5,hlen]
     exact ⟨fun us hus=>(by cases hus),fun _=>⟨st,ZaM (hchk st) ht hb,hk⟩⟩
theorem Zgl (ws xs:List Str) (hl:ws.length≤6) (st:Sto):∃ st',Wl [pl ws,pl xs] st = .ok (Zy (ZM ws xs)) st'∧StoK st st':=by
 have h1:=Zbe (chk:=fun st=>itemsOf st (pl xs)=some (xs.map D.str)) (fun st=>Zaz xs st) (some (pl ws)) (some (pl xs)) st xs ws st.length none (st++[.lst (ws.map .str)]) (Nat.le_refl _) hl (Qz _ _) (StoK.app _ _)
 have e1:=Ze8 ws st
 have e2:=Zaz xs (st++[.lst (ws.map .str)])
 cases h:ZM ws xs with
 | some us =>
  obtain ⟨r',e',st',e3,e4,e6⟩:=h1.1 us h
  have e5:=ZeH e4
  refine ⟨st',?_,e6⟩
  unfold Wl ZbQ
  simp [e1,e2,e3,e5,Zy]
  rfl
 | none =>
  obtain ⟨st',e3,e6⟩:=h1.2 h
  refine ⟨st',?_,e6⟩
  unfold Wl ZbQ
  simp [e1,e2,e3,Zy]
theorem Zdw (a b:List Str) (st:Sto):WV [pl a,pl b] st = .ok (.bl (decide (a.take b.length=b))) st:=by
 have e1:=ZbF b st
 have e2:=ZeR a none (some (b.length:Int)) st
 rw [ZdD] at e2
 have e3:=Zgz (a.take b.length) b st
 unfold WV ZfT
 simp [e1,e2,e3]
inductive Prt where
 | way (k:Int)
 | steps (xs:List Str)
structure Lk where
 wh:List Str
 wd:Str
 op:Bool
 pt:Prt
noncomputable def Lk.kind (l:Lk):Str:=match l.pt with
 | .way _ => "go"
 | .steps _ => if l.op then "open" else "replace"
noncomputable def Prt.d:Prt→D
 | .way k => .int k
 | .steps xs=>pl xs
noncomputable def lkD (l:Lk):D:=.tup [pl l.wh,.str l.wd,.str l.kind,l.pt.d]
noncomputable def Y0:Option Lk→D
 | none => .non
 | some l=>lkD l
theorem lk0 (l:Lk) (st:Sto):ixD (lkD l) (.int 0) st = .ok (pl l.wh) st:=rfl
theorem lk1 (l:Lk) (st:Sto):ixD (lkD l) (.int 1) st = .ok (.str l.wd) st:=rfl
theorem lk2 (l:Lk) (st:Sto):ixD (lkD l) (.int 2) st = .ok (.str l.kind) st:=rfl
theorem lk3 (l:Lk) (st:Sto):ixD (lkD l) (.int 3) st = .ok l.pt.d st:=rfl
noncomputable def Zj (ls:List Lk):D:=.tup (ls.map lkD)
theorem Zas (ls:List Lk) (st:Sto):itemsOf st (Zj ls)=some (ls.map lkD):=rfl
noncomputable def Z5 (p:List Str) (l:Lk):Bool:=decide (p.take l.wh.length=l.wh)
noncomputable def ZH (ls:List Lk) (p:List Str) (w:Str):Option Lk:=(ls.filter fun l=>decide (l.wd=w) && Z5 p l).head?
theorem ZmF (ls:List Lk) (hl:ls.length≤8) (p:List Str) (w:Str) (st:Sto):Qf [Zj ls,pl p,.str w] st = .ok (Y0 (ZH ls p w)) st:=by
 have e1:ZU (fun _=>True) (Zp 0) Zdb Zcj (ls.map lkD) [none,some (.str w),some (pl p)] st [] = .ok ((ls.filter fun l=>decide (l.wd=w) && Z5 p l).map lkD) st:=by
  rw [QM lkD (fun l=>decide (l.wd=w) && Z5 p l) lkD (fun ρ => ∃ a,ρ=[a,some (.str w),some (pl p)]) trivial ls _ [] ⟨_,rfl⟩ (by simp; exact Yx (by omega))]
  ·simp
  ·rintro l hm ρ ⟨a,rfl⟩
   refine ⟨_,rfl,⟨_,rfl⟩,?_,fun _ => ?_⟩
   ·have q1:=lk1 l st
    have q0:=lk0 l st
    have q2:=WD l.wd w st
    have q3:=ZbF l.wh st
    have q4:=ZeR p none (some (l.wh.length:Int)) st
    rw [ZdD] at q4
    have q5:=Zgz (p.take l.wh.length) l.wh st
    unfold Zdb Z5
    by_cases h:l.wd=w
    ·rw [decide_eq_true h] at q2 ⊢
     simp [q0,q1,q2,q3,q4,q5]
    ·rw [decide_eq_false h] at q2 ⊢
     simp [q1,q2]
   ·unfold Zcj
    simp
 generalize hF:(ls.filter fun l=>decide (l.wd=w) && Z5 p l)=F at e1
 have hFl:F.length≤8:=by
  rw [← hF]
  exact Nat.le_trans (List.length_filter_le _ _) hl
 have e2:Zat (.lst (F.map lkD)) (.lst [.non]) st = .ok (F.map lkD++[.non]) st:=by
  have h:(F.map lkD).length+[D.non].length≤small:=by
   rw [List.length_map]
   exact Yx (by simp; omega)
  simp only [Zat,Wf,if_pos h]
 have e3:ixD (.lst (F.map lkD++[.non])) (.int 0) st = .ok (Y0 (ZH ls p w)) st:=by
  unfold ZH
  rw [hF]
  cases F with
  | nil=>rfl
  | cons x xs =>
   have e:L2.atI (lkD x :: (xs.map lkD++[.non])) ((0:Nat):Int)=some (lkD x):=ZmX rfl
   have e':L2.atI (lkD x :: (xs.map lkD++[.non])) 0=some (lkD x):=e
   simp [ixD,itemsOf,ZS,e',Y0]
 have q:(1:Nat)≤small:=by decide
 unfold Qf Zem
 simp [Zas,Z6,e1,e2,e3,q]
theorem Ze0 (p:List Str) (w:Str) (ls0:List Lk) (st:Sto):∀ (ls:List Lk) (e:Option D),
  (∀ l,ZH ls p w=some l→Zz (fun _=>True) (Zp 3) Qg (ls.map lkD) [some (Zj ls0),some (pl p),some (.str w),e] st = .rt (lkD l) st) ∧
  (ZH ls p w=none→∃ e',Zz (fun _=>True) (Zp 3) Qg (ls.map lkD) [some (Zj ls0),some (pl p),some (.str w),e] st = .nx [some (Zj ls0),some (pl p),some (.str w),e'] st)
 | [],e=>⟨fun l h=>(by cases h),fun _=>⟨e,YU trivial⟩⟩
 | x :: xs,e=>by
  have ht:Zp 3 (lkD x) [some (Zj ls0),some (pl p),some (.str w),e]=some [some (Zj ls0),some (pl p),some (.str w),some (lkD x)]:=rfl
  have q0:=lk0 x st
  have q1:=lk1 x st
  have q2:=WD x.wd w st
  have q3:=Zdw p x.wh st
  have ih:=Ze0 p w ls0 st xs (some (lkD x))
  rw [List.map_cons]
  by_cases h:(decide (x.wd=w) && Z5 p x)=true
  ·have hv:ZH (x :: xs) p w=some x:=by
    unfold ZH
    rw [List.filter_cons,if_pos h]
    rfl
   rw [Bool.and_eq_true] at h
   have h2:decide (p.take x.wh.length=x.wh)=true:=h.2
   rw [h.1] at q2
   rw [h2] at q3
   have hb:Qg [some (Zj ls0),some (pl p),some (.str w),some (lkD x)] st = .rt (lkD x) st:=by
    unfold Qg
    simp [q0,q1,q2,q3]
   refine ⟨fun l hh => ?_,fun hh => ?_⟩
   ·rw [hv] at hh
    cases hh
    exact ZaM trivial ht hb
   ·rw [hv] at hh; cases hh
  ·have hv:ZH (x :: xs) p w=ZH xs p w:=by
    unfold ZH
    rw [List.filter_cons,if_neg h]
   have hb:Qg [some (Zj ls0),some (pl p),some (.str w),some (lkD x)] st = .nx [some (Zj ls0),some (pl p),some (.str w),some (lkD x)] st:=by
    unfold Qg
    by_cases h1:x.wd=w
    ·rw [decide_eq_true h1] at q2
     have h2:decide (p.take x.wh.length=x.wh)=false:=by
      rw [decide_eq_true h1,Bool.true_and] at h
      exact Bool.eq_false_iff.mpr h
     rw [h2] at q3
     simp [q0,q1,q2,q3]
    ·rw [decide_eq_false h1] at q2
     simp [q1,q2]
   rw [hv,Yo trivial ht hb]
   exact ih
theorem Zlv (ls:List Lk) (p:List Str) (w:Str) (st:Sto):QT [Zj ls,pl p,.str w] st = .ok (Y0 (ZH ls p w)) st:=by
 have h:=Ze0 p w ls st ls none
 unfold QT ZfX
 cases hv:ZH ls p w with
 | some l =>
  have e:=h.1 l hv
  simp [Zas,e,Y0]
 | none =>
  obtain ⟨e',e⟩:=h.2 hv
  simp [Zas,e,Y0]
noncomputable def YT (ls:List Lk) (p:List Str):List Str:=SO.srtS (ddS ((ls.filter (Z5 p)).map (·.wd)))
theorem Zkl {ls:List Lk} {p:List Str} {w:Str} (h:w∈YT ls p):∃ l,ZH ls p w=some l∧l∈ls:=by
 have h1:=(SO.srtS_perm _).mem_iff.mp h
 rw [Qd] at h1
 obtain ⟨l,h2,h3⟩:=List.mem_map.mp h1
 obtain ⟨h4,h5⟩:=List.mem_filter.mp h2
 have h6:l∈ls.filter fun l=>decide (l.wd=w) && Z5 p l:=List.mem_filter.mpr ⟨h4,by rw [h5,decide_eq_true h3]; rfl⟩
 unfold ZH
 cases hf:ls.filter fun l=>decide (l.wd=w) && Z5 p l with
 | nil=>rw [hf] at h6; cases h6
 | cons x xs =>
  refine ⟨x,rfl,?_⟩
  have:x∈ls.filter fun l=>decide (l.wd=w) && Z5 p l:=by rw [hf]; exact List.mem_cons_self
  exact (List.mem_filter.mp this).1
theorem ZfY (ls:List Lk) (p:List Str):(YT ls p).length≤ls.length:=by
 unfold YT
 rw [(SO.srtS_perm _).length_eq]
 refine Nat.le_trans (ZaP _) ?_
 rw [List.length_map]
 exact List.length_filter_le _ _
theorem Zh5 {ls:List Lk} {p:List Str} {w:Str} {l:Lk} (h:ZH ls p w=some l):l∈ls:=by
 unfold ZH at h
 exact (List.mem_filter.mp (List.mem_of_mem_head? h)).1
theorem ZfQ (ss:List Str) (hs:ss.length<64) (st:Sto):QX [.lst (ss.map .str)] st = .ok ((SO.srtS (ddS ss)).map .str) st:=by
 simp only [QX,ZS,Zc6,if_pos hs]
theorem Zmg (ls:List Lk) (hl:ls.length≤8) (p:List Str) (st:Sto):Q5 [Zj ls,pl p] st = .ok (.lst ((YT ls p).map .str)) st:=by
 have e1:ZU (fun _=>True) (Zp 0) Zde ZbX (ls.map lkD) [none,some (pl p)] st [] = .ok ((ls.filter (Z5 p)).map fun l => .str l.wd) st:=by
  rw [QM lkD (Z5 p) (fun l => .str l.wd) (fun ρ => ∃ a,ρ=[a,some (pl p)]) trivial ls _ [] ⟨_,rfl⟩ (by simp; exact Yx (by omega))]
  ·simp
  ·rintro l hm ρ ⟨a,rfl⟩
   refine ⟨_,rfl,⟨_,rfl⟩,?_,fun _ => ?_⟩
   ·have q0:=lk0 l st
    have q3:=Zdw p l.wh st
    unfold Zde Z5
    simp [q0,q3]
   ·unfold ZbX
    simp [lk1 l st]
 have hm:(ls.filter (Z5 p)).map (fun l=>D.str l.wd)=((ls.filter (Z5 p)).map (·.wd)).map D.str:=by simp
 rw [hm] at e1
 have e2:=ZfQ ((ls.filter (Z5 p)).map (·.wd)) (by
  rw [List.length_map]
  have:=List.length_filter_le (Z5 p) ls
  omega) st
 unfold Q5 ZdP
 simp only [List.map_map] at e1 e2
 simp [Zas,Z6,e1,e2]
 rfl
noncomputable def ZJ (l:Lk) (p:List Str):Option (List Str):=match l.pt with
 | .way _=>none
 | .steps xs=>ZM p xs
theorem ZkA (l:Lk) (p:List Str) (hp:p.length≤6) (st:Sto):∃ st',Ql [lkD l,pl p] st = .ok (Zy (ZJ l p)) st'∧StoK st st':=by
 have q2:=lk2 l st
 have q3:=lk3 l st
 cases h:l.pt with
 | way k =>
  have hk : l.kind = "go" := by unfold Lk.kind; rw [h]
  have hg:ZJ l p=none:=by unfold ZJ; rw [h]
  have q4 := WD "go" "go" st
  rw [hk] at q2
  rw [decide_eq_true rfl] at q4
  refine ⟨st,?_,StoK.refl _⟩
  rw [hg]
  unfold Ql Zb1
  simp [q2,q4,Zy]
 | steps xs =>
  have hk : l.kind ≠ "go" := by
   unfold Lk.kind
   rw [h]
   cases l.op <;> simp <;> decide
  have hg:ZJ l p=ZM p xs:=by unfold ZJ; rw [h]
  have q4 := WD l.kind "go" st
  rw [decide_eq_false hk] at q4
  rw [h] at q3
  obtain ⟨st',e,k⟩:=ZiW p xs hp st
  refine ⟨st',?_,k⟩
  rw [hg]
  unfold Ql Zb1
  simp [q2,q3,q4,Prt.d,e]
theorem QZ {f:D→D→Option Bool}:∀ xs:List D,(∀ x∈xs,f x x=some true)→ZZ f xs xs=some true
 | [],_=>rfl
 | x :: xs,h=>by rw [ZZ,h x List.mem_cons_self,QZ xs fun y hy=>h y (List.mem_cons_of_mem _ hy)]; rfl
theorem Zhj {st:Sto} {a b:D} {X:List D} (ha:kd st a = .lst X) (hb:kd st b = .lst X) (hn:∀ x∈X,nice 49 x=true):eqN st depth a b=some true:=by
 show eqN st (49+1) a b=some true
 unfold eqN
 rw [ha,hb]
 exact QZ X fun x hx=>by rw [WY st 49 x x (hn x hx) (hn x hx)]; simp
theorem ZlR {st:Sto} {a b:D} {X:List D} (ha:kd st a = .lst X) (hb:kd st b = .lst X) (hn:∀ x∈X,nice 49 x=true):neD a b st = .ok (.bl false) st:=by
 unfold neD
 rw [Zhj ha hb hn]
 rfl
theorem Zi4 {st:Sto} {u:Nat} {ds:List D} (h:st[u]?=some (.lst ds)):kd st (.res u) = .lst ds:=by simp [kd,h]
noncomputable def Wm (ls:List Lk) (p:List Str) (w:Str):List D:=match ZH ls p w with
 | some l=>match ZJ l p with
  | some g=>[.tup [.str w,pl g]]
  | none=>[]
 | none=>[]
noncomputable def Zar (ls:List Lk) (p:List Str) (ws:List Str):List D:=ws.flatMap (Wm ls p)
theorem ZjO (ls:List Lk) (p:List Str) (w:Str):(Wm ls p w).length≤1:=by
 unfold Wm
 split
 ·split
  ·exact Nat.le_refl _
  ·exact Nat.zero_le _
 ·exact Nat.zero_le _
theorem Zco (o:Option (List Str)) (st:Sto):Yf (Zy o) .non st = .ok (.bl o.isSome) st:=by cases o <;> rfl
theorem Zj1 (o:Option (List Str)) (st:Sto):isD (Zy o) .non st = .ok (.bl o.isNone) st:=by cases o <;> rfl
theorem ZdQ {chk:Sto→Prop} (hchk:∀ st,chk st) (ls:List Lk) (p:List Str) (hp:p.length≤6) (r:Nat) (st0:Sto) (hr:st0.length≤r):∀ (ws:List Str) (a b:Option D) (acc:List D) (st:Sto),(∀ w∈ws,∃ l,ZH ls p w=some l)→acc.length+ws.length≤100→st[r]?=some (.lst acc)→StoK st0 st →
  ∃ a' b' st',Zz chk (Zp 3) Zax (ws.map .str) [some (Zj ls),some (pl p),some (.res r),a,b] st = .nx [some (Zj ls),some (pl p),some (.res r),a',b'] st'∧st'[r]?=some (.lst (acc++Zar ls p ws))∧StoK st0 st'
 | [],a,b,acc,st,_,_,h,hk=>⟨a,b,st,YU (hchk st),by simpa [Zar] using h,hk⟩
 | w :: ws,a,b,acc,st,hw,hl,h,hk=>by
  obtain ⟨l,hl1⟩:=hw w List.mem_cons_self
  have ht:Zp 3 (.str w) [some (Zj ls),some (pl p),some (.res r),a,b]=some [some (Zj ls),some (pl p),some (.res r),some (.str w),b]:=rfl
  have e1:=Zlv ls p w st
  rw [hl1] at e1
  obtain ⟨st1,e2,k1⟩:=ZkA l p hp st
  have h1:=k1.fr _ _ h
  have e3:=Zco (ZJ l p) st1
  have hs:Wm ls p w=match ZJ l p with | some g=>[.tup [.str w,pl g]] | none=>[]:=by unfold Wm; rw [hl1]
  have hb:∃ st2,Zax [some (Zj ls),some (pl p),some (.res r),some (.str w),b] st = .nx [some (Zj ls),some (pl p),some (.res r),some (.str w),some (Zy (ZJ l p))] st2∧st2[r]?=some (.lst (acc++Wm ls p w))∧StoK st0 st2:=by
   cases hg:ZJ l p with
   | none =>
    rw [hg] at e2 e3 hs
    refine ⟨st1,?_,by rw [hs]; simpa using h1,hk.trans k1⟩
    unfold Zax
    simp [e1,Y0,e2,e3]
   | some g =>
    rw [hg] at e2 e3 hs
    have q2:(2:Nat)≤small:=by decide
    have e4:=Zcz (ρ:=[some (Zj ls),some (pl p),some (.res r),some (.str w),some (pl g)]) (st:=st1) (j:=2) (i:=r) (xs:=acc) (f:=Z4 (Zc (Za 3) (Zc (Za 4) Zf))) (d:=.tup [.str w,pl g]) rfl h1 (by simp [q2]) (Nat.lt_of_lt_of_le (by simp at hl; omega) (Yx (n:=100) (by omega)))
    refine ⟨st1.set r (.lst (acc++[.tup [.str w,pl g]])),?_,by rw [hs]; exact Q1 h1,(hk.trans k1).set hr _⟩
    have e3':Yf (pl g) .non st1 = .ok (.bl true) st1:=rfl
    unfold Zax
    simp [e1,Y0,e2,e3',Zy,e4]
  obtain ⟨st2,hb,h2,k2⟩:=hb
  have hsl:=ZjO ls p w
  obtain ⟨a',b',st',e5,h5,k5⟩:=ZdQ hchk ls p hp r st0 hr ws (some (.str w)) (some (Zy (ZJ l p))) (acc++Wm ls p w) st2 (fun x hx=>hw x (List.mem_cons_of_mem _ hx)) (by simp at hl ⊢; omega) h2 k2
  refine ⟨a',b',st',?_,?_,k5⟩
  ·rw [List.map_cons,Yo (hchk st) ht hb]
   exact e5
  ·rw [h5]
   simp [Zar]
theorem ZiO (l : Lk) (p : List Str) (hp : p.length ≤ 6) {ρ : Ev} {st : Sto} {j k : Nat} (h8 : ρ[j]? = some (some (pl p))) (h14 : ρ[k]? = some (some (lkD l))) : ∃ st', Yg (dB (Ze neD (Ze ixD (Za k) (dC (.int 2))) (dC (.str "go")))) (dB (Ze Yf (Zk Wl (Zc (Za j) (Zc (Ze ixD (Za k) (dC (.int 3))) Zf))) (dC .non))) ρ st = .ok (ZJ l p).isSome st' ∧ StoK st st' := by
 have q2:=lk2 l st
 have q3:=lk3 l st
 cases h:l.pt with
 | way z =>
  have hk : l.kind = "go" := by unfold Lk.kind; rw [h]
  have hg:ZJ l p=none:=by unfold ZJ; rw [h]
  have q4 := Za8 "go" "go" st
  rw [hk] at q2
  rw [decide_eq_true rfl] at q4
  refine ⟨st,?_,StoK.refl _⟩
  rw [hg]
  simp [h14,q2,q4]
 | steps xs =>
  have hk : l.kind ≠ "go" := by
   unfold Lk.kind
   rw [h]
   cases l.op <;> simp <;> decide
  have hg:ZJ l p=ZM p xs:=by unfold ZJ; rw [h]
  have q4 := Za8 l.kind "go" st
  rw [decide_eq_false hk] at q4
  rw [h] at q3
  obtain ⟨st',e,k⟩:=Zgl p xs hp st
  have e3:=Zco (ZM p xs) st'
  refine ⟨st',?_,k⟩
  rw [hg]
  simp [h14,h8,q2,q3,q4,Prt.d,e,e3]
noncomputable def abW (w : Str) : Prop := w = "a" ∨ w = "b"
noncomputable def Few (l : Lk) : Prop := (l.wh.length ≤ 2 ∧ ∀ w ∈ l.wh, abW w) ∧ ∀ xs, l.pt = .steps xs → xs.length ≤ 2 ∧ ∀ x ∈ xs, abW x ∨ x = ".." ∨ x = "."
theorem ZbL (i : Int) (st : Sto) (h0 : 0 ≤ i) (h1 : i < 2) : ∃ w, ixD (.str "ab") (.int i) st = .ok (.str w) st ∧ abW w := by
 have:i=0∨i=1:=by omega
 rcases this with rfl | rfl
 ·exact ⟨"a", rfl, .inl rfl⟩
 ·exact ⟨"b", rfl, .inr rfl⟩
theorem Zbg {xs:List D} {i:Int} (h0:0≤i) (h1:i<xs.length) (st:Sto):∃ d∈xs,ixD (.lst xs) (.int i) st = .ok d st:=by
 have hi:i.toNat<xs.length:=by omega
 refine ⟨xs[i.toNat],List.getElem_mem hi,?_⟩
 have e:L2.atI xs i=some xs[i.toNat]:=by
  unfold L2.atI L2.ixN
  rw [if_pos h0,if_pos h1]
  simp only [Option.bind_some]
  exact List.getElem?_eq_getElem hi
 simp only [ixD,itemsOf,ZS,e]
noncomputable def Zc0 (l : Lk) : Prop := l.wd = "up" ∨ l.wd = "in" ∨ l.wd = "on" ∨ l.wd = "go"
theorem Zm7 (ns:List Int) (hl:ns.length≤63) (at_:Int) (j:Nat) (ls:List Lk) (hls:ls.length≤8) (c4 c5 c6 c7 c8 c9:Option D) (st:Sto):∃ l d4 d5 d6 d7 d8 d9,QO [some (.scr (ns.map .int)),some (.int at_),some (Zj ls),some (.int j),c4,c5,c6,c7,c8,c9] st = .nx [some (.scr (ns.map .int)),some (.int at_),some (Zj (ls++[l])),some (.int j),d4,d5,d6,d7,d8,d9] st∧Few l∧Zc0 l:=by
 obtain ⟨h,hh⟩:∃ h:Int,h=at_+1+12 * (j:Int):=⟨_,rfl⟩
 have m1:=Qb 12 (j:Int) st (QW 12 (j:Int) (by decide) (by decide))
 have q1:(1:Nat)≤small:=by decide
 have q2:(2:Nat)≤small:=by decide
 have q4:(4:Nat)≤small:=by decide
 have q6:(6:Nat)≤small:=by decide
 have d1:=Wz ns hl h 4 (by decide) st
 obtain ⟨dw, hdw, x1⟩ := Zbg (xs := [.str "up", .str "in", .str "on", .str "go"]) (Y9 ns h 4 (by decide)) (Y6 ns h 4 (by decide)) st
 obtain ⟨w, rfl, hwd⟩ : ∃ w : Str, dw = .str w ∧ (w = "up" ∨ w = "in" ∨ w = "on" ∨ w = "go") := by
  simp only [List.mem_cons,List.not_mem_nil,or_false] at hdw
  rcases hdw with rfl | rfl | rfl | rfl
  ·exact ⟨_,rfl,.inl rfl⟩
  ·exact ⟨_,rfl,.inr (.inl rfl)⟩
  ·exact ⟨_,rfl,.inr (.inr (.inl rfl))⟩
  ·exact ⟨_,rfl,.inr (.inr (.inr rfl))⟩
 have r1:=Y9 ns (h+3) 3 (by decide)
 have r2:=Y6 ns (h+3) 3 (by decide)
 have g1:WC (Z2 ns (h+3) 3)=true:=Zdd (by omega) (by omega)
 have d4:=Wz ns hl (h+3) 3 (by decide) st
 have hch : ∀ i : Nat, ∃ w, ixD (.str "ab") (.int (Z2 ns (h + 4 + (i : Int)) 2)) st = .ok (.str w) st ∧ abW w := fun i => ZbL _ st (Y9 ns (h + 4 + (i : Int)) 2 (by decide)) (Y6 ns (h + 4 + (i : Int)) 2 (by decide))
 obtain ⟨f, hf⟩ : ∃ f : Nat → Str, ∀ i : Nat, ixD (.str "ab") (.int (Z2 ns (h + 4 + (i : Int)) 2)) st = .ok (.str (f i)) st ∧ abW (f i) := ⟨fun i => Classical.choose (hch i), fun i => Classical.choose_spec (hch i)⟩
 have e2:ZU (fun _=>True) (Zp 0) YZ Zdi ((List.range (Z2 ns (h+3) 3).toNat).map (fun (i:Nat)=>D.int (0+i))) [none,some (.scr (ns.map .int)),some (.int h)] st [] = .ok ((List.range (Z2 ns (h+3) 3).toNat).map fun i=>D.str (f i)) st:=by
  rw [Zbl (fun (i:Nat)=>D.int (0+i)) (fun i=>D.str (f i)) (fun ρ => ∃ a,ρ=[a,some (.scr (ns.map .int)),some (.int h)]) trivial _ _ _ ⟨_,rfl⟩ (by simp only [List.length_nil,List.length_range,Nat.zero_add]; exact Yx (by omega))]
  ·rfl
  ·rintro i _ ρ ⟨a,rfl⟩
   refine ⟨_,rfl,⟨_,rfl⟩,?_⟩
   have e3:=Wz ns hl (h+4+(i:Int)) 2 (by decide) st
   have e4:=(hf i).1
   unfold Zdi
   simp [ZaA,e3,e4]
 obtain ⟨wh,hwh⟩:∃ wh:List Str,wh=(List.range (Z2 ns (h+3) 3).toNat).map f:=⟨_,rfl⟩
 have ewh:((List.range (Z2 ns (h+3) 3).toNat).map fun i=>D.str (f i))=wh.map D.str:=by rw [hwh,List.map_map]; rfl
 rw [ewh] at e2
 have hw1:wh.length≤2:=by rw [hwh]; simp; omega
 have hw2:∀ x∈wh,abW x:=fun x hx=>by
  rw [hwh] at hx
  obtain ⟨i,_,rfl⟩:=List.mem_map.mp hx
  exact (hf i).2
 have hdn : ∃ dn, ixD (.str "ab") (.int (if (wh.length : Int) = 2 then 1 else 0)) st = .ok (.str dn) st ∧ abW dn := by
  by_cases c:(wh.length:Int)=2
  ·rw [if_pos c]; exact ZbL 1 st (by decide) (by decide)
  ·rw [if_neg c]; exact ZbL 0 st (by decide) (by decide)
 obtain ⟨dn,xd,hdn⟩:=hdn
 have l6:=ZbF wh st
 have eq2:=Zbs (wh.length:Int) 2 st
 have i2:intD [.bl (decide ((wh.length:Int)=2))] st = .ok (.int (if (wh.length:Int)=2 then 1 else 0)) st:=by
  by_cases c:(wh.length:Int)=2
  ·rw [decide_eq_true c,if_pos c]; rfl
  ·rw [decide_eq_false c,if_neg c]; rfl
 have d5:=Wz ns hl (h+1) 6 (by decide) st
 obtain ⟨ds, hds, x3⟩ := Zbg (xs := [pl ["a"], pl [dn], pl [".."], pl ["..", "a"], pl ["."], pl ["..", ".."]]) (Y9 ns (h + 1) 6 (by decide)) (Y6 ns (h + 1) 6 (by decide)) st
 obtain ⟨sp, rfl, hsp⟩ : ∃ sp : List Str, ds = pl sp ∧ sp.length ≤ 2 ∧ ∀ x ∈ sp, abW x ∨ x = ".." ∨ x = "." := by
  simp only [List.mem_cons,List.not_mem_nil,or_false] at hds
  rcases hds with rfl | rfl | rfl | rfl | rfl | rfl
  ·exact ⟨_,rfl,by simp,fun x hx => .inl (.inl (by simpa using hx))⟩
  ·exact ⟨_,rfl,by simp,fun x hx => .inl (by rw [List.mem_singleton.mp hx]; exact hdn)⟩
  ·exact ⟨_,rfl,by simp,fun x hx => .inr (.inl (by simpa using hx))⟩
  ·refine ⟨_,rfl,by simp,fun x hx => ?_⟩
   simp only [List.mem_cons,List.not_mem_nil,or_false] at hx
   rcases hx with rfl | rfl
   ·exact .inr (.inl rfl)
   ·exact .inl (.inl rfl)
  ·exact ⟨_,rfl,by simp,fun x hx => .inr (.inr (by simpa using hx))⟩
  ·refine ⟨_,rfl,by simp,fun x hx => ?_⟩
   simp only [List.mem_cons,List.not_mem_nil,or_false] at hx
   rcases hx with rfl | rfl <;> exact .inr (.inl rfl)
 have d6:=Wz ns hl (h+2) 4 (by decide) st
 obtain ⟨dk, hdk, x4⟩ := Zbg (xs := [.str "open", .str "open", .str "replace", .str "go"]) (Y9 ns (h + 2) 4 (by decide)) (Y6 ns (h + 2) 4 (by decide)) st
 have hk : (∃ op : Bool, dk = .str (if op then "open" else "replace")) ∨ dk = .str "go" := by
  simp only [List.mem_cons,List.not_mem_nil,or_false] at hdk
  rcases hdk with rfl | rfl | rfl | rfl
  ·exact .inl ⟨true,rfl⟩
  ·exact .inl ⟨true,rfl⟩
  ·exact .inl ⟨false,rfl⟩
  ·exact .inr rfl
 have ea:∀ l:Lk,ZG (Zj ls) (.tup [lkD l]) st = .ok (Zj (ls++[l])) st:=fun l=>by
  have hz:(ls.map lkD).length+[lkD l].length≤small:=Yx (by simp; omega)
  simp only [Zj,ZG,if_pos hz]
  simp
 simp only [Int.zero_add] at e2
 rcases hk with ⟨op,rfl⟩ | rfl
 ·refine ⟨⟨wh, w, op, .steps sp⟩, some (.int h), some (.str w), some (pl wh), some (.tup [.str dn]), some (pl sp), some (.str (if op then "open" else "replace")), ?_, ⟨⟨hw1, hw2⟩, fun xs hx => by cases hx; exact hsp⟩, hwd⟩
  have q := WD (if op then "open" else "replace") "go" st
  have hne : ¬ ((if op then ("open" : Str) else "replace") = "go") := by cases op <;> decide
  rw [decide_eq_false hne] at q
  have i0:intD [.bl false] st = .ok (.int 0) st:=rfl
  have i1:ixD (.lst [pl sp,.int (-1)]) (.int 0) st = .ok (pl sp) st:=rfl
  have ea' : ZG (Zj ls) (.tup [.tup [pl wh, .str w, .str (if op then "open" else "replace"), pl sp]]) st = .ok (Zj (ls ++ [⟨wh, w, op, .steps sp⟩])) st := ea ⟨wh, w, op, .steps sp⟩
  have x3' : ixD (.lst [.tup [.str "a"], .tup [.str dn], .tup [.str ".."], .tup [.str "..", .str "a"], .tup [.str "."], .tup [.str "..", .str ".."]]) (.int (Z2 ns (h + 1) 6)) st = .ok (pl sp) st := x3
  generalize (if op then ("open" : Str) else "replace") = kk at *
  have tl:YN [.lst (wh.map D.str)] st = .ok (pl wh) st:=rfl
  unfold QO
  simp [m1,ZaA,← hh,q1,q2,q4,q6,d1,x1,d4,g1,Wg,Z6,e2,tl,l6,eq2,i2,xd,d5,x3',d6,x4,q,i0,i1,ea']
 ·refine ⟨⟨wh, w, true, .way (-1)⟩, some (.int h), some (.str w), some (pl wh), some (.tup [.str dn]), some (pl sp), some (.str "go"), ?_, ⟨⟨hw1, hw2⟩, fun xs hx => by cases hx⟩, hwd⟩
  have q := WD "go" "go" st
  rw [decide_eq_true rfl] at q
  have i0:intD [.bl true] st = .ok (.int 1) st:=rfl
  have i1:ixD (.lst [pl sp,.int (-1)]) (.int 1) st = .ok (.int (-1)) st:=rfl
  have ea' : ZG (Zj ls) (.tup [.tup [pl wh, .str w, .str "go", .int (-1)]]) st = .ok (Zj (ls ++ [⟨wh, w, true, .way (-1)⟩])) st := ea ⟨wh, w, true, .way (-1)⟩
  have x3' : ixD (.lst [.tup [.str "a"], .tup [.str dn], .tup [.str ".."], .tup [.str "..", .str "a"], .tup [.str "."], .tup [.str "..", .str ".."]]) (.int (Z2 ns (h + 1) 6)) st = .ok (pl sp) st := x3
  have tl:YN [.lst (wh.map D.str)] st = .ok (pl wh) st:=rfl
  unfold QO
  simp [m1,ZaA,← hh,q1,q2,q4,q6,d1,x1,d4,g1,Wg,Z6,e2,tl,l6,eq2,i2,xd,d5,x3',d6,x4,q,i0,i1,ea']
theorem Zil (ns:List Int) (hl:ns.length≤63) (at_:Int) (st:Sto):∃ ls,W9 [.scr (ns.map .int),.int at_] st = .ok (Zj ls) st∧ls.length≤5∧(∀ l∈ls,Few l)∧∀ l∈ls,Zc0 l:=by
 have d1:=Wz ns hl at_ 6 (by decide) st
 have r1:=Y9 ns at_ 6 (by decide)
 have r2:=Y6 ns at_ 6 (by decide)
 have g1:WC (Z2 ns at_ 6)=true:=Zdd (by omega) (by omega)
 obtain ⟨ρ1,st1,f1,⟨rfl,ls,c3,c4,c5,c6,c7,c8,c9,rfl,hn,hok⟩⟩:=Zll (chk:=fun _=>True) (t:=Zp 3) (g:=QO) (f:=fun (i:Nat)=>D.int (0+i))
  (fun j ρ st'=>st'=st∧∃ ls c3 c4 c5 c6 c7 c8 c9,ρ=[some (.scr (ns.map .int)),some (.int at_),some (Zj ls),c3,c4,c5,c6,c7,c8,c9]∧ls.length=j∧∀ l∈ls,Few l∧Zc0 l) (fun _ _ _ _=>trivial) (Z2 ns at_ 6).toNat
  (by
   rintro j hj ρ st' ⟨rfl,ls,c3,c4,c5,c6,c7,c8,c9,rfl,hn,hok⟩
   obtain ⟨l,d4,d5,d6,d7,d8,d9,e,ol⟩:=Zm7 ns hl at_ j ls (by omega) c4 c5 c6 c7 c8 c9 st'
   refine ⟨[some (.scr (ns.map .int)),some (.int at_),some (Zj ls),some (.int j),c4,c5,c6,c7,c8,c9],_,st',?_,e,rfl,_,_,_,_,_,_,_,_,rfl,by simp [hn],fun x hx => ?_⟩
   ·rw [Int.zero_add]
    rfl
   ·rcases List.mem_append.mp hx with h | h
    ·exact hok x h
    ·rw [List.mem_singleton.mp h]; exact ol) [some (.scr (ns.map .int)),some (.int at_),some (Zj []),none,none,none,none,none,none,none] st ⟨rfl,[],none,none,none,none,none,none,none,rfl,rfl,fun x hx=>by cases hx⟩
 refine ⟨ls,?_,by omega,fun l hm=>(hok l hm).1,fun l hm=>(hok l hm).2⟩
 simp only [Int.zero_add] at f1
 have f1':Zz (fun _=>True) (Zp 3) QO ((List.range (Z2 ns at_ 6).toNat).map fun (i:Nat)=>D.int i) [some (.scr (ns.map .int)),some (.int at_),some (.tup []),none,none,none,none,none,none,none] st1 = .nx [some (.scr (ns.map .int)),some (.int at_),some (Zj ls),c3,c4,c5,c6,c7,c8,c9] st1:=f1
 unfold W9 ZdS
 simp [d1,g1,Wg,f1']
theorem WM {st:Sto} {r:Nat} {f:List Str→D} {ks:List (List Str)} (hr:st[r]?=some (.dtt (dpl f ks))) (g:List Str):dAt st (.res r) (pl g)=some (if g∈ks then some (f g) else none):=by
 unfold dAt
 simp only [hr]
 rw [if_pos (by rw [Qt]; rfl),Zdl]
theorem Zi9 (c0 c1 c2 c4:Option D) (f:List Str→List Str) (ks F:List (List Str)) (p:List Str) (w:Str) (g:List Str) (hp:p∈ks) (hfp:(f p).length≤200) (hks:ks.length≤200) (hF:F.length≤200) (st:Sto) (r u:Nat) (hr:st[r]?=some (.dtt (dpl (fun q=>pl (f q)) ks))) (hu:st[u]?=some (.lst (F.map pl))) (hru:r≠u) :
  ZaB [c0,c1,c2,some (.res r),c4,some (.res u),some (pl p),some (.str w),some (pl g)] st = .nx [c0,c1,c2,some (.res r),c4,some (.res u),some (pl p),some (.str w),some (pl g)] (if g∈ks then st else (st.set r (.dtt (dpl (fun q=>pl (if q=g then f p++[w] else f q)) (ks++[g])))).set u (.lst ((F++[g]).map pl))):=by
 have e1:Ys (pl g) (.res r) st = .ok (.bl (!decide (g∈ks))) st:=by
  show YX (pl g) (.res r) st=_
  unfold YX
  rw [WM hr g]
  by_cases h:g∈ks <;> simp [h]
 by_cases h:g∈ks
 ·rw [decide_eq_true h] at e1
  rw [if_pos h]
  unfold ZaB
  simp [e1]
 ·rw [decide_eq_false h] at e1
  rw [if_neg h]
  have e2:dAt st (.res r) (pl p)=some (some (pl (f p))):=by rw [WM hr p,if_pos hp]
  have hr':r<st.length:=(List.getElem?_eq_some_iff.mp hr).1
  have e3:ZG (pl (f p)) (.tup [.str w]) st = .ok (pl (f p++[w])) st:=by
   have:=ZmK (f p) [w] st (Yx (by simp; omega))
   exact this
  have e4:Yz st (.res r) (pl g) (pl (f p++[w]))=some (st.set r (.dtt (dpl (fun q=>pl (if q=g then f p++[w] else f q)) (ks++[g])))):=by
   unfold Yz
   simp only [hr]
   rw [if_pos ⟨by rw [Qt]; rfl,by simp only [dpl,List.length_map]; exact Nat.lt_of_le_of_lt hks (by decide)⟩,Za6,if_neg h]
   congr 3
   congr 1
   funext q
   by_cases e:q=g <;> simp [e]
  have hu2:(st.set r (.dtt (dpl (fun q=>pl (if q=g then f p++[w] else f q)) (ks++[g]))))[u]?=some (.lst (F.map pl)):=by
   rw [List.getElem?_set_ne hru]; exact hu
  have q1:(1:Nat)≤small:=by decide
  have hFs:(F.map pl).length<small:=by rw [List.length_map]; exact Nat.lt_of_le_of_lt hF (by decide)
  have hFs':F.length<small:=by simpa using hFs
  generalize hst:st.set r (.dtt (dpl (fun q=>pl (if q=g then f p++[w] else f q)) (ks++[g])))=st2 at *
  unfold ZaB
  simp [e1,Zel,WB,e2,e3,e4,q1,Yv,hu2,hFs']
structure WS where
 f:List Str→List Str
 ks:List (List Str)
 F:List (List Str)
noncomputable def WS.add (p:List Str) (s:WS) (x:Str×List Str):WS:=if x.2∈s.ks then s else ⟨fun q=>if q=x.2 then s.f p++[x.1] else s.f q,s.ks++[x.2],s.F++[x.2]⟩
structure WAt (st:Sto) (r u:Nat) (s:WS):Prop where
 d:st[r]?=some (.dtt (dpl (fun q=>pl (s.f q)) s.ks))
 l:st[u]?=some (.lst (s.F.map pl))
theorem WS.add_f {p:List Str} {s:WS} (hp:p∈s.ks) (x:Str×List Str):p∈(s.add p x).ks∧(s.add p x).f p=s.f p:=by
 unfold WS.add
 by_cases h:x.2∈s.ks
 ·rw [if_pos h]; exact ⟨hp,rfl⟩
 ·rw [if_neg h]
  refine ⟨by simp [hp],?_⟩
  have:¬ p=x.2:=fun e=>h (e ▸ hp)
  simp [this]
theorem WS.add_len (p:List Str) (s:WS) (x:Str×List Str):(s.add p x).ks.length≤s.ks.length+1∧(s.add p x).F.length≤s.F.length+1:=by
 unfold WS.add
 by_cases h:x.2∈s.ks
 ·rw [if_pos h]; omega
 ·rw [if_neg h]; simp
theorem Zep (c0 c1 c2 c4:Option D) (p:List Str) (r u:Nat) (hru:r≠u) {chk:Sto→Prop} (st0:Sto) (hchk:∀ st,(∀ j,j≠r→j≠u→st[j]?=st0[j]?)→chk st):∀ (xs:List (Str×List Str)) (s:WS) (c7 c8:Option D) (st:Sto),p∈s.ks→(s.f p).length≤200→s.ks.length+xs.length≤200→s.F.length+xs.length≤200→WAt st r u s→(∀ j,j≠r→j≠u→st[j]?=st0[j]?) →
  ∃ c7' c8' st',Zz chk (Q7 [7,8]) ZaB (xs.map fun x=>D.tup [.str x.1,pl x.2]) [c0,c1,c2,some (.res r),c4,some (.res u),some (pl p),c7,c8] st = .nx [c0,c1,c2,some (.res r),c4,some (.res u),some (pl p),c7',c8'] st'∧WAt st' r u (xs.foldl (WS.add p) s)∧(∀ j,j≠r→j≠u→st'[j]?=st0[j]?)
 | [],s,c7,c8,st,hp,_,_,_,W,hj=>⟨c7,c8,st,YU (hchk st hj),W,hj⟩
 | x :: xs,s,c7,c8,st,hp,hf,hk,hF,W,hj=>by
  have e:=Zi9 c0 c1 c2 c4 s.f s.ks s.F p x.1 x.2 hp hf (by simp at hk; omega) (by simp at hF; omega) st r u W.d W.l hru
  obtain ⟨a1,a2⟩:=s.add_f hp x
  obtain ⟨b1,b2⟩:=s.add_len p x
  obtain ⟨st2,hst2⟩:∃ st2,st2=(if x.2∈s.ks then st else (st.set r (.dtt (dpl (fun q=>pl (if q=x.2 then s.f p++[x.1] else s.f q)) (s.ks++[x.2])))).set u (.lst ((s.F++[x.2]).map pl))):=⟨_,rfl⟩
  rw [← hst2] at e
  have hr':r<st.length:=(List.getElem?_eq_some_iff.mp W.d).1
  have hu':u<st.length:=(List.getElem?_eq_some_iff.mp W.l).1
  have W2:WAt st2 r u (s.add p x):=by
   unfold WS.add
   by_cases h:x.2∈s.ks
   ·rw [if_pos h] at hst2 ⊢
    rw [hst2]; exact W
   ·rw [if_neg h] at hst2 ⊢
    rw [hst2]
    constructor
    ·rw [List.getElem?_set_ne (Ne.symm hru),List.getElem?_set_self hr']
    ·rw [List.getElem?_set_self (by simpa using hu')]
  have hj2:∀ j,j≠r→j≠u→st2[j]?=st0[j]?:=fun j h1 h2=>by
   rw [hst2]
   by_cases h:x.2∈s.ks
   ·rw [if_pos h]; exact hj j h1 h2
   ·rw [if_neg h,List.getElem?_set_ne (Ne.symm h2),List.getElem?_set_ne (Ne.symm h1)]; exact hj j h1 h2
  obtain ⟨c7',c8',st',g1,g2,g3⟩:=Zep c0 c1 c2 c4 p r u hru st0 hchk xs (s.add p x) (some (.str x.1)) (some (pl x.2)) st2 a1 (by rw [a2]; exact hf) (by simp at hk; omega) (by simp at hF; omega) W2 hj2
  refine ⟨c7',c8',st',?_,g2,g3⟩
  rw [List.map_cons,Yo (hchk st hj) (ρ1:=[c0,c1,c2,some (.res r),c4,some (.res u),some (pl p),some (.str x.1),some (pl x.2)]) rfl e]
  exact g1
noncomputable def Yy (ls:List Lk) (p:List Str) (w:Str):List (Str×List Str):=match ZH ls p w with
 | some l=>match ZJ l p with
  | some g=>[(w,g)]
  | none=>[]
 | none=>[]
noncomputable def Zu (ls:List Lk) (p:List Str):List (Str×List Str):=(YT ls p).flatMap (Yy ls p)
theorem Zij (ls:List Lk) (p:List Str) (w:Str):Wm ls p w=(Yy ls p w).map fun x=>D.tup [.str x.1,pl x.2]:=by
 unfold Wm Yy
 cases ZH ls p w with
 | none=>rfl
 | some l =>
  dsimp only
  cases ZJ l p <;> rfl
theorem ZmO (ls:List Lk) (p:List Str):Zar ls p (YT ls p)=(Zu ls p).map fun x=>D.tup [.str x.1,pl x.2]:=by
 unfold Zar Zu
 rw [List.map_flatMap]
 congr 1
 funext w
 exact Zij ls p w
theorem Zek (ls:List Lk) (p:List Str):(Zu ls p).length≤ls.length:=by
 have h:∀ ws:List Str,(ws.flatMap (Yy ls p)).length≤ws.length:=by
  intro ws
  induction ws with
  | nil=>exact Nat.le_refl _
  | cons w ws ih =>
   rw [List.flatMap_cons,List.length_append,List.length_cons]
   have:(Yy ls p w).length≤1:=by
    unfold Yy
    cases ZH ls p w with
    | none=>simp
    | some l =>
     dsimp only
     cases ZJ l p <;> simp
   omega
 exact Nat.le_trans (h _) (ZfY ls p)
theorem Zd2 (ls:List Lk) (hl:ls.length≤8) (p:List Str) (hp:p.length≤6) (st:Sto):∃ st',Ww [Zj ls,pl p] st = .ok (.res st.length) st'∧st'[st.length]?=some (.lst ((Zu ls p).map fun x=>D.tup [.str x.1,pl x.2]))∧StoK st st':=by
 have hwl:=ZfY ls p
 obtain ⟨a',b',st',e,h,k⟩:=ZdQ (chk:=fun _=>True) (fun _=>trivial) ls p hp st.length st (Nat.le_refl _) (YT ls p) none none [] (st++[.lst []]) (fun w hw=>by
  obtain ⟨l,h1,_⟩:=Zkl hw
  exact ⟨l,h1⟩) (by simp; omega) (Qz _ _) (StoK.app _ _)
 have e1:=Zmg ls hl p (st++[.lst []])
 refine ⟨st',?_,by rw [← ZmO]; simpa using h,k⟩
 have ei:∀ st1,itemsOf st1 (.lst ((YT ls p).map D.str))=some ((YT ls p).map D.str):=fun _=>rfl
 have q:(0:Nat)≤small:=by decide
 unfold Ww Zdu
 generalize YT ls p=ws at *
 simp [e1,ei,e,q]
theorem Zjz (ls:List Lk) (hl:ls.length≤8) (c1 c2 c4:Option D) (p:List Str) (hp6:p.length≤6) (r u:Nat) (hru:r≠u) (s:WS) (c7 c8:Option D) (st:Sto) (hp:p∈s.ks) (hf:(s.f p).length≤200) (hk:s.ks.length≤190) (hF:s.F.length≤190) (W:WAt st r u s) :
  ∃ c7' c8' st',Q8 [some (Zj ls),c1,c2,some (.res r),c4,some (.res u),some (pl p),c7,c8] st = .nx [some (Zj ls),c1,c2,some (.res r),c4,some (.res u),some (pl p),c7',c8'] st'∧WAt st' r u ((Zu ls p).foldl (WS.add p) s)∧(∀ j x,j≠r→j≠u→st[j]?=some x→st'[j]?=some x):=by
 obtain ⟨st1,e1,h1,k1⟩:=Zd2 ls hl p hp6 st
 have hr':r<st.length:=(List.getElem?_eq_some_iff.mp W.d).1
 have hu':u<st.length:=(List.getElem?_eq_some_iff.mp W.l).1
 have hn:=Zek ls p
 have W1:WAt st1 r u s:=⟨k1.fr r _ W.d,k1.fr u _ W.l⟩
 have hit:∀ st2:Sto,(∀ j,j≠r→j≠u→st2[j]?=st1[j]?)→itemsOf st2 (.res st.length)=some ((Zu ls p).map fun x=>D.tup [.str x.1,pl x.2]):=fun st2 h2=>by
  have:=h2 st.length (by omega) (by omega)
  rw [h1] at this
  simp [itemsOf,ZS,this]
 obtain ⟨c7',c8',st',g1,g2,g3⟩:=Zep (some (Zj ls)) c1 c2 c4 p r u hru (chk:=fun st2=>itemsOf st2 (.res st.length)=some ((Zu ls p).map fun x=>D.tup [.str x.1,pl x.2])) st1 hit (Zu ls p) s c7 c8 st1 hp hf (by omega) (by omega) W1 fun _ _ _=>rfl
 refine ⟨c7',c8',st',?_,g2,fun j x h2 h3 h4=>by rw [g3 j h2 h3]; exact k1.fr j x h4⟩
 have i1:=hit st1 fun _ _ _=>rfl
 have hd:ZI (Zk Ww (Zc (Za 0) (Zc (Za 6) Zf))) [some (Zj ls),c1,c2,some (.res r),c4,some (.res u),some (pl p),c7,c8] st = .ok ((Zu ls p).map (fun x=>D.tup [.str x.1,pl x.2]),fun st2=>itemsOf st2 (.res st.length)=some ((Zu ls p).map fun x=>D.tup [.str x.1,pl x.2])) st1:=by
  simp [-List.map_map,e1,i1]
 unfold Q8
 rw [Zae,hd]
 exact g1
theorem WS.fold_ks {p:List Str}:∀ (xs:List (Str×List Str)) (s:WS) (q:List Str),q∈s.ks→q∈(xs.foldl (WS.add p) s).ks
 | [],_,_,h=>h
 | x :: xs,s,q,h=>by
  rw [List.foldl_cons]
  refine WS.fold_ks xs _ q ?_
  unfold WS.add
  by_cases c:x.2∈s.ks
  ·rw [if_pos c]; exact h
  ·rw [if_neg c]; simp [h]
noncomputable def Qn (ls:List Lk) (ring:List (List Str)) (s:WS):WS:=ring.foldl (fun s p=>(Zu ls p).foldl (WS.add p) s) s
theorem ZfE (ls:List Lk) (hl:ls.length≤8) (c1 c2 c4:Option D) (r u:Nat) (hru:r≠u) (G:WS→Prop) (hG:∀ s,G s→(∀ p∈s.ks,p.length≤6∧(s.f p).length≤200)∧s.ks.length≤190∧s.F.length≤190) (hadd:∀ s p,G s→p∈s.ks→G ((Zu ls p).foldl (WS.add p) s)) {chk:Sto→Prop} (st0:Sto) (hchk:∀ st,(∀ j x,j≠r→j≠u→st0[j]?=some x→st[j]?=some x)→chk st) :
  ∀ (ring:List (List Str)) (s:WS) (c6 c7 c8:Option D) (st:Sto),G s→(∀ p∈ring,p∈s.ks)→WAt st r u s→(∀ j x,j≠r→j≠u→st0[j]?=some x→st[j]?=some x) →
  ∃ c6' c7' c8' st',Zz chk (Zp 6) Q8 (ring.map pl) [some (Zj ls),c1,c2,some (.res r),c4,some (.res u),c6,c7,c8] st = .nx [some (Zj ls),c1,c2,some (.res r),c4,some (.res u),c6',c7',c8'] st'∧WAt st' r u (Qn ls ring s)∧G (Qn ls ring s)∧(∀ j x,j≠r→j≠u→st0[j]?=some x→st'[j]?=some x)
 | [],s,c6,c7,c8,st,g,_,W,hj=>⟨c6,c7,c8,st,YU (hchk st hj),W,g,hj⟩
 | p :: ring,s,c6,c7,c8,st,g,hr,W,hj=>by
  have hp:=hr p (List.mem_cons_self ..)
  obtain ⟨b1,b2,b3⟩:=hG s g
  obtain ⟨c7',c8',st1,e1,W1,k1⟩:=Zjz ls hl c1 c2 c4 p (b1 p hp).1 r u hru s c7 c8 st hp (b1 p hp).2 b2 b3 W
  obtain ⟨d6,d7,d8,st2,e2,W2,g2,k2⟩:=ZfE ls hl c1 c2 c4 r u hru G hG hadd st0 hchk ring _ (some (pl p)) c7' c8' st1 (hadd s p g hp) (fun q hq=>WS.fold_ks _ s q (hr q (List.mem_cons_of_mem _ hq))) W1 fun j x h1 h2 h3=>k1 j x h1 h2 (hj j x h1 h2 h3)
  refine ⟨d6,d7,d8,st2,?_,W2,g2,k2⟩
  rw [List.map_cons,Yo (hchk st hj) (ρ1:=[some (Zj ls),c1,c2,some (.res r),c4,some (.res u),some (pl p),c7,c8]) rfl e1]
  exact e2
theorem ZhJ (ls:List Lk) (hl:ls.length≤8) (c1 c2:Option D) (r:Nat) (G:WS→Prop) (hG:∀ s,G s→(∀ p∈s.ks,p.length≤6∧(s.f p).length≤200)∧s.ks.length≤190∧s.F.length≤190) (hadd:∀ s p,G s→p∈s.ks→G ((Zu ls p).foldl (WS.add p) s))
  (f:List Str→List Str) (ks ring:List (List Str)) (dr:D) (c5 c6 c7 c8:Option D) (st:Sto) (hr:st[r]?=some (.dtt (dpl (fun q=>pl (f q)) ks))) (hdr:∀ st':Sto,(∀ j x,j≠r→j≠st.length→st[j]?=some x→st'[j]?=some x)→itemsOf st' dr=some (ring.map pl)) (g:G ⟨f,ks,[]⟩) (hring:∀ p∈ring,p∈ks) :
  ∃ c6' c7' c8' st',(Zl (Yj 5 (ZL Zf)) (Zl (Yc (ZI (Za 4)) (Zp 6) Q8) (Zw 4 (Za 5)))) [some (Zj ls),c1,c2,some (.res r),some dr,c5,c6,c7,c8] st = .nx [some (Zj ls),c1,c2,some (.res r),some (.res st.length),some (.res st.length),c6',c7',c8'] st'∧WAt st' r st.length (Qn ls ring ⟨f,ks,[]⟩)∧G (Qn ls ring ⟨f,ks,[]⟩)∧(∀ j x,j≠r→st[j]?=some x→st'[j]?=some x):=by
 have hr':r<st.length:=(List.getElem?_eq_some_iff.mp hr).1
 have q0:(0:Nat)≤small:=by decide
 have app:∀ j x,st[j]?=some x→(st++[S.lst []])[j]?=some x:=fun j x h=>by
  rw [List.getElem?_append_left (List.getElem?_eq_some_iff.mp h).1]; exact h
 have W0:WAt (st++[.lst []]) r st.length ⟨f,ks,[]⟩:=⟨app r _ hr,by simp⟩
 have hch:∀ st':Sto,(∀ j x,j≠r→j≠st.length→(st++[S.lst []])[j]?=some x→st'[j]?=some x)→itemsOf st' dr=some (ring.map pl):=fun st' h=>hdr st' fun j x h1 h2 h3=>h j x h1 h2 (app j x h3)
 obtain ⟨c6',c7',c8',st',e,W,g2,k⟩:=ZfE ls hl c1 c2 (some dr) r st.length (by omega) G hG hadd (chk:=fun st2=>itemsOf st2 dr=some (ring.map pl)) (st++[.lst []]) hch ring ⟨f,ks,[]⟩ c6 c7 c8 (st++[.lst []]) g hring W0 fun j x _ _ h=>h
 refine ⟨c6',c7',c8',st',?_,W,g2,fun j x h1 h2=>k j x h1 (by have:=(List.getElem?_eq_some_iff.mp h2).1; omega) (app j x h2)⟩
 have i1:=hch (st++[.lst []]) fun j x _ _ h=>h
 have s1:Yj 5 (ZL Zf) [some (Zj ls),c1,c2,some (.res r),some dr,c5,c6,c7,c8] st = .nx [some (Zj ls),c1,c2,some (.res r),some dr,some (.res st.length),c6,c7,c8] (st++[.lst []]):=by
  simp [q0]
 have hd:ZI (Za 4) [some (Zj ls),c1,c2,some (.res r),some dr,some (.res st.length),c6,c7,c8] (st++[.lst []]) = .ok (ring.map pl,fun st2=>itemsOf st2 dr=some (ring.map pl)) (st++[.lst []]):=by
  simp [-List.map_map,i1]
 rw [YS s1,YS (by rw [Zae,hd]; exact e)]
 rfl
noncomputable def seen (go:Option (List Str)) (ks:List (List Str)):Bool:=match go with
 | some g=>decide (g∈ks)
 | none=>false
noncomputable def Zac (ls:List Lk) (go:Option (List Str)):Nat→List (List Str)→WS→Option WS
 | 0,_,_=>none
 | n+1,ring,s=>if 0<ring.length∧seen go s.ks=false then Zac ls go n (Qn ls ring ⟨s.f,s.ks,[]⟩).F (Qn ls ring ⟨s.f,s.ks,[]⟩) else some s
theorem Zhm (go:Option (List Str)) {st:Sto} {r:Nat} {f:List Str→List Str} {ks:List (List Str)} (hr:st[r]?=some (.dtt (dpl (fun q=>pl (f q)) ks))):Ys (Zy go) (.res r) st = .ok (.bl (!seen go ks)) st:=by
 cases go with
 | none =>
  show (match st[r]? with | some (.dtt _)=>Out.ok (D.bl true) st | _ => .bad)=_
  rw [hr]
  rfl
 | some g =>
  show YX (pl g) (.res r) st=_
  unfold YX
  rw [WM hr g]
  unfold seen
  by_cases h:g∈ks <;> simp [h]
structure RingAt (st:Sto) (r:Nat) (dr:D) (ring:List (List Str)):Prop where
 it:∀ st':Sto,(∀ j x,j≠r→st[j]?=some x→st'[j]?=some x)→itemsOf st' dr=some (ring.map pl)∧ZO [dr] st' = .ok (.int ring.length) st'
theorem ZiX {st:Sto} {r u:Nat} (hu:u≠r) {ring:List (List Str)} (hl:ring.length≤200) (h:st[u]?=some (.lst (ring.map pl))):RingAt st r (.res u) ring:=⟨fun st' k=>by
 have h2:=k u _ hu h
 refine ⟨by simp [itemsOf,ZS,h2],?_⟩
 simp [ZO,ZS,itemsOf,h2,Yx (show ring.length≤1000 by omega)]⟩
theorem Zed (ls:List Lk) (hl:ls.length≤8) (c1:Option D) (go:Option (List Str)) (r:Nat) (G:WS→Prop) (hG:∀ s,G s→(∀ p∈s.ks,p.length≤6∧(s.f p).length≤200)∧s.ks.length≤190∧s.F.length≤190) (hadd:∀ s p,G s→p∈s.ks→G ((Zu ls p).foldl (WS.add p) s)) (h0:∀ s,G s→G ⟨s.f,s.ks,[]⟩∧∀ p∈s.F,p∈s.ks) :
  ∀ (n:Nat) (ring:List (List Str)) (s s':WS) (dr:D) (c5 c6 c7 c8:Option D) (st:Sto),Zac ls go n ring s=some s'→G s→(∀ p∈ring,p∈s.ks)→st[r]?=some (.dtt (dpl (fun q=>pl (s.f q)) s.ks))→RingAt st r dr ring →
  ∃ c4' c5' c6' c7' c8' st',YL n (Yg (dB (Ze gtD (Zk ZO (Zc (Za 4) Zf)) (dC (.int 0)))) (dB (Ze Ys (Za 2) (Za 3)))) (Zl (Yj 5 (ZL Zf)) (Zl (Yc (ZI (Za 4)) (Zp 6) Q8) (Zw 4 (Za 5)))) [some (Zj ls),c1,some (Zy go),some (.res r),some dr,c5,c6,c7,c8] st = .nx [some (Zj ls),c1,some (Zy go),some (.res r),c4',c5',c6',c7',c8'] st'∧st'[r]?=some (.dtt (dpl (fun q=>pl (s'.f q)) s'.ks))∧G s'∧(∀ j x,j≠r→st[j]?=some x→st'[j]?=some x)
 | 0,_,_,_,_,_,_,_,_,_,e,_,_,_,_=>by cases e
 | n+1,ring,s,s',dr,c5,c6,c7,c8,st,e,g,hring,hr,R=>by
  obtain ⟨i1,i2⟩:=R.it st fun _ _ _ h=>h
  have sn:=Zhm go hr
  have gt:gtD (.int (ring.length:Int)) (.int 0) st = .ok (.bl (decide ((0:Int)<ring.length))) st:=rfl
  unfold Zac at e
  unfold YL
  by_cases c:0<ring.length∧seen go s.ks=false
  ·rw [if_pos c] at e
   rw [decide_eq_true (by omega)] at gt
   rw [c.2] at sn
   obtain ⟨d6,d7,d8,st1,e1,W1,g1,k1⟩:=ZhJ ls hl c1 (some (Zy go)) r G hG hadd s.f s.ks ring dr c5 c6 c7 c8 st hr (fun st' h=>(R.it st' fun j x h1 h2=>h j x h1 (by have:=(List.getElem?_eq_some_iff.mp h2).1; omega) h2).1) (h0 s g).1 hring
   have hr':r<st.length:=(List.getElem?_eq_some_iff.mp hr).1
   obtain ⟨b1,b2,b3⟩:=hG _ g1
   obtain ⟨f4,f5,f6,f7,f8,st2,e2,r2,g2,k2⟩:=Zed ls hl c1 go r G hG hadd h0 n _ _ s' (.res st.length) (some (.res st.length)) d6 d7 d8 st1 e g1 (h0 _ g1).2 W1.d (ZiX (by omega) (by omega) W1.l)
   refine ⟨f4,f5,f6,f7,f8,st2,?_,r2,g2,fun j x h1 h2=>k2 j x h1 (k1 j x h1 h2)⟩
   have t:Yg (dB (Ze gtD (Zk ZO (Zc (Za 4) Zf)) (dC (.int 0)))) (dB (Ze Ys (Za 2) (Za 3))) [some (Zj ls),c1,some (Zy go),some (.res r),some dr,c5,c6,c7,c8] st = .ok true st:=by
    simp [i2,gt,sn]
   rw [t,ZcV,if_pos rfl,e1]
   exact e2
  ·rw [if_neg c] at e
   cases e
   refine ⟨some dr,c5,c6,c7,c8,st,?_,hr,g,fun _ _ _ h=>h⟩
   have t:Yg (dB (Ze gtD (Zk ZO (Zc (Za 4) Zf)) (dC (.int 0)))) (dB (Ze Ys (Za 2) (Za 3))) [some (Zj ls),c1,some (Zy go),some (.res r),some dr,c5,c6,c7,c8] st = .ok false st:=by
    by_cases c2:(0:Int)<ring.length
    ·rw [decide_eq_true c2] at gt
     have:seen go s.ks=true:=by
      cases h:seen go s.ks with
      | true=>rfl
      | false=>exact absurd ⟨by omega,h⟩ c
     rw [this] at sn
     simp [i2,gt,sn]
    ·rw [decide_eq_false c2] at gt
     simp [i2,gt]
   rw [t,ZcV,if_neg (by simp)]
theorem StoK.of {st st':Sto} (fr:∀ (j:Nat) (x:S),st[j]?=some x→st'[j]?=some x):StoK st st':=⟨fr,by
 by_cases h:st.length=0
 ·omega
 ·have h1:st[st.length - 1]?=some st[st.length - 1]:=List.getElem?_eq_getElem (by omega)
  have:=(List.getElem?_eq_some_iff.mp (fr _ _ h1)).1
  omega⟩
noncomputable def WS0 (start:List Str):WS:=⟨fun _=>[],[start],[]⟩
theorem ZkD (ls:List Lk) (hl:ls.length≤8) (start:List Str) (go:Option (List Str)) (G:WS→Prop) (hG:∀ s,G s→(∀ p∈s.ks,p.length≤6∧(s.f p).length≤200)∧s.ks.length≤190∧s.F.length≤190) (hadd:∀ s p,G s→p∈s.ks→G ((Zu ls p).foldl (WS.add p) s)) (h0:∀ s,G s→G ⟨s.f,s.ks,[]⟩∧∀ p∈s.F,p∈s.ks) (g0:G (WS0 start)) {s':WS} (hw:Zac ls go 130 [start] (WS0 start)=some s') (st:Sto) :
  ∃ st',YV [Zj ls,pl start,Zy go] st = .ok (.res st.length) st'∧st'[st.length]?=some (.dtt (dpl (fun q=>pl (s'.f q)) s'.ks))∧G s'∧StoK st st':=by
 obtain ⟨st1,hst1⟩:∃ st1:Sto,st1=st++[.dtt (dpl (fun q=>pl ((WS0 start).f q)) [start])]:=⟨_,rfl⟩
 have hr:st1[st.length]?=some (.dtt (dpl (fun q=>pl ((WS0 start).f q)) (WS0 start).ks)):=by rw [hst1]; simp [WS0]
 have q0:(0:Nat)≤small:=by decide
 have q1:(1:Nat)≤small:=by decide
 have R:RingAt st1 st.length (.lst [pl start]) [start]:=⟨fun st' _=>⟨rfl,rfl⟩⟩
 obtain ⟨c4,c5,c6,c7,c8,st',e,h,g,kf⟩:=Zed ls hl (some (pl start)) go st.length G hG hadd h0 130 [start] (WS0 start) s' (.lst [pl start]) none none none none st1 hw g0 (fun p hp=>hp) hr R
 refine ⟨st',?_,h,g,StoK.of fun j x hj=>kf j x (by have:=(List.getElem?_eq_some_iff.mp hj).1; omega) (by rw [hst1,List.getElem?_append_left (List.getElem?_eq_some_iff.mp hj).1]; exact hj)⟩
 have a1:QU (Za 1) (Z4 Zf) [some (Zj ls),some (pl start),some (Zy go),none,none,none,none,none,none] st = .ok (.res st.length) st1:=by
  have p1:Yz (st++[.dtt []]) (.res st.length) (pl start) (.tup [])=some st1:=by
   unfold Yz
   have:(st++[S.dtt []])[st.length]?=some (.dtt []):=by simp
   simp only [this]
   rw [if_pos ⟨by rw [Qt]; rfl,by decide⟩,hst1]
   have e2:=Za6 (fun _=>D.non) [] start (.tup [])
   have e3:dpl (fun _=>D.non) []=[]:=rfl
   rw [e3] at e2
   rw [e2]
   simp [dpl,WS0]
   rfl
  have p2:(st++[S.dtt []])[st.length]?=some (.dtt []):=by simp
  rw [ZdU]
  simp [q0,p1,p2]
 have b1:Zw 3 (QU (Za 1) (Z4 Zf)) [some (Zj ls),some (pl start),some (Zy go),none,none,none,none,none,none] st = .nx [some (Zj ls),some (pl start),some (Zy go),some (.res st.length),none,none,none,none,none] st1:=by
  simp [a1]
 have b2:Zw 4 (dF (ZL (Zc (Za 1) Zf))) [some (Zj ls),some (pl start),some (Zy go),some (.res st.length),none,none,none,none,none] st1 = .nx [some (Zj ls),some (pl start),some (Zy go),some (.res st.length),some (.lst [pl start]),none,none,none,none] st1:=by
  simp [q1]
 unfold YV
 refine ZkS rfl ?_
 unfold Zgw
 refine (YS b1).trans ((YS b2).trans ((YS e).trans rfl))
noncomputable def Y7:Nat→List (List Str)
 | 0=>[[]]
 | n + 1 => [] :: ((Y7 n).map (("a" : Str) :: ·) ++ (Y7 n).map (("b" : Str) :: ·))
theorem Zf8:∀ (n:Nat) (p:List Str),p.length≤n→(∀ w∈p,abW w)→p∈Y7 n
 | 0,[],_,_=>by simp [Y7]
 | 0,_ :: _,h,_=>by simp at h
 | n+1,[],_,_=>by simp [Y7]
 | n+1,w :: p,h,ha=>by
  have ih:=Zf8 n p (by simpa using h) fun x hx=>ha x (List.mem_cons_of_mem _ hx)
  rcases ha w (List.mem_cons_self ..) with rfl | rfl
  ·simp [Y7,ih]
  ·simp [Y7,ih]
theorem Zeo:∀ n,(Y7 n).length+1=2 ^ (n+1)
 | 0=>rfl
 | n+1=>by
  have ih:=Zeo n
  simp only [Y7,List.length_cons,List.length_append,List.length_map]
  rw [Nat.pow_succ,← ih]
  omega
theorem Zfq:∀ (ks l:List (List Str)),ks.Nodup→(∀ x∈ks,x∈l)→ks.length≤l.length
 | [],_,_,_=>Nat.zero_le _
 | k :: ks,l,hn,hs=>by
  rw [List.nodup_cons] at hn
  have hk:=hs k (List.mem_cons_self ..)
  have ih:=Zfq ks (l.erase k) hn.2 fun x hx=>by
   have hne:x≠k:=fun e=>by subst e; exact hn.1 hx
   exact (List.mem_erase_of_ne hne).mpr (hs x (List.mem_cons_of_mem _ hx))
  rw [List.length_erase_of_mem hk] at ih
  have:0<l.length:=List.length_pos_of_mem hk
  simp only [List.length_cons]
  omega
theorem ZgL {ks:List (List Str)} (hn:ks.Nodup) (h:∀ p∈ks,p.length≤6∧∀ w∈p,abW w):ks.length≤127:=by
 have h1:=Zfq ks (Y7 6) hn fun p hp=>Zf8 6 p (h p hp).1 (h p hp).2
 have h2:=Zeo 6
 omega
noncomputable def ZX (N:List Str→List (Str×List Str)) (ring:List (List Str)) (s:WS):WS:=ring.foldl (fun s p=>(N p).foldl (WS.add p) s) s
noncomputable def YY (N:List Str→List (Str×List Str)) (go:Option (List Str)):Nat→List (List Str)→WS→Option WS
 | 0,_,_=>none
 | n+1,ring,s=>if 0<ring.length∧seen go s.ks=false then YY N go n (ZX N ring ⟨s.f,s.ks,[]⟩).F (ZX N ring ⟨s.f,s.ks,[]⟩) else some s
inductive Wk (N:List Str→List (Str×List Str)) (a:List Str):List Str→List Str→Prop
 | nil:Wk N a [] a
 | snoc {ws p w q}:Wk N a ws p→(w,q)∈N p→Wk N a (ws++[w]) q
theorem Wk.un {N:List Str→List (Str×List Str)} {a ws q:List Str} (h:Wk N a ws q):(ws=[]∧q=a)∨∃ us p w,ws=us++[w]∧Wk N a us p∧(w,q)∈N p:=by
 cases h with
 | nil=>exact .inl ⟨rfl,rfl⟩
 | snoc h1 h2=>exact .inr ⟨_,_,_,rfl,h1,h2⟩
structure Tn (T:List Str→Str→List Str→Prop) (s s1:WS):Prop where
 old:∀ q∈s.ks,q∈s1.ks∧s1.f q=s.f q
 new:∀ q∈s1.ks,q∈s.ks∨(q∈s1.F∧∃ p w,p∈s.ks∧T p w q∧s1.f q=s.f p++[w])
 all:∀ p w q,T p w q→q∈s1.ks
 fr:∀ q∈s1.F,q∈s.F∨(q∈s1.ks∧q ∉ s.ks)
 sub:∀ q∈s.F,q∈s1.F
theorem Tn.nil (s:WS):Tn (fun _ _ _=>False) s s:=⟨fun _ h=>⟨h,rfl⟩,fun _ h => .inl h,fun _ _ _ h=>h.elim,fun _ h => .inl h,fun _ h=>h⟩
theorem Tn.comp {T1 T2 T:List Str→Str→List Str→Prop} {s s1 s2:WS} (x:Tn T1 s s1) (y:Tn T2 s1 s2) (h2:∀ p w q,T2 p w q→p∈s.ks) (hT:∀ p w q,T p w q ↔ (T1 p w q∨T2 p w q)):Tn T s s2:=by
 refine ⟨fun q hq => ?_,fun q hq => ?_,fun p w q h => ?_,fun q hq => ?_,fun q hq=>y.sub q (x.sub q hq)⟩
 ·obtain ⟨a1,a2⟩:=x.old q hq
  obtain ⟨b1,b2⟩:=y.old q a1
  exact ⟨b1,b2.trans a2⟩
 ·rcases y.new q hq with h | ⟨h1,p,w,hp,ht,hf⟩
  ·rcases x.new q h with h | ⟨h1,p,w,hp,ht,hf⟩
   ·exact .inl h
   ·exact .inr ⟨y.sub q h1,p,w,hp,(hT p w q).2 (.inl ht),((y.old q h).2).trans hf⟩
  ·have hps:=h2 p w q ht
   exact .inr ⟨h1,p,w,hps,(hT p w q).2 (.inr ht),by rw [hf,(x.old p hps).2]⟩
 ·rcases (hT p w q).1 h with h | h
  ·exact (y.old q (x.all p w q h)).1
  ·exact y.all p w q h
 ·rcases y.fr q hq with h | ⟨h,h'⟩
  ·rcases x.fr q h with h | ⟨h,h'⟩
   ·exact .inl h
   ·exact .inr ⟨(y.old q h).1,h'⟩
  ·exact .inr ⟨h,fun hs=>h' (x.old q hs).1⟩
theorem Tn.add {p:List Str} {s:WS} (hp:p∈s.ks) (x:Str×List Str):Tn (fun p' w q=>p'=p∧w=x.1∧q=x.2) s (s.add p x):=by
 unfold WS.add
 by_cases h:x.2∈s.ks
 ·rw [if_pos h]
  exact ⟨fun _ h=>⟨h,rfl⟩,fun _ h => .inl h,fun p' w q e=>by rw [e.2.2]; exact h,fun _ h => .inl h,fun _ h=>h⟩
 ·rw [if_neg h]
  refine ⟨fun q hq=>⟨List.mem_append_left _ hq,?_⟩,fun q hq => ?_,fun p' w q e => ?_,fun q hq => ?_,fun q hq=>List.mem_append_left _ hq⟩
  ·have:¬ q=x.2:=fun e=>h (e ▸ hq)
   simp [this]
  ·rcases List.mem_append.mp hq with h1 | h1
   ·exact .inl h1
   ·have e:=List.mem_singleton.mp h1
    refine .inr ⟨List.mem_append_right _ h1,p,x.1,hp,⟨rfl,rfl,e⟩,?_⟩
    simp [e]
  ·rw [e.2.2]; simp
  ·rcases List.mem_append.mp hq with h1 | h1
   ·exact .inl h1
   ·exact .inr ⟨List.mem_append_right _ h1,by rw [List.mem_singleton.mp h1]; exact h⟩
theorem Tn.fold {p:List Str}:∀ (xs:List (Str×List Str)) (s:WS),p∈s.ks→Tn (fun p' w q=>p'=p∧(w,q)∈xs) s (xs.foldl (WS.add p) s)
 | [],s,_=>by
  have:=Tn.nil s
  simpa using this
 | x :: xs,s,hp=>by
  have h1:=Tn.add hp x
  have h2:=Tn.fold xs (s.add p x) (h1.old p hp).1
  rw [List.foldl_cons]
  refine h1.comp h2 (fun p' w q h=>by rw [h.1]; exact hp) fun p' w q => ?_
  rw [List.mem_cons,Prod.ext_iff]
  constructor
  ·rintro ⟨h,h1 | h1⟩
   ·exact .inl ⟨h,h1⟩
   ·exact .inr ⟨h,h1⟩
  ·rintro (⟨h,h1⟩ | ⟨h,h1⟩)
   ·exact ⟨h,.inl h1⟩
   ·exact ⟨h,.inr h1⟩
theorem Tn.turn (N:List Str→List (Str×List Str)):∀ (ring:List (List Str)) (s:WS),(∀ p∈ring,p∈s.ks)→Tn (fun p w q=>p∈ring∧(w,q)∈N p) s (ZX N ring s)
 | [],s,_=>by
  have:=Tn.nil s
  simpa [ZX] using this
 | p :: ring,s,h=>by
  have h1:=Tn.fold (N p) s (h p (List.mem_cons_self ..))
  have h2:=Tn.turn N ring ((N p).foldl (WS.add p) s) fun q hq=>(h1.old q (h q (List.mem_cons_of_mem _ hq))).1
  have e:ZX N (p :: ring) s=ZX N ring ((N p).foldl (WS.add p) s):=rfl
  rw [e]
  refine h1.comp h2 (fun p' w q hq=>h p' (List.mem_cons_of_mem _ hq.1)) fun p' w q => ?_
  rw [List.mem_cons]
  constructor
  ·rintro ⟨h8 | h8,h9⟩
   ·exact .inl ⟨h8,by rw [← h8]; exact h9⟩
   ·exact .inr ⟨h8,h9⟩
  ·rintro (⟨h8,h9⟩ | ⟨h8,h9⟩)
   ·exact ⟨.inl h8,by rw [h8]; exact h9⟩
   ·exact ⟨.inr h8,h9⟩
structure Bf (N:List Str→List (Str×List Str)) (a:List Str) (k:Nat) (ring:List (List Str)) (s:WS):Prop where
 wk:∀ p∈s.ks,Wk N a (s.f p) p∧(s.f p).length≤k
 ks:∀ p∈ring,p∈s.ks∧(s.f p).length=k
 far:∀ ws p,Wk N a ws p→ws.length≤k→p∈s.ks∧(s.f p).length≤ws.length
 rg:∀ p∈s.ks,(s.f p).length=k→p∈ring
theorem Bf.start (N:List Str→List (Str×List Str)) (a:List Str):Bf N a 0 [a] (WS0 a):=by
 have hm:∀ p,p∈(WS0 a).ks ↔ p=a:=fun p=>List.mem_singleton
 refine ⟨fun p hp => ?_,fun p hp=>⟨hp,rfl⟩,fun ws p h hl => ?_,fun p hp _=>hp⟩
 ·rw [(hm p).1 hp]
  exact ⟨Wk.nil,Nat.le_refl _⟩
 ·rcases h.un with ⟨h1,h2⟩ | ⟨us,p',w,h1,_⟩
  ·exact ⟨(hm p).2 h2,Nat.zero_le _⟩
  ·rw [h1] at hl; simp at hl
theorem Bf.turn {N:List Str→List (Str×List Str)} {a:List Str} {k:Nat} {ring:List (List Str)} {s:WS} (b:Bf N a k ring s):Bf N a (k+1) (ZX N ring ⟨s.f,s.ks,[]⟩).F (ZX N ring ⟨s.f,s.ks,[]⟩):=by
 have t:=Tn.turn N ring ⟨s.f,s.ks,[]⟩ fun p hp=>(b.ks p hp).1
 generalize ZX N ring ⟨s.f,s.ks,[]⟩=s1 at t
 have hnew:∀ q∈s1.ks,q ∉ s.ks→Wk N a (s1.f q) q∧(s1.f q).length=k+1∧q∈s1.F:=fun q hq hn=>by
  rcases t.new q hq with h | ⟨h1,p,w,hp,ht,hf⟩
  ·exact absurd h hn
  ·have hk:=(b.ks p ht.1).2
   rw [hf]
   refine ⟨Wk.snoc (b.wk p hp).1 ht.2,?_,h1⟩
   simp [hk]
 have hF:∀ q∈s1.F,q∈s1.ks∧q ∉ s.ks:=fun q hq=>by
  rcases t.fr q hq with h | h
  ·simp at h
  ·exact h
 refine ⟨fun p hp => ?_,fun p hp => ?_,fun ws p h hl => ?_,fun p hp he => ?_⟩
 ·by_cases hs:p∈s.ks
  ·rw [(t.old p hs).2]
   have:=b.wk p hs
   exact ⟨this.1,by have:=this.2; dsimp only; omega⟩
  ·have:=hnew p hp hs
   exact ⟨this.1,by omega⟩
 ·obtain ⟨h1,h2⟩:=hF p hp
  exact ⟨h1,(hnew p h1 h2).2.1⟩
 ·by_cases hk:ws.length≤k
  ·obtain ⟨h1,h2⟩:=b.far ws p h hk
   have:=t.old p h1
   exact ⟨this.1,by rw [this.2]; exact h2⟩
  ·rcases h.un with ⟨h1,h2⟩ | ⟨us,p',w,h1,h2,h3⟩
   ·rw [h1] at hk; simp at hk
   ·have hu:us.length≤k:=by rw [h1] at hl; simp at hl; omega
    obtain ⟨c1,c2⟩:=b.far us p' h2 hu
    by_cases ck:(s.f p').length=k
    ·have hm:=t.all p' w p ⟨b.rg p' c1 ck,h3⟩
     refine ⟨hm,?_⟩
     by_cases hs:p∈s.ks
     ·rw [(t.old p hs).2]
      have:=(b.wk p hs).2
      dsimp only
      omega
     ·have:=(hnew p hm hs).2.1
      omega
    ·have c3:=(b.wk p' c1).2
     obtain ⟨d1,d2⟩:=b.far _ p (Wk.snoc (b.wk p' c1).1 h3) (by simp; omega)
     have:=t.old p d1
     refine ⟨this.1,?_⟩
     rw [this.2]
     simp at d2
     dsimp only
     omega
 ·by_cases hs:p∈s.ks
  ·have h1:=(t.old p hs).2
   rw [h1] at he
   have:=(b.wk p hs).2
   dsimp only at he
   omega
  ·exact (hnew p hp hs).2.2
structure Best (N:List Str→List (Str×List Str)) (a:List Str) (go:Option (List Str)) (s:WS):Prop where
 wk:∀ p∈s.ks,Wk N a (s.f p) p
 best:∀ p∈s.ks,∀ ws,Wk N a ws p→(s.f p).length≤ws.length
 all:(∃ g,go=some g∧g∈s.ks)∨∀ ws p,Wk N a ws p→p∈s.ks
theorem Bf.ways {N:List Str→List (Str×List Str)} {a:List Str} (go:Option (List Str)):∀ (n k:Nat) (ring:List (List Str)) (s s':WS),Bf N a k ring s→YY N go n ring s=some s'→Best N a go s'
 | 0,_,_,_,_,_,e=>by cases e
 | n+1,k,ring,s,s',b,e=>by
  unfold YY at e
  by_cases c:0<ring.length∧seen go s.ks=false
  ·rw [if_pos c] at e
   exact Bf.ways go n (k+1) _ _ s' b.turn e
  ·rw [if_neg c] at e
   cases e
   refine ⟨fun p hp=>(b.wk p hp).1,fun p hp ws hw => ?_,?_⟩
   ·by_cases hk:ws.length≤k
    ·exact (b.far ws p hw hk).2
    ·have:=(b.wk p hp).2
     omega
   ·by_cases hs:seen go s.ks=true
    ·left
     cases go with
     | none=>cases hs
     | some g=>exact ⟨g,rfl,by simpa [seen] using hs⟩
    ·right
     have hr:ring=[]:=by
      have h1:seen go s.ks=false:=by simpa using hs
      have:¬ 0<ring.length:=fun h=>c ⟨h,h1⟩
      exact List.length_eq_zero_iff.mp (by omega)
     intro ws p hw
     induction hw with
     | nil=>exact (b.far [] a Wk.nil (Nat.zero_le _)).1
     | snoc h1 h2 ih =>
      rename_i ws p w q
      have h3:=(b.wk p ih).2
      have h4:(s.f p).length≠k:=fun e=>by
       have:=b.rg p ih e
       rw [hr] at this
       cases this
      exact (b.far _ q (Wk.snoc (b.wk p ih).1 h2) (by simp; omega)).1
theorem ZfS {N:List Str→List (Str×List Str)} {a:List Str} {go:Option (List Str)} {n:Nat} {s':WS} (e:YY N go n [a] (WS0 a)=some s'):Best N a go s':=Bf.ways go n 0 [a] (WS0 a) s' (Bf.start N a) e
theorem ZaS : ∀ (xs ws us : List Str), (∀ w ∈ ws, abW w) → (∀ x ∈ xs, abW x ∨ x = ".." ∨ x = ".") → ZM ws xs = some us → ∀ w ∈ us, abW w
 | [],ws,us,hw,_,h=>by unfold ZM at h; cases h; exact hw
 | x :: xs,ws,us,hw,hx,h=>by
  have hx' : ∀ y ∈ xs, abW y ∨ y = ".." ∨ y = "." := fun y hy => hx y (List.mem_cons_of_mem _ hy)
  unfold ZM at h
  split at h
  ·split at h
   ·cases h
   ·exact ZaS xs _ us (fun w hw'=>hw w (List.dropLast_subset _ hw')) hx' h
  ·rename_i n1
   split at h
   ·exact ZaS xs _ us hw hx' h
   ·rename_i n2
    split at h
    ·refine ZaS xs _ us (fun w hw' => ?_) hx' h
     rcases List.mem_append.mp hw' with h1 | h1
     ·exact hw w h1
     ·rw [List.mem_singleton.mp h1]
      rcases hx x (List.mem_cons_self ..) with h2 | h2 | h2
      ·exact h2
      ·exact absurd h2 n1
      ·exact absurd h2 n2
    ·cases h
theorem ZcL {ls:List Lk} (hls:∀ l∈ls,Few l) {p:List Str} (h6:p.length≤6) (ha:∀ w∈p,abW w) {x:Str×List Str} (h:x∈Zu ls p):x.2.length≤6∧∀ w∈x.2,abW w:=by
 unfold Zu at h
 obtain ⟨w,_,hw⟩:=List.mem_flatMap.mp h
 unfold Yy at hw
 cases hl:ZH ls p w with
 | none=>rw [hl] at hw; cases hw
 | some l =>
  rw [hl] at hw
  dsimp only at hw
  cases hg:ZJ l p with
  | none=>rw [hg] at hw; cases hw
  | some g =>
   rw [hg] at hw
   rw [List.mem_singleton.mp hw]
   have hF:=hls l (Zh5 hl)
   unfold ZJ at hg
   cases hpt:l.pt with
   | way k=>rw [hpt] at hg; cases hg
   | steps xs =>
    rw [hpt] at hg
    exact ⟨Zbr xs p g h6 hg,ZaS xs p g ha (hF.2 xs hpt).2 hg⟩
structure GW (s:WS):Prop where
 nd:s.ks.Nodup
 ab:∀ p∈s.ks,p.length≤6∧∀ w∈p,abW w
 sub:∀ p∈s.F,p∈s.ks
 fn:s.F.Nodup
 ln:∀ p∈s.ks,(s.f p).length<s.ks.length
theorem GW.add {s:WS} (g:GW s) {p:List Str} (hp:p∈s.ks) {x:Str×List Str} (hx:x.2.length≤6∧∀ w∈x.2,abW w):GW (s.add p x):=by
 unfold WS.add
 by_cases h:x.2∈s.ks
 ·rw [if_pos h]; exact g
 ·rw [if_neg h]
  refine ⟨?_,fun q hq => ?_,fun q hq => ?_,?_,fun q hq => ?_⟩
  ·rw [List.nodup_append]
   exact ⟨g.nd,by simp,fun a ha b hb e=>h (by rw [← List.mem_singleton.mp hb,← e]; exact ha)⟩
  ·rcases List.mem_append.mp hq with h1 | h1
   ·exact g.ab q h1
   ·rw [List.mem_singleton.mp h1]; exact hx
  ·rcases List.mem_append.mp hq with h1 | h1
   ·exact List.mem_append_left _ (g.sub q h1)
   ·exact List.mem_append_right _ h1
  ·rw [List.nodup_append]
   exact ⟨g.fn,by simp,fun a ha b hb e=>h (by rw [← List.mem_singleton.mp hb,← e]; exact g.sub a ha)⟩
  ·have hp':=g.ln p hp
   dsimp only
   by_cases c:q=x.2
   ·rw [if_pos c]
    simp only [List.length_append,List.length_cons,List.length_nil]
    omega
   ·rw [if_neg c]
    rcases List.mem_append.mp hq with h1 | h1
    ·have:=g.ln q h1
     simp only [List.length_append,List.length_cons,List.length_nil]
     omega
    ·exact absurd (List.mem_singleton.mp h1) c
theorem GW.fold {p:List Str}:∀ (xs:List (Str×List Str)) {s:WS},GW s→p∈s.ks→(∀ x∈xs,x.2.length≤6∧∀ w∈x.2,abW w)→GW (xs.foldl (WS.add p) s)
 | [],_,g,_,_=>g
 | x :: xs,s,g,hp,h=>GW.fold xs (g.add hp (h x (List.mem_cons_self ..))) (s.add_f hp x).1 fun y hy=>h y (List.mem_cons_of_mem _ hy)
noncomputable def OkN (N:List Str→List (Str×List Str)):Prop:=∀ p:List Str,p.length≤6→(∀ w∈p,abW w)→∀ x∈N p,x.2.length≤6∧∀ w∈x.2,abW w
theorem ZiN {ls:List Lk} (hls:∀ l∈ls,Few l):OkN (Zu ls):=fun _ h6 ha _ hx=>ZcL hls h6 ha hx
theorem GW.nextN {N:List Str→List (Str×List Str)} (hN:OkN N) {s:WS} (g:GW s) {p:List Str} (hp:p∈s.ks):GW ((N p).foldl (WS.add p) s) :=
 GW.fold _ g hp fun x hx=>hN p (g.ab p hp).1 (g.ab p hp).2 x hx
theorem GW.next {ls:List Lk} (hls:∀ l∈ls,Few l) {s:WS} (g:GW s) {p:List Str} (hp:p∈s.ks):GW ((Zu ls p).foldl (WS.add p) s) :=
 GW.fold _ g hp fun _ hx=>ZcL hls (g.ab p hp).1 (g.ab p hp).2 hx
theorem GW.len {s:WS} (g:GW s):s.ks.length≤127∧s.F.length≤127:=⟨ZgL g.nd g.ab,ZgL g.fn fun p hp=>g.ab p (g.sub p hp)⟩
theorem GW.bounds {s:WS} (g:GW s):(∀ p∈s.ks,p.length≤6∧(s.f p).length≤200)∧s.ks.length≤190∧s.F.length≤190:=by
 obtain ⟨h1,h2⟩:=g.len
 exact ⟨fun p hp=>⟨(g.ab p hp).1,by have:=g.ln p hp; omega⟩,by omega,by omega⟩
theorem GW.zero {s:WS} (g:GW s):GW ⟨s.f,s.ks,[]⟩∧∀ p∈s.F,p∈s.ks:=⟨⟨g.nd,g.ab,fun p hp=>by simp at hp,by simp,g.ln⟩,g.sub⟩
theorem GW.start {p:List Str} (h6:p.length≤6) (ha:∀ w∈p,abW w):GW (WS0 p):=⟨by simp [WS0],fun q hq=>by rw [List.mem_singleton.mp hq]; exact ⟨h6,ha⟩,fun q hq=>by simp [WS0] at hq,by simp [WS0],fun q hq=>by simp [WS0]⟩
theorem WS.add_diff (p:List Str) (s:WS) (x:Str×List Str):(s.add p x).ks.length+s.F.length=s.ks.length+(s.add p x).F.length:=by
 unfold WS.add
 by_cases h:x.2∈s.ks
 ·rw [if_pos h]
 ·rw [if_neg h]
  simp only [List.length_append,List.length_cons,List.length_nil]
  omega
theorem WS.fold_diff (p:List Str):∀ (xs:List (Str×List Str)) (s:WS),(xs.foldl (WS.add p) s).ks.length+s.F.length=s.ks.length+(xs.foldl (WS.add p) s).F.length
 | [],_=>rfl
 | x :: xs,s=>by
  have h1:=WS.fold_diff p xs (s.add p x)
  have h2:=WS.add_diff p s x
  rw [List.foldl_cons]
  omega
theorem Zfp (N:List Str→List (Str×List Str)):∀ (ring:List (List Str)) (s:WS),(ZX N ring s).ks.length+s.F.length=s.ks.length+(ZX N ring s).F.length
 | [],_=>rfl
 | p :: ring,s=>by
  have h1:=Zfp N ring ((N p).foldl (WS.add p) s)
  have h2:=WS.fold_diff p (N p) s
  have e:ZX N (p :: ring) s=ZX N ring ((N p).foldl (WS.add p) s):=rfl
  rw [e]
  omega
theorem GW.turn {N:List Str→List (Str×List Str)} (hN:OkN N):∀ (ring:List (List Str)) {s:WS},GW s→(∀ p∈ring,p∈s.ks)→GW (ZX N ring s)
 | [],_,g,_=>g
 | p :: ring,s,g,h=>by
  have e:ZX N (p :: ring) s=ZX N ring ((N p).foldl (WS.add p) s):=rfl
  rw [e]
  exact GW.turn hN ring (g.nextN hN (h p (List.mem_cons_self ..))) fun q hq=>WS.fold_ks _ s q (h q (List.mem_cons_of_mem _ hq))
theorem Zd7 {N:List Str→List (Str×List Str)} (hN:OkN N) (go:Option (List Str)):∀ (n:Nat) (ring:List (List Str)) (s:WS),GW s→(∀ p∈ring,p∈s.ks)→1≤n→(ring≠[]→129≤n+s.ks.length)→∃ s',YY N go n ring s=some s'
 | 0,_,_,_,_,h,_=>absurd h (by decide)
 | n+1,ring,s,g,hr,_,hn=>by
  unfold YY
  by_cases c:0<ring.length∧seen go s.ks=false
  ·rw [if_pos c]
   have hne:ring≠[]:=fun e=>by rw [e] at c; simp at c
   have h1:=hn hne
   have g0:=g.zero.1
   have gt:=GW.turn hN ring g0 hr
   have hd:=Zfp N ring ⟨s.f,s.ks,[]⟩
   have hl:=g.len.1
   refine Zd7 hN go n _ _ gt gt.sub (by omega) fun hF => ?_
   have:0<(ZX N ring ⟨s.f,s.ks,[]⟩).F.length:=List.length_pos_iff.mpr hF
   simp only [List.length_nil,Nat.add_zero] at hd
   omega
  ·rw [if_neg c]
   exact ⟨s,rfl⟩
theorem ZdY {N:List Str→List (Str×List Str)} (hN:OkN N) (start:List Str) (h6:start.length≤6) (ha:∀ w∈start,abW w) (go:Option (List Str)):∃ s',YY N go 130 [start] (WS0 start)=some s' :=
 Zd7 hN go 130 [start] (WS0 start) (GW.start h6 ha) (fun p hp=>hp) (by decide) fun _=>by simp [WS0]
theorem ZeB (ls:List Lk) (go:Option (List Str)):∀ (n:Nat) (ring:List (List Str)) (s:WS),Zac ls go n ring s=YY (Zu ls) go n ring s
 | 0,_,_=>rfl
 | n+1,ring,s=>by
  unfold Zac YY
  have e:Qn ls ring ⟨s.f,s.ks,[]⟩=ZX (Zu ls) ring ⟨s.f,s.ks,[]⟩:=rfl
  rw [e,ZeB ls go n]
theorem Zen {ls:List Lk} (hl:ls.length≤8) (hls:∀ l∈ls,Few l) (start:List Str) (h6:start.length≤6) (ha:∀ w∈start,abW w) (go:Option (List Str)) (st:Sto):∃ s' st',GW s'∧Best (Zu ls) start go s'∧YV [Zj ls,pl start,Zy go] st = .ok (.res st.length) st'∧st'[st.length]?=some (.dtt (dpl (fun q=>pl (s'.f q)) s'.ks))∧StoK st st':=by
 have g0:=GW.start h6 ha
 obtain ⟨s',hw⟩:=ZdY (ZiN hls) start h6 ha go
 have hw2:=hw
 rw [← ZeB] at hw2
 obtain ⟨st',e,h,g,k⟩:=ZkD ls hl start go GW (fun s g=>g.bounds) (fun s p g hp=>g.next hls hp) (fun s g=>g.zero) g0 hw2 st
 exact ⟨s',st',g,ZfS hw,e,h,k⟩
theorem Zna (f:List Str→D) (ks:List (List Str)):(dpl f ks).map (·.1)=ks.map fun p=>D.tup (p.map D.str):=by
 unfold dpl
 rw [List.map_map]
 rfl
structure Rd (N:List Str→List (Str×List Str)) (a:List Str) (E:List (List Str)):Prop where
 mem:∀ p,p∈E ↔ ∃ ws,Wk N a ws p
 nd:E.Nodup
 srt:∃ ks:List (List Str),E=Zs ks∧ks.Nodup
 ab:∀ p∈E,p.length≤6∧∀ w∈p,abW w
 len:E.length≤127
theorem Rd.of {N:List Str→List (Str×List Str)} {a:List Str} {s:WS} (g:GW s) (b:Best N a none s):Rd N a (Zs s.ks):=by
 have hm:∀ p,p∈Zs s.ks ↔ p∈s.ks:=fun p=>(Y8 s.ks).mem_iff
 refine ⟨fun p => ?_,(Y8 s.ks).nodup_iff.mpr g.nd,⟨s.ks,rfl,g.nd⟩,fun p hp=>g.ab p ((hm p).1 hp),by rw [(Y8 s.ks).length_eq]; exact g.len.1⟩
 rw [hm p]
 constructor
 ·exact fun h=>⟨_,b.wk p h⟩
 ·rintro ⟨ws,h⟩
  rcases b.all with ⟨g',e,_⟩ | h2
  ·cases e
  ·exact h2 ws p h
theorem ZaW {s:WS} (g:GW s) {st:Sto} {r:Nat} {f:List Str→D} (h:st[r]?=some (.dtt (dpl f s.ks))):Wt [.res r] st = .ok ((Zs s.ks).map pl) st:=by
 have hl:=g.len.1
 unfold Wt
 simp only [h,Zna,Zge]
 rw [if_pos ⟨g.nd,by omega⟩]
 rfl
theorem Zfa {ls:List Lk} (hl:ls.length≤8) (hls:∀ l∈ls,Few l) (start:List Str) (h6:start.length≤6) (ha:∀ w∈start,abW w) (st:Sto):∃ E st',Wp [Zj ls,pl start] st = .ok (.lst (E.map pl)) st'∧StoK st st'∧Rd (Zu ls) start E:=by
 obtain ⟨s',st',g,b,e,h,k⟩:=Zen hl hls start h6 ha none st
 have e2:=ZaW g h
 have e':YV [Zj ls,pl start,.non] st = .ok (.res st.length) st':=e
 refine ⟨Zs s'.ks,st',?_,k,Rd.of g b⟩
 generalize Zs s'.ks=E at *
 unfold Wp ZfV
 simp [-List.map_map,e',e2]
noncomputable def ShO (N:List Str→List (Str×List Str)) (a g:List Str):Option (List Str)→Prop
 | some ws=>Wk N a ws g∧(∀ us,Wk N a us g→ws.length≤us.length)∧ws.length≤127
 | none => ∀ ws,¬ Wk N a ws g
theorem ShO.of {N:List Str→List (Str×List Str)} {a g:List Str} {s:WS} (w:GW s) (b:Best N a (some g) s):ShO N a g (if g∈s.ks then some (s.f g) else none):=by
 by_cases h:g∈s.ks
 ·rw [if_pos h]
  exact ⟨b.wk g h,b.best g h,by have:=w.ln g h; have:=w.len.1; omega⟩
 ·rw [if_neg h]
  intro ws hw
  rcases b.all with ⟨g',e,h2⟩ | h2
  ·cases e; exact h h2
  ·exact h (h2 ws g hw)
theorem Zk7 {ls:List Lk} (hl:ls.length≤8) (hls:∀ l∈ls,Few l) (start:List Str) (h6:start.length≤6) (ha:∀ w∈start,abW w) (go:List Str) (st:Sto):∃ o st',WJ [Zj ls,pl start,pl go] st = .ok (Zy o) st'∧StoK st st'∧ShO (Zu ls) start go o:=by
 obtain ⟨s',st',g,b,e,h,k⟩:=Zen hl hls start h6 ha (some go) st
 have e':YV [Zj ls,pl start,pl go] st = .ok (.res st.length) st':=e
 have e2:=WM h go
 have e3:Qi st' (.res st.length)=true:=by simp [Qi,h]
 refine ⟨_,st',?_,k,ShO.of g b⟩
 unfold WJ ZgK
 by_cases c:go∈s'.ks
 ·rw [if_pos c] at e2 ⊢
  simp [Zfg,e',e2,e3,Zy]
 ·rw [if_neg c] at e2 ⊢
  simp [Zfg,e',e2,e3,Zy]
theorem ZcG {α:Type} (g:α→D) (p:α→Bool) (h:α→D) {chk:Sto→Prop} {t:TgD} {cond:DT} {fe:DE} (st0:Sto) (IE:Ev→Prop) (hc:∀ st,StoK st0 st→chk st):∀ (xs:List α) (ρ:Ev) (st:Sto) (acc:List D),StoK st0 st→IE ρ→acc.length+xs.length≤small →
  (∀ x∈xs,∀ ρ st,IE ρ→StoK st0 st→∃ ρ1 st1,t (g x) ρ=some ρ1∧IE ρ1∧cond ρ1 st = .ok (p x) st1∧StoK st st1∧(p x=true→∃ st2,fe ρ1 st1 = .ok (h x) st2∧StoK st1 st2))→∃ st',ZU chk t cond fe (xs.map g) ρ st acc = .ok (acc++(xs.filter p).map h) st'∧StoK st st'
 | [],ρ,st,acc,k,_,_,_=>⟨st,by simp [ZU,hc st k],StoK.refl st⟩
 | x :: xs,ρ,st,acc,k,hI,hl,hx=>by
  obtain ⟨ρ1,st1,e1,h1,e2,k1,e3⟩:=hx x List.mem_cons_self ρ st hI k
  rw [List.map_cons]
  unfold ZU
  rw [if_pos ⟨hc st k,by simp at hl; omega⟩,e1]
  dsimp only
  rw [e2]
  cases hp:p x with
  | true =>
   obtain ⟨st2,e4,k2⟩:=e3 hp
   dsimp only
   rw [e4]
   dsimp only
   obtain ⟨st',e5,k5⟩:=ZcG g p h st0 IE hc xs ρ1 st2 (acc++[h x]) ((k.trans k1).trans k2) h1 (by simp at hl ⊢; omega) fun y hy=>hx y (List.mem_cons_of_mem _ hy)
   refine ⟨st',?_,(k1.trans k2).trans k5⟩
   rw [e5,List.filter_cons_of_pos hp]
   simp
  | false =>
   dsimp only
   obtain ⟨st',e5,k5⟩:=ZcG g p h st0 IE hc xs ρ1 st1 acc (k.trans k1) h1 (by simp at hl ⊢; omega) fun y hy=>hx y (List.mem_cons_of_mem _ hy)
   refine ⟨st',?_,k1.trans k5⟩
   rw [e5,List.filter_cons_of_neg (by simp [hp])]
theorem wordsV_mem {ls:List Lk} {p:List Str} {w:Str}:w∈YT ls p ↔ ∃ l∈ls,Z5 p l=true∧l.wd=w:=by
 unfold YT
 rw [(SO.srtS_perm _).mem_iff,Qd,List.mem_map]
 constructor
 ·rintro ⟨l,h,e⟩
  obtain ⟨h1,h2⟩:=List.mem_filter.mp h
  exact ⟨l,h1,h2,e⟩
 ·rintro ⟨l,h1,h2,e⟩
  exact ⟨l,List.mem_filter.mpr ⟨h1,h2⟩,e⟩
theorem ZfD {ls:List Lk} {p:List Str} {w:Str} {l:Lk} (h:ZH ls p w=some l):l∈ls∧l.wd=w∧Z5 p l=true:=by
 have:=List.mem_filter.mp (List.mem_of_mem_head? h)
 refine ⟨this.1,?_⟩
 simpa using this.2
theorem mem_step {ls:List Lk} {p:List Str} {w:Str} {x:Str×List Str}:x∈Yy ls p w ↔ x.1=w∧∃ l,ZH ls p w=some l∧ZJ l p=some x.2:=by
 unfold Yy
 cases hl:ZH ls p w with
 | none=>simp
 | some l =>
  dsimp only
  cases hg:ZJ l p with
  | none =>
   constructor
   ·intro h; cases h
   ·rintro ⟨_,l',e,h⟩
    cases e
    rw [hg] at h
    cases h
  | some g =>
   rw [List.mem_singleton]
   constructor
   ·rintro rfl
    exact ⟨rfl,l,rfl,hg⟩
   ·rintro ⟨h1,l',e,h⟩
    cases e
    rw [hg] at h
    cases h
    exact Prod.ext h1 rfl
theorem mem_next {ls:List Lk} {p:List Str} {w:Str} {g:List Str}:(w,g)∈Zu ls p ↔ ∃ l,ZH ls p w=some l∧ZJ l p=some g:=by
 unfold Zu
 rw [List.mem_flatMap]
 constructor
 ·rintro ⟨w',_,h⟩
  obtain ⟨h1,h2⟩:=mem_step.mp h
  obtain rfl:w=w':=h1
  exact h2
 ·rintro ⟨l,h1,h2⟩
  obtain ⟨a,b,c⟩:=ZfD h1
  exact ⟨w,wordsV_mem.mpr ⟨l,a,c,b⟩,mem_step.mpr ⟨rfl,l,h1,h2⟩⟩
theorem ZjY (ns:List Int) (hl:ns.length≤63) (st:Sto):∃ p:List Str,p.length≤3∧(∀ w∈p,abW w)∧ZU (fun _=>True) (Zp 0) YZ Zbx ((List.range (Z2 ns 100 4).toNat).map (fun (i:Nat)=>D.int (0+i))) [none,some (.scr (ns.map .int))] st [] = .ok (p.map D.str) st:=by
 have r1:=Y9 ns 100 4 (by decide)
 have r2:=Y6 ns 100 4 (by decide)
 have hch : ∀ i : Nat, ∃ w, ixD (.str "ab") (.int (Z2 ns (101 + (i : Int)) 2)) st = .ok (.str w) st ∧ abW w := fun i => ZbL _ st (Y9 ns (101 + (i : Int)) 2 (by decide)) (Y6 ns (101 + (i : Int)) 2 (by decide))
 obtain ⟨f, hf⟩ : ∃ f : Nat → Str, ∀ i : Nat, ixD (.str "ab") (.int (Z2 ns (101 + (i : Int)) 2)) st = .ok (.str (f i)) st ∧ abW (f i) := ⟨fun i => Classical.choose (hch i), fun i => Classical.choose_spec (hch i)⟩
 refine ⟨(List.range (Z2 ns 100 4).toNat).map f,by simp; omega,fun w hw => ?_,?_⟩
 ·obtain ⟨i,_,rfl⟩:=List.mem_map.mp hw
  exact (hf i).2
 ·rw [Zbl (fun (i:Nat)=>D.int (0+i)) (fun i=>D.str (f i)) (fun ρ => ∃ a,ρ=[a,some (.scr (ns.map .int))]) trivial _ _ _ ⟨_,rfl⟩ (by simp only [List.length_nil,List.length_range,Nat.zero_add]; exact Yx (by omega))]
  ·rw [List.map_map]; rfl
  ·rintro i _ ρ ⟨a,rfl⟩
   refine ⟨_,rfl,⟨_,rfl⟩,?_⟩
   have e3:=Wz ns hl (101+(i:Int)) 2 (by decide) st
   have e4:=(hf i).1
   unfold Zbx
   simp [ZaA,e3,e4]
theorem Zmj (ns:List Int) (hl:ns.length≤63) (st:Sto) {ρ:Ev} (hρ:ρ[0]?=some (some (.scr (ns.map .int)))):∃ p:List Str,p.length≤3∧(∀ w∈p,abW w)∧Zk YN (Zc (dF (YB [0] 1 (Wg (Zc (Zk Ya (Zc (Za 0) (Zc (dC (.int 100)) (Zc (dC (.int 4)) Zf)))) Zf)) (Zp 0) YZ Zbx)) Zf) ρ st = .ok (pl p) st:=by
 obtain ⟨p,h1,h2,e⟩:=ZjY ns hl st
 have r1:=Y9 ns 100 4 (by decide)
 have r2:=Y6 ns 100 4 (by decide)
 have g1:WC (Z2 ns 100 4)=true:=Zdd (by omega) (by omega)
 have d4:=Wz ns hl 100 4 (by decide) st
 have tl:YN [.lst (p.map D.str)] st = .ok (pl p) st:=rfl
 simp only [Int.zero_add] at e
 refine ⟨p,h1,h2,?_⟩
 simp [hρ,d4,g1,Wg,Z6,e,tl]
theorem ZgE:∀ bs:List Bool,Wr (bs.map D.bl)=some bs
 | []=>rfl
 | b :: bs=>by
  show (Wr (bs.map D.bl)).map (b :: ·)=_
  rw [ZgE bs]
  rfl
noncomputable def onV (ls:List Lk) (p:List Str):Bool:=(Zu ls p).any fun x => !decide (x.2=p)
theorem ZhX (ls:List Lk) (hl:ls.length≤8) (p:List Str) (hp:p.length≤6) (st:Sto):∃ st',QV [Zj ls,pl p] st = .ok (.bl (onV ls p)) st'∧StoK st st':=by
 obtain ⟨st1,e1,h1,k1⟩:=Zd2 ls hl p hp st
 have hn:=Zek ls p
 have i1:=getL h1
 have e:ZU (fun st2=>itemsOf st2 (.res st.length)=some ((Zu ls p).map fun x=>D.tup [.str x.1,pl x.2])) (Q7 [0,1]) YZ ZcQ ((Zu ls p).map fun x=>D.tup [.str x.1,pl x.2]) [none,none,some (pl p)] st1 [] = .ok (((Zu ls p).map fun x => !decide (x.2=p)).map D.bl) st1:=by
  rw [Zbl (fun x:Str×List Str=>D.tup [.str x.1,pl x.2]) (fun x=>D.bl (!decide (x.2=p))) (fun ρ => ∃ a b,ρ=[a,b,some (pl p)]) i1 _ _ [] ⟨_,_,rfl⟩ (by simp; exact Yx (by omega))]
  ·simp
  ·rintro x _ ρ ⟨a,b,rfl⟩
   refine ⟨[some (.str x.1),some (pl x.2),some (pl p)],rfl,⟨_,_,rfl⟩,?_⟩
   have q:=Zd1 x.2 p st1
   unfold ZcQ
   simp [q]
 have e2:ZbH [.lst (((Zu ls p).map fun x => !decide (x.2=p)).map D.bl)] st1 = .ok (.bl (onV ls p)) st1:=by
  show (match Wr (((Zu ls p).map fun x => !decide (x.2=p)).map D.bl) with | some bs=>Out.ok (D.bl (bs.any id)) st1 | none => .bad)=_
  rw [ZgE]
  unfold onV
  dsimp only
  rw [List.any_map]
  rfl
 refine ⟨st1,?_,k1⟩
 unfold QV ZgN
 generalize onV ls p=b at *
 generalize ((Zu ls p).map fun x => !decide (x.2=p)).map D.bl=xs at *
 generalize ((Zu ls p).map fun x=>D.tup [.str x.1,pl x.2])=ys at *
 simp [e1,i1,Z6,e,e2]
theorem Znw {ls:List Lk} (hl:ls.length≤8) (hls:∀ l∈ls,Few l) (a:List Str) (h6:a.length≤6) (ha:∀ w∈a,abW w) (st:Sto):∃ E st',Qr [Zj ls,pl a] st = .ok (.lst ((E.filter fun p => !onV ls p).map pl)) st'∧StoK st st'∧Rd (Zu ls) a E:=by
 obtain ⟨E,st1,e1,k1,r⟩:=Zfa hl hls a h6 ha st
 obtain ⟨st2,e2,k2⟩:=ZcG (chk:=fun st2=>itemsOf st2 (.lst (E.map pl))=some (E.map pl)) (t:=Zp 0) (cond:=Zcx) (fe:=Zb7) pl (fun p => !onV ls p) pl st1 (fun ρ => ∃ x,ρ=[x,some (Zj ls)]) (fun _ _=>rfl) E [none,some (Zj ls)] st1 [] (StoK.refl _) ⟨_,rfl⟩ (by have:=r.len; simp; exact Yx (by omega)) (by
  rintro p hp ρ st3 ⟨x,rfl⟩ k3
  obtain ⟨st4,e4,k4⟩:=ZhX ls hl p (r.ab p hp).1 st3
  refine ⟨_,st4,rfl,⟨_,rfl⟩,?_,k4,fun _=>⟨st4,?_,StoK.refl _⟩⟩
  ·unfold Zcx
   generalize onV ls p=b at *
   simp [e4]
  ·unfold Zb7
   simp)
 refine ⟨E,st2,?_,k1.trans k2,r⟩
 have i1:itemsOf st1 (.lst (E.map pl))=some (E.map pl):=rfl
 rw [List.nil_append] at e2
 unfold Qr Zf6
 generalize (E.filter fun p => !onV ls p).map pl=xs at *
 generalize E.map pl=ys at *
 simp [e1,i1,Z6,e2]
noncomputable def Wc (ls:List Lk):List Str:=SO.srtS (ddS (ls.map (·.wd)))
noncomputable def Yw (ls:List Lk) (p:List Str) (w:Str):List (List Str):=(Yy ls p w).map (·.2)
noncomputable def Z0 (ls:List Lk) (p:List Str):List (List Str):=(Wc ls).flatMap (Yw ls p)
theorem allW_mem {ls:List Lk} {w:Str}:w∈Wc ls ↔ ∃ l∈ls,l.wd=w:=by
 unfold Wc
 rw [(SO.srtS_perm _).mem_iff,Qd,List.mem_map]
theorem Zgg (ls:List Lk):(Wc ls).length≤ls.length:=by
 unfold Wc
 rw [(SO.srtS_perm _).length_eq]
 exact Nat.le_trans (ZaP _) (by simp)
theorem Zer (ls:List Lk) (p:List Str) (w:Str):(Yw ls p w).length≤1:=by
 unfold Yw Yy
 cases ZH ls p w with
 | none=>simp
 | some l =>
  dsimp only
  cases ZJ l p <;> simp
theorem Zf9 (ls:List Lk) (p:List Str):(Z0 ls p).length≤ls.length:=by
 have h:∀ ws:List Str,(ws.flatMap (Yw ls p)).length≤ws.length:=by
  intro ws
  induction ws with
  | nil=>exact Nat.le_refl _
  | cons w ws ih =>
   rw [List.flatMap_cons,List.length_append,List.length_cons]
   have:=Zer ls p w
   omega
 exact Nat.le_trans (h _) (Zgg ls)
theorem lawN_mem {ls:List Lk} {p g:List Str}:g∈Z0 ls p ↔ ∃ w,(w,g)∈Zu ls p:=by
 unfold Z0 Yw
 rw [List.mem_flatMap]
 constructor
 ·rintro ⟨w,_,h⟩
  obtain ⟨x,h1,rfl⟩:=List.mem_map.mp h
  obtain ⟨h2,l,h3,h4⟩:=mem_step.mp h1
  exact ⟨w,mem_next.mpr ⟨l,h3,h4⟩⟩
 ·rintro ⟨w,h⟩
  obtain ⟨l,h1,h2⟩:=mem_next.mp h
  obtain ⟨a,b,_⟩:=ZfD h1
  exact ⟨w,allW_mem.mpr ⟨l,a,b⟩,List.mem_map.mpr ⟨(w,g),mem_step.mpr ⟨rfl,l,h1,h2⟩,rfl⟩⟩
theorem Zgh {chk:Sto→Prop} (hchk:∀ st,chk st) (ls:List Lk) (hls:ls.length≤8) (p:List Str) (hp:p.length≤6) (r:Nat) (st0:Sto) (hr:st0.length≤r):∀ (ws:List Str) (a b:Option D) (acc:List (List Str)) (st:Sto),acc.length+ws.length≤100→st[r]?=some (.lst (acc.map pl))→StoK st0 st →
  ∃ a' b' st',Zz chk (Zp 3) Zbi (ws.map .str) [some (Zj ls),some (pl p),some (.res r),a,b] st = .nx [some (Zj ls),some (pl p),some (.res r),a',b'] st'∧st'[r]?=some (.lst ((acc++ws.flatMap (Yw ls p)).map pl))∧StoK st0 st'
 | [],a,b,acc,st,_,h,hk=>⟨a,b,st,YU (hchk st),by simpa using h,hk⟩
 | w :: ws,a,b,acc,st,hl,h,hk=>by
  have ht:Zp 3 (.str w) [some (Zj ls),some (pl p),some (.res r),a,b]=some [some (Zj ls),some (pl p),some (.res r),some (.str w),b]:=rfl
  have e1:=ZmF ls hls p w st
  have hb:∃ b' st2,Zbi [some (Zj ls),some (pl p),some (.res r),some (.str w),b] st = .nx [some (Zj ls),some (pl p),some (.res r),some (.str w),b'] st2∧st2[r]?=some (.lst ((acc++Yw ls p w).map pl))∧StoK st0 st2:=by
   have hset:Zw 4 (Zk Qf (Zc (Za 0) (Zc (Za 1) (Zc (Za 3) Zf)))) [some (Zj ls),some (pl p),some (.res r),some (.str w),b] st = .nx [some (Zj ls),some (pl p),some (.res r),some (.str w),some (Y0 (ZH ls p w))] st:=by
    simp [e1]
   unfold Zbi
   rw [YS hset]
   cases hl1:ZH ls p w with
   | none =>
    have hs:Yw ls p w=[]:=by unfold Yw Yy; rw [hl1]; rfl
    refine ⟨some .non,st,?_,by rw [hs,List.append_nil]; exact h,hk⟩
    have i1:Yf .non .non st = .ok (.bl false) st:=rfl
    rw [Zfi (st':=st) (ZbU (by simp [Y0,i1]))]
    rfl
   | some l =>
    have i1:Yf (lkD l) .non st = .ok (.bl true) st:=rfl
    obtain ⟨st1,e2,k1⟩:=ZiO l p hp (ρ:=[some (Zj ls),some (pl p),some (.res r),some (.str w),some (lkD l)]) (st:=st) (j:=1) (k:=4) rfl rfl
    have h1:=k1.fr _ _ h
    have t1:dB (Ze Yf (Za 4) (dC .non)) [some (Zj ls),some (pl p),some (.res r),some (.str w),some (lkD l)] st = .ok true st:=by simp [i1]
    have t2:=Zcg t1 e2
    cases hg:ZJ l p with
    | none =>
     rw [hg] at t2
     have hs:Yw ls p w=[]:=by unfold Yw Yy; rw [hl1]; dsimp only; rw [hg]; rfl
     refine ⟨some (lkD l),st1,?_,by rw [hs,List.append_nil]; exact h1,hk.trans k1⟩
     show sIf _ _ _ [some (Zj ls),some (pl p),some (.res r),some (.str w),some (lkD l)] st=_
     rw [Zfi t2]
     rfl
    | some g =>
     rw [hg] at t2
     have hs:Yw ls p w=[g]:=by unfold Yw Yy; rw [hl1]; dsimp only; rw [hg]; rfl
     obtain ⟨xs,hx⟩:∃ xs,l.pt = .steps xs:=by
      cases hh:l.pt with
      | way z=>unfold ZJ at hg; rw [hh] at hg; cases hg
      | steps xs=>exact ⟨xs,rfl⟩
     have hg2:ZM p xs=some g:=by unfold ZJ at hg; rw [hx] at hg; exact hg
     obtain ⟨st2,e3,k2⟩:=Zgl p xs hp st1
     have h2:=k2.fr _ _ h1
     have q3:=lk3 l st1
     rw [hx] at q3
     rw [hg2] at e3
     refine ⟨some (lkD l),st2.set r (.lst (acc.map pl++[pl g])),?_,by rw [hs,List.map_append]; exact Q1 h2,((hk.trans k1).trans k2).set hr _⟩
     have hsm:acc.length<small:=Nat.lt_of_lt_of_le (by simp at hl; omega) (Yx (n:=100) (by omega))
     show sIf _ _ _ [some (Zj ls),some (pl p),some (.res r),some (.str w),some (lkD l)] st=_
     rw [Zml t2]
     unfold Yv
     simp [q3,Prt.d,e3,Zy,h1,h2,hsm]
  obtain ⟨b',st2,hb,h2,k2⟩:=hb
  have hsl:=Zer ls p w
  obtain ⟨a',b'',st',e5,h5,k5⟩:=Zgh hchk ls hls p hp r st0 hr ws (some (.str w)) b' (acc++Yw ls p w) st2 (by simp at hl ⊢; omega) h2 k2
  refine ⟨a',b'',st',?_,?_,k5⟩
  ·rw [List.map_cons,Yo (hchk st) ht hb]
   exact e5
  ·rw [h5]
   simp
theorem ZeU (ls:List Lk) (hl:ls.length≤8) (p:List Str) (hp:p.length≤6) (st:Sto):∃ st',Y3 [Zj ls,pl p] st = .ok (.res st.length) st'∧st'[st.length]?=some (.lst ((Z0 ls p).map pl))∧StoK st st':=by
 have hwl:=Zgg ls
 obtain ⟨a',b',st',e,h,k⟩:=Zgh (chk:=fun _=>True) (fun _=>trivial) ls hl p hp st.length st (Nat.le_refl _) (Wc ls) none none [] (st++[.lst []]) (by simp; omega) (Qz _ _) (StoK.app _ _)
 refine ⟨st',?_,by simpa [Z0] using h,k⟩
 have q:(0:Nat)≤small:=by decide
 have e1:ZU (fun _=>True) (Zp 0) YZ ZcE (ls.map lkD) [none] (st++[.lst []]) [] = .ok ((ls.map (·.wd)).map D.str) (st++[.lst []]):=by
  rw [Zbl lkD (fun l=>D.str l.wd) (fun ρ => ∃ a,ρ=[a]) trivial _ _ [] ⟨_,rfl⟩ (by simp; exact Yx (by omega))]
  ·simp
  ·rintro l _ ρ ⟨a,rfl⟩
   refine ⟨_,rfl,⟨_,rfl⟩,?_⟩
   have q1:=lk1 l (st++[.lst []])
   unfold ZcE
   simp [q1]
 have e2:=ZfQ (ls.map (·.wd)) (by simp; omega) (st++[.lst []])
 have hw:SO.srtS (ddS (ls.map (·.wd)))=Wc ls:=rfl
 rw [hw] at e2
 have ei:=Zas ls
 have ei2:∀ st2,itemsOf st2 (.lst ((Wc ls).map D.str))=some ((Wc ls).map D.str):=fun _=>rfl
 unfold Y3 ZfP
 generalize Wc ls=ws at *
 generalize ls.map (·.wd)=us at *
 simp [-List.map_map,ei,ei2,Z6,e1,e2,e,q]
noncomputable def Ye (ls : List Lk) (p : List Str) : List (Str × List Str) := (Z0 ls p).map fun g => (("" : Str), g)
noncomputable def EW (ns:List Int) (ls:List Lk) (a:List Str) (r:Nat) (c4 c5 c6 c7:Option D):Ev:=[some (.scr (ns.map .int)),some (Zj ls),some (pl a),some (.res r),c4,c5,c6,c7,none,none,none,none,none]
structure FAt (st:Sto) (r u:Nat) (s:WS):Prop where
 d:st[r]?=some (.dtt (dpl (fun q => .int (s.f q).length) s.ks))
 l:st[u]?=some (.lst (s.F.map pl))
theorem Zg5 (ns:List Int) (ls:List Lk) (a:List Str) (c4:Option D) (p g:List Str) (s:WS) (hp:p∈s.ks) (hks:s.ks.length≤200) (hF:s.F.length≤200) (st:Sto) (r u:Nat) (W:FAt st r u s) (hru:r≠u) :
  ∃ st', Zaj (EW ns ls a r c4 (some (.res u)) (some (pl p)) (some (pl g))) st = .nx (EW ns ls a r c4 (some (.res u)) (some (pl p)) (some (pl g))) st' ∧ FAt st' r u (s.add p ("", g)) ∧ (∀ j, j ≠ r → j ≠ u → st'[j]? = st[j]?) := by
 have hr:=W.d
 have hu:=W.l
 have e1:Ys (pl g) (.res r) st = .ok (.bl (!decide (g∈s.ks))) st:=by
  show YX (pl g) (.res r) st=_
  unfold YX
  rw [WM hr g]
  by_cases h:g∈s.ks <;> simp [h]
 by_cases h:g∈s.ks
 ·rw [decide_eq_true h] at e1
  refine ⟨st,?_,?_,fun _ _ _=>rfl⟩
  ·unfold Zaj EW
   simp [e1]
  ·unfold WS.add
   rw [if_pos h]
   exact W
 ·rw [decide_eq_false h] at e1
  have e2:dAt st (.res r) (pl p)=some (some (.int (s.f p).length)):=by rw [WM hr p,if_pos hp]
  have hr':r<st.length:=(List.getElem?_eq_some_iff.mp hr).1
  have hu':u<st.length:=(List.getElem?_eq_some_iff.mp hu).1
  have e3 : ZG (.int (s.f p).length) (.int 1) st = .ok (.int ((s.f p ++ [("" : Str)]).length : Nat)) st := by
   rw [ZaA]
   congr 2
   simp
  have e4 : Yz st (.res r) (pl g) (.int ((s.f p ++ [("" : Str)]).length : Nat)) = some (st.set r (.dtt (dpl (fun q => .int (if q = g then s.f p ++ [("" : Str)] else s.f q).length) (s.ks ++ [g])))) := by
   unfold Yz
   simp only [hr]
   rw [if_pos ⟨by rw [Qt]; rfl,by simp only [dpl,List.length_map]; exact Nat.lt_of_le_of_lt hks (by decide)⟩,Za6,if_neg h]
   congr 3
   congr 1
   funext q
   by_cases e:q=g <;> simp [e]
  have hu2 : (st.set r (.dtt (dpl (fun q => .int (if q = g then s.f p ++ [("" : Str)] else s.f q).length) (s.ks ++ [g]))))[u]? = some (.lst (s.F.map pl)) := by
   rw [List.getElem?_set_ne hru]; exact hu
  have hFs:(s.F.map pl).length<small:=by rw [List.length_map]; exact Nat.lt_of_le_of_lt hF (by decide)
  have hFs':s.F.length<small:=by simpa using hFs
  refine ⟨(st.set r (.dtt (dpl (fun q => .int (if q = g then s.f p ++ [("" : Str)] else s.f q).length) (s.ks ++ [g])))).set u (.lst ((s.F ++ [g]).map pl)), ?_, ?_, fun j h1 h2 => ?_⟩
  ·generalize hst : st.set r (.dtt (dpl (fun q => .int (if q = g then s.f p ++ [("" : Str)] else s.f q).length) (s.ks ++ [g]))) = st2 at *
   generalize ((s.f p ++ [("" : Str)]).length : Nat) = n at *
   unfold Zaj EW
   simp [e1,Zel,WB,e2,e3,e4,Yv,hu2,hFs']
  ·unfold WS.add
   rw [if_neg h]
   constructor
   ·rw [List.getElem?_set_ne (Ne.symm hru),List.getElem?_set_self hr']
   ·rw [List.getElem?_set_self (by simpa using hu')]
  ·rw [List.getElem?_set_ne (Ne.symm h2),List.getElem?_set_ne (Ne.symm h1)]
theorem ZgD (ns:List Int) (ls:List Lk) (a:List Str) (c4:Option D) (p:List Str) (r u:Nat) (hru:r≠u) {chk:Sto→Prop} (st0:Sto) (hchk:∀ st,(∀ j,j≠r→j≠u→st[j]?=st0[j]?)→chk st):∀ (gs:List (List Str)) (s:WS) (c7:Option D) (st:Sto),p∈s.ks→s.ks.length+gs.length≤200→s.F.length+gs.length≤200→FAt st r u s→(∀ j,j≠r→j≠u→st[j]?=st0[j]?) →
  ∃ c7' st', Zz chk (Zp 7) Zaj (gs.map pl) (EW ns ls a r c4 (some (.res u)) (some (pl p)) c7) st = .nx (EW ns ls a r c4 (some (.res u)) (some (pl p)) c7') st' ∧ FAt st' r u ((gs.map fun g => (("" : Str), g)).foldl (WS.add p) s) ∧ (∀ j, j ≠ r → j ≠ u → st'[j]? = st0[j]?)
 | [],s,c7,st,_,_,_,W,hj=>⟨c7,st,YU (hchk st hj),W,hj⟩
 | g :: gs,s,c7,st,hp,hk,hF,W,hj=>by
  obtain ⟨st2,e,W2,k2⟩:=Zg5 ns ls a c4 p g s hp (by simp at hk; omega) (by simp at hF; omega) st r u W hru
  obtain ⟨a1, a2⟩ := s.add_f hp (("" : Str), g)
  obtain ⟨b1, b2⟩ := s.add_len p (("" : Str), g)
  obtain ⟨c7', st', g1, g2, g3⟩ := ZgD ns ls a c4 p r u hru st0 hchk gs (s.add p ("", g)) (some (pl g)) st2 a1 (by simp at hk; omega) (by simp at hF; omega) W2 fun j h1 h2 => (k2 j h1 h2).trans (hj j h1 h2)
  refine ⟨c7',st',?_,g2,g3⟩
  rw [List.map_cons,Yo (hchk st hj) (ρ1:=EW ns ls a r c4 (some (.res u)) (some (pl p)) (some (pl g))) rfl e]
  exact g1
theorem Zj3 (ns:List Int) (ls:List Lk) (hl:ls.length≤8) (a:List Str) (c4:Option D) (p:List Str) (hp6:p.length≤6) (r u:Nat) (hru:r≠u) (s:WS) (c7:Option D) (st:Sto) (hp:p∈s.ks) (hk:s.ks.length≤190) (hF:s.F.length≤190) (W:FAt st r u s) :
  ∃ c7' st',Qy (EW ns ls a r c4 (some (.res u)) (some (pl p)) c7) st = .nx (EW ns ls a r c4 (some (.res u)) (some (pl p)) c7') st'∧FAt st' r u ((Ye ls p).foldl (WS.add p) s)∧(∀ j x,j≠r→j≠u→st[j]?=some x→st'[j]?=some x):=by
 obtain ⟨st1,e1,h1,k1⟩:=ZeU ls hl p hp6 st
 have hr':r<st.length:=(List.getElem?_eq_some_iff.mp W.d).1
 have hu':u<st.length:=(List.getElem?_eq_some_iff.mp W.l).1
 have hn:=Zf9 ls p
 have W1:FAt st1 r u s:=⟨k1.fr r _ W.d,k1.fr u _ W.l⟩
 have hit:∀ st2:Sto,(∀ j,j≠r→j≠u→st2[j]?=st1[j]?)→itemsOf st2 (.res st.length)=some ((Z0 ls p).map pl):=fun st2 h2=>by
  have:=h2 st.length (by omega) (by omega)
  rw [h1] at this
  simp [itemsOf,ZS,this]
 obtain ⟨c7',st',g1,g2,g3⟩:=ZgD ns ls a c4 p r u hru (chk:=fun st2=>itemsOf st2 (.res st.length)=some ((Z0 ls p).map pl)) st1 hit (Z0 ls p) s c7 st1 hp (by omega) (by omega) W1 fun _ _ _=>rfl
 refine ⟨c7',st',?_,g2,fun j x h2 h3 h4=>by rw [g3 j h2 h3]; exact k1.fr j x h4⟩
 have i1:=hit st1 fun _ _ _=>rfl
 have hd:ZI (Zk Y3 (Zc (Za 1) (Zc (Za 6) Zf))) (EW ns ls a r c4 (some (.res u)) (some (pl p)) c7) st = .ok ((Z0 ls p).map pl,fun st2=>itemsOf st2 (.res st.length)=some ((Z0 ls p).map pl)) st1:=by
  unfold EW
  simp [-List.map_map,e1,i1]
 unfold Qy
 rw [Zae,hd]
 exact g1
theorem ZdC {ls:List Lk} (hls:∀ l∈ls,Few l):OkN (Ye ls):=fun p h6 ha x hx=>by
 unfold Ye at hx
 obtain ⟨g,hg,rfl⟩:=List.mem_map.mp hx
 obtain ⟨w,hw⟩:=lawN_mem.mp hg
 exact ZcL (x:=(w,g)) hls h6 ha hw
theorem ZfG (ns:List Int) (ls:List Lk) (hl:ls.length≤8) (hls:∀ l∈ls,Few l) (a:List Str) (c4:Option D) (r u:Nat) (hru:r≠u) {chk:Sto→Prop} (st0:Sto) (hchk:∀ st,(∀ j x,j≠r→j≠u→st0[j]?=some x→st[j]?=some x)→chk st) :
  ∀ (ring:List (List Str)) (s:WS) (c6 c7:Option D) (st:Sto),GW s→(∀ p∈ring,p∈s.ks)→FAt st r u s→(∀ j x,j≠r→j≠u→st0[j]?=some x→st[j]?=some x) →
  ∃ c6' c7' st',Zz chk (Zp 6) Qy (ring.map pl) (EW ns ls a r c4 (some (.res u)) c6 c7) st = .nx (EW ns ls a r c4 (some (.res u)) c6' c7') st'∧FAt st' r u (ZX (Ye ls) ring s)∧GW (ZX (Ye ls) ring s)∧(∀ j x,j≠r→j≠u→st0[j]?=some x→st'[j]?=some x)
 | [],s,c6,c7,st,g,_,W,hj=>⟨c6,c7,st,YU (hchk st hj),W,g,hj⟩
 | p :: ring,s,c6,c7,st,g,hr,W,hj=>by
  have hp:=hr p (List.mem_cons_self ..)
  obtain ⟨b1,b2,b3⟩:=g.bounds
  obtain ⟨c7',st1,e1,W1,k1⟩:=Zj3 ns ls hl a c4 p (b1 p hp).1 r u hru s c7 st hp b2 b3 W
  obtain ⟨d6,d7,st2,e2,W2,g2,k2⟩:=ZfG ns ls hl hls a c4 r u hru st0 hchk ring _ (some (pl p)) c7' st1 (g.nextN (ZdC hls) hp) (fun q hq=>WS.fold_ks _ s q (hr q (List.mem_cons_of_mem _ hq))) W1 fun j x h1 h2 h3=>k1 j x h1 h2 (hj j x h1 h2 h3)
  refine ⟨d6,d7,st2,?_,W2,g2,k2⟩
  rw [List.map_cons,Yo (hchk st hj) (ρ1:=EW ns ls a r c4 (some (.res u)) (some (pl p)) c7) rfl e1]
  exact e2
theorem Ziy (ns:List Int) (ls:List Lk) (hl:ls.length≤8) (hls:∀ l∈ls,Few l) (a:List Str) (r:Nat) (s:WS) (ring:List (List Str)) (dr:D) (c5 c6 c7:Option D) (st:Sto) (hr:st[r]?=some (.dtt (dpl (fun q => .int (s.f q).length) s.ks))) (hdr:∀ st':Sto,(∀ j x,j≠r→j≠st.length→st[j]?=some x→st'[j]?=some x)→itemsOf st' dr=some (ring.map pl)) (g:GW ⟨s.f,s.ks,[]⟩) (hring:∀ p∈ring,p∈s.ks) :
  ∃ c6' c7' st',(Zl (Yj 5 (ZL Zf)) (Zl (Yc (ZI (Za 4)) (Zp 6) Qy) (Zw 4 (Za 5)))) (EW ns ls a r (some dr) c5 c6 c7) st = .nx (EW ns ls a r (some (.res st.length)) (some (.res st.length)) c6' c7') st'∧FAt st' r st.length (ZX (Ye ls) ring ⟨s.f,s.ks,[]⟩)∧GW (ZX (Ye ls) ring ⟨s.f,s.ks,[]⟩)∧(∀ j x,j≠r→st[j]?=some x→st'[j]?=some x):=by
 have hr':r<st.length:=(List.getElem?_eq_some_iff.mp hr).1
 have q0:(0:Nat)≤small:=by decide
 have app:∀ j x,st[j]?=some x→(st++[S.lst []])[j]?=some x:=fun j x h=>by
  rw [List.getElem?_append_left (List.getElem?_eq_some_iff.mp h).1]; exact h
 have W0:FAt (st++[.lst []]) r st.length ⟨s.f,s.ks,[]⟩:=⟨app r _ hr,by simp⟩
 have hch:∀ st':Sto,(∀ j x,j≠r→j≠st.length→(st++[S.lst []])[j]?=some x→st'[j]?=some x)→itemsOf st' dr=some (ring.map pl):=fun st' h=>hdr st' fun j x h1 h2 h3=>h j x h1 h2 (app j x h3)
 obtain ⟨c6',c7',st',e,W,g2,k⟩:=ZfG ns ls hl hls a (some dr) r st.length (by omega) (chk:=fun st2=>itemsOf st2 dr=some (ring.map pl)) (st++[.lst []]) hch ring ⟨s.f,s.ks,[]⟩ c6 c7 (st++[.lst []]) g hring W0 fun j x _ _ h=>h
 refine ⟨c6',c7',st',?_,W,g2,fun j x h1 h2=>k j x h1 (by have:=(List.getElem?_eq_some_iff.mp h2).1; omega) (app j x h2)⟩
 have i1:=hch (st++[.lst []]) fun j x _ _ h=>h
 have s1:Yj 5 (ZL Zf) (EW ns ls a r (some dr) c5 c6 c7) st = .nx (EW ns ls a r (some dr) (some (.res st.length)) c6 c7) (st++[.lst []]):=by
  unfold EW
  simp [q0]
 have hd:ZI (Za 4) (EW ns ls a r (some dr) (some (.res st.length)) c6 c7) (st++[.lst []]) = .ok (ring.map pl,fun st2=>itemsOf st2 dr=some (ring.map pl)) (st++[.lst []]):=by
  unfold EW
  simp [-List.map_map,i1]
 rw [YS s1,YS (by rw [Zae,hd]; exact e)]
 rfl
structure RowAt (st:Sto) (r:Nat) (dr:D) (ring:List (List Str)):Prop where
 it:∀ st':Sto,(∀ j x,j≠r→st[j]?=some x→st'[j]?=some x)→itemsOf st' dr=some (ring.map pl)∧neD dr (.lst []) st' = .ok (.bl (!ring.isEmpty)) st'
theorem Zno {st:Sto} {r u:Nat} (hu:u≠r) {ring:List (List Str)} (h:st[u]?=some (.lst (ring.map pl))):RowAt st r (.res u) ring:=⟨fun st' k=>by
 have h2:=k u _ hu h
 refine ⟨by simp [itemsOf,ZS,h2],?_⟩
 have:=ZgA h2
 unfold eqD at this
 unfold neD
 revert this
 cases eqN st' depth (.res u) (.lst []) with
 | none=>intro h; cases h
 | some b =>
  intro h
  simp only [Out.ok.injEq,D.bl.injEq,and_true] at h ⊢
  rw [h,List.isEmpty_map]⟩
theorem ZfO (ns:List Int) (ls:List Lk) (hl:ls.length≤8) (hls:∀ l∈ls,Few l) (a:List Str) (r:Nat) :
  ∀ (n:Nat) (ring:List (List Str)) (s s':WS) (dr:D) (c5 c6 c7:Option D) (st:Sto),YY (Ye ls) none n ring s=some s'→GW s→(∀ p∈ring,p∈s.ks)→st[r]?=some (.dtt (dpl (fun q => .int (s.f q).length) s.ks))→RowAt st r dr ring →
  ∃ c4' c5' c6' c7' st',YL n (dB (Ze neD (Za 4) (dF (ZL Zf)))) (Zl (Yj 5 (ZL Zf)) (Zl (Yc (ZI (Za 4)) (Zp 6) Qy) (Zw 4 (Za 5)))) (EW ns ls a r (some dr) c5 c6 c7) st = .nx (EW ns ls a r c4' c5' c6' c7') st'∧st'[r]?=some (.dtt (dpl (fun q => .int (s'.f q).length) s'.ks))∧GW s'
 | 0,_,_,_,_,_,_,_,_,e,_,_,_,_=>by cases e
 | n+1,ring,s,s',dr,c5,c6,c7,st,e,g,hring,hr,R=>by
  obtain ⟨i1,i2⟩:=R.it st fun _ _ _ h=>h
  have q0:(0:Nat)≤small:=by decide
  have t:dB (Ze neD (Za 4) (dF (ZL Zf))) (EW ns ls a r (some dr) c5 c6 c7) st = .ok (!ring.isEmpty) st:=by
   unfold EW
   simp [q0,i2]
  unfold YY at e
  unfold YL
  rw [t,ZcV]
  by_cases c:0<ring.length∧seen none s.ks=false
  ·rw [if_pos c] at e
   have hne:(!ring.isEmpty)=true:=by
    cases ring with
    | nil=>simp at c
    | cons _ _=>rfl
   rw [if_pos hne]
   obtain ⟨d6,d7,st1,e1,W1,g1,k1⟩:=Ziy ns ls hl hls a r s ring dr c5 c6 c7 st hr (fun st' h=>(R.it st' fun j x h1 h2=>h j x h1 (by have:=(List.getElem?_eq_some_iff.mp h2).1; omega) h2).1) g.zero.1 hring
   have hr':r<st.length:=(List.getElem?_eq_some_iff.mp hr).1
   obtain ⟨f4,f5,f6,f7,st2,e2,r2,g2⟩:=ZfO ns ls hl hls a r n _ _ s' (.res st.length) (some (.res st.length)) d6 d7 st1 e g1 g1.sub W1.d (Zno (by omega) W1.l)
   refine ⟨f4,f5,f6,f7,st2,?_,r2,g2⟩
   rw [e1]
   exact e2
  ·rw [if_neg c] at e
   cases e
   have hne:¬ (!ring.isEmpty)=true:=by
    cases ring with
    | nil=>simp
    | cons _ _=>exact absurd ⟨by simp,rfl⟩ c
   rw [if_neg hne]
   exact ⟨some dr,c5,c6,c7,st,rfl,hr,g⟩
theorem Zie {a b:List (List Str)} (ha:a.Nodup) (hb:b.Nodup) (h:∀ x,x∈a ↔ x∈b):Zs a=Zs b:=by
 refine (ZfW (ps:=b) (qs:=Zs a) ((Y8 a).trans ((List.perm_ext_iff_of_nodup ha hb).mpr h)) ?_)
 refine List.Pairwise.imp₂ (R:=fun a b=>Wq a b=true) (S:=fun a b=>a≠b) (fun a b h1 h2 => ?_) (ZdJ _) ((Y8 a).nodup_iff.mpr ha)
 have h3:plB b a=false:=by
  have:(!plB b a)=true:=h1
  simpa using this
 exact Zam (Ne.symm h2) h3
noncomputable def EX (ns:List Int) (ls:List Lk) (a:List Str) (r:Nat) (c4 c5 c6 c7 c8 c9 c10 c11 c12:Option D):Ev:=[some (.scr (ns.map .int)),some (Zj ls),some (pl a),some (.res r),c4,c5,c6,c7,c8,c9,c10,c11,c12]
theorem ZeI (ps:List (List Str)):nice depth (.lst (ps.map pl))=true:=by
 have h:∀ ps:List (List Str),Wv 49 (ps.map pl)=true:=by
  intro ps
  induction ps with
  | nil=>rfl
  | cons p ps ih =>
   rw [List.map_cons]
   unfold Wv
   rw [ih,show nice (47+2) (pl p)=true from Zdh 47 p]
   rfl
 exact h ps
theorem ZdV {N M:List Str→List (Str×List Str)} (h:∀ p w q,(w,q)∈N p→∃ w',(w',q)∈M p) {a ws q:List Str} (x:Wk N a ws q):∃ us,us.length=ws.length∧Wk M a us q:=by
 induction x with
 | nil=>exact ⟨[],rfl,Wk.nil⟩
 | snoc _ h2 ih =>
  obtain ⟨us,e,w⟩:=ih
  obtain ⟨w',h3⟩:=h _ _ _ h2
  exact ⟨us++[w'],by simp [e],Wk.snoc w h3⟩
theorem Zgy {ls:List Lk} {a ws q:List Str} (x:Wk (Zu ls) a ws q):∃ us,us.length=ws.length∧Wk (Ye ls) a us q :=
 ZdV (fun p w q h => ⟨"", List.mem_map.mpr ⟨q, lawN_mem.mpr ⟨w, h⟩, rfl⟩⟩) x
theorem Ze6 {ls:List Lk} {a ws q:List Str} (x:Wk (Ye ls) a ws q):∃ us,us.length=ws.length∧Wk (Zu ls) a us q :=
 ZdV (fun p w q h=>by
  obtain ⟨g,hg,e⟩:=List.mem_map.mp h
  have e2:g=q:=congrArg Prod.snd e
  rw [e2] at hg
  exact lawN_mem.mp hg) x
theorem ZaN {ls:List Lk} {a:List Str} {s:WS} (b:Best (Ye ls) a none s) (q:List Str):q∈s.ks ↔ ∃ ws,Wk (Zu ls) a ws q:=by
 constructor
 ·intro h
  obtain ⟨us,_,w⟩:=Ze6 (b.wk q h)
  exact ⟨us,w⟩
 ·rintro ⟨ws,w⟩
  obtain ⟨us,_,w'⟩:=Zgy w
  rcases b.all with ⟨g',e,_⟩ | h2
  ·cases e
  ·exact h2 us q w'
theorem Zeg {ls:List Lk} {a:List Str} {s:WS} (g:GW s) (b:Best (Ye ls) a none s) {E:List (List Str)} (r:Rd (Zu ls) a E):E=Zs s.ks:=by
 obtain ⟨ks,e,hn⟩:=r.srt
 rw [e]
 refine Zie hn g.nd fun x => ?_
 rw [ZaN b x,← r.mem x,e,(Y8 ks).mem_iff]
theorem Zi2 {ls:List Lk} {a g:List Str} {s:WS} (b:Best (Ye ls) a none s) {ws:List Str} (h:ShO (Zu ls) a g (some ws)):ws.length=(s.f g).length:=by
 have hm:g∈s.ks:=(ZaN b g).2 ⟨ws,h.1⟩
 obtain ⟨us,e1,w1⟩:=Ze6 (b.wk g hm)
 obtain ⟨vs,e2,w2⟩:=Zgy h.1
 have h1:=h.2.1 us w1
 have h2:=b.best g hm vs w2
 omega
section
variable {ns:List Int} {ls:List Lk} {a:List Str} {r:Nat} {s:WS}
theorem Zlp (hl:ls.length≤8) (hls:∀ l∈ls,Few l) (h6:a.length≤6) (ha:∀ w∈a,abW w) (g:GW s) (b:Best (Ye ls) a none s) (c4 c5 c6 c7 c8 c9 c10 c11 c12:Option D) (st:Sto) (hr:st[r]?=some (.dtt (dpl (fun q => .int (s.f q).length) s.ks))) :
  ∃ st',Za5 (EX ns ls a r c4 c5 c6 c7 c8 c9 c10 c11 c12) st = .nx (EX ns ls a r c4 c5 c6 c7 c8 c9 c10 c11 c12) st'∧StoK st st':=by
 obtain ⟨E,st1,e1,k1,rE⟩:=Zfa hl hls a h6 ha st
 have e2:=ZaW g (k1.fr _ _ hr)
 rw [Zeg g b rE] at e1
 have e3:=Zjx (ZeI (Zs s.ks)) st1
 refine ⟨st1,?_,k1⟩
 unfold Za5 EX
 generalize (Zs s.ks).map pl=L at *
 simp [e1,e2,e3]
theorem ZiE (ls:List Lk) (p:List Str):((Z0 ls p).filter fun g => !decide (g=p)).isEmpty = !onV ls p:=by
 have h1:onV ls p=true ↔ ((Z0 ls p).filter fun g => !decide (g=p))≠[]:=by
  unfold onV
  rw [List.any_eq_true]
  constructor
  ·rintro ⟨x,hx,hn⟩ e
   have:x.2∈(Z0 ls p).filter fun g => !decide (g=p):=List.mem_filter.mpr ⟨lawN_mem.mpr ⟨x.1,hx⟩,hn⟩
   rw [e] at this
   cases this
  ·intro hne
   obtain ⟨g,hg⟩:=List.exists_mem_of_ne_nil _ hne
   obtain ⟨h2,h3⟩:=List.mem_filter.mp hg
   obtain ⟨w,hw⟩:=lawN_mem.mp h2
   exact ⟨(w,g),hw,h3⟩
 cases ho:onV ls p with
 | true =>
  have:=h1.1 ho
  simpa using this
 | false =>
  have:((Z0 ls p).filter fun g => !decide (g=p))=[]:=Classical.byContradiction fun hne=>by
   rw [h1.2 hne] at ho
   cases ho
  rw [this]
  rfl
theorem Ziz (hl:ls.length≤8) (p:List Str) (hp:p.length≤6) (u:Nat) (c4 c5 c7 c9 c10 c11 c12:Option D) (acc:List (List Str)) (hacc:acc.length≤200) (st:Sto) (hu:st[u]?=some (.lst (acc.map pl))) :
  ∃ st',ZaI (EX ns ls a r c4 c5 (some (pl p)) c7 (some (.res u)) c9 c10 c11 c12) st = .nx (EX ns ls a r c4 c5 (some (pl p)) c7 (some (.res u)) c9 c10 c11 c12) st'∧st'[u]?=some (.lst ((acc++if onV ls p then [] else [p]).map pl))∧(∀ j x,j≠u→st[j]?=some x→st'[j]?=some x):=by
 obtain ⟨st1,e1,h1,k1⟩:=ZeU ls hl p hp st
 have hn:=Zf9 ls p
 have i1:=getL h1
 have hu1:=k1.fr _ _ hu
 have e2:ZU (fun st2=>itemsOf st2 (.res st.length)=some ((Z0 ls p).map pl)) (Zp 0) Zcr ZcS ((Z0 ls p).map pl) [none,some (pl p)] st1 [] = .ok (((Z0 ls p).filter fun g => !decide (g=p)).map pl) st1:=by
  rw [QM pl (fun g => !decide (g=p)) pl (fun ρ => ∃ x,ρ=[x,some (pl p)]) i1 _ _ [] ⟨_,rfl⟩ (by simp; exact Yx (by omega))]
  ·simp
  ·rintro g _ ρ ⟨x,rfl⟩
   refine ⟨_,rfl,⟨_,rfl⟩,?_,fun _ => ?_⟩
   ·have q:=Zd1 g p st1
    unfold Zcr
    simp [q]
   ·unfold ZcS
    simp
 have hof:=ZiE ls p
 generalize (Z0 ls p).filter (fun g => !decide (g=p))=fs at *
 have e3:eqD (.lst (fs.map pl)) (.lst []) st1 = .ok (.bl (!onV ls p)) st1:=by
  rw [ZbI (ZeI fs) rfl,← hof]
  congr 2
  cases fs with
  | nil=>simp
  | cons _ _=>simp
 have q0:(0:Nat)≤small:=by decide
 cases ho:onV ls p with
 | true =>
  rw [ho] at e3
  refine ⟨st1,?_,by simpa using hu1,fun j x _ h=>k1.fr j x h⟩
  unfold ZaI EX
  generalize fs.map pl=xs at *
  generalize (Z0 ls p).map pl=ys at *
  simp [e1,i1,Z6,e2,e3,q0]
 | false =>
  rw [ho] at e3
  have hs:acc.length<small:=Nat.lt_of_le_of_lt hacc (by decide)
  refine ⟨st1.set u (.lst (acc.map pl++[pl p])),?_,?_,fun j x h1 h2 => ?_⟩
  ·unfold ZaI EX
   generalize fs.map pl=xs at *
   generalize (Z0 ls p).map pl=ys at *
   simp [e1,i1,Z6,e2,e3,q0,Yv,hu1,hs]
  ·rw [Q1 hu1]
   simp
  ·rw [List.getElem?_set_ne (Ne.symm h1)]
   exact k1.fr j x h2
theorem ZfN {chk:Sto→Prop} (hchk:∀ st,chk st) (hl:ls.length≤8) (u:Nat) (c4 c5 c7 c9 c10 c11 c12:Option D):∀ (ps acc:List (List Str)) (c6:Option D) (st:Sto),(∀ p∈ps,p.length≤6)→acc.length+ps.length≤200→st[u]?=some (.lst (acc.map pl)) →
  ∃ c6' st',Zz chk (Zp 6) ZaI (ps.map pl) (EX ns ls a r c4 c5 c6 c7 (some (.res u)) c9 c10 c11 c12) st = .nx (EX ns ls a r c4 c5 c6' c7 (some (.res u)) c9 c10 c11 c12) st'∧st'[u]?=some (.lst ((acc++ps.filter fun p => !onV ls p).map pl))∧(∀ j x,j≠u→st[j]?=some x→st'[j]?=some x)
 | [],acc,c6,st,_,_,h=>⟨c6,st,YU (hchk st),by simpa using h,fun _ _ _ h=>h⟩
 | p :: ps,acc,c6,st,h6,hla,h=>by
  obtain ⟨st1,e1,h1,k1⟩:=Ziz (ns:=ns) (a:=a) (r:=r) hl p (h6 p (List.mem_cons_self ..)) u c4 c5 c7 c9 c10 c11 c12 acc (by simp at hla; omega) st h
  obtain ⟨c6',st2,e2,h2,k2⟩:=ZfN hchk hl u c4 c5 c7 c9 c10 c11 c12 ps (acc++if onV ls p then [] else [p]) (some (pl p)) st1 (fun q hq=>h6 q (List.mem_cons_of_mem _ hq)) (by
   have:(if onV ls p then ([]:List (List Str)) else [p]).length≤1:=by split <;> simp
   simp at hla ⊢
   omega) h1
  refine ⟨c6',st2,?_,?_,fun j x h3 h4=>k2 j x h3 (k1 j x h3 h4)⟩
  ·rw [List.map_cons,Yo (hchk st) (ρ1:=EX ns ls a r c4 c5 (some (pl p)) c7 (some (.res u)) c9 c10 c11 c12) rfl e1]
   exact e2
  ·rw [h2]
   cases ho:onV ls p <;> simp [ho]
theorem Zlq (hl:ls.length≤8) (hls:∀ l∈ls,Few l) (h6:a.length≤6) (ha:∀ w∈a,abW w) (g:GW s) (b:Best (Ye ls) a none s) (u:Nat) (c4 c5 c6 c7 c9 c10 c11 c12:Option D) (st:Sto) (hu:st[u]?=some (.lst (((Zs s.ks).filter fun p => !onV ls p).map pl))) :
  ∃ st',ZbM (EX ns ls a r c4 c5 c6 c7 (some (.res u)) c9 c10 c11 c12) st = .nx (EX ns ls a r c4 c5 c6 c7 (some (.res u)) c9 c10 c11 c12) st'∧StoK st st':=by
 obtain ⟨E,st1,e1,k1,rE⟩:=Znw hl hls a h6 ha st
 rw [Zeg g b rE] at e1
 have hu1:=k1.fr _ _ hu
 have e3:neD (.lst (((Zs s.ks).filter fun p => !onV ls p).map pl)) (.res u) st1 = .ok (.bl false) st1:=ZlR (X:=((Zs s.ks).filter fun p => !onV ls p).map pl) rfl (Zi4 hu1) fun x hx=>by
  obtain ⟨p,_,rfl⟩:=List.mem_map.mp hx
  exact Zdh 47 p
 refine ⟨st1,?_,k1⟩
 unfold ZbM EX
 generalize ((Zs s.ks).filter fun p => !onV ls p).map pl=L at *
 simp [e1,e3]
theorem ZjN (hl:ls.length≤8) (hls:∀ l∈ls,Few l) (h6:a.length≤6) (ha:∀ w∈a,abW w) (b:Best (Ye ls) a none s) (g:List Str) (c4 c5 c6 c7 c8 c9 c10 c12:Option D) (st:Sto) (hr:st[r]?=some (.dtt (dpl (fun q => .int (s.f q).length) s.ks))) :
  ∃ c12' st',ZbJ (EX ns ls a r c4 c5 c6 c7 c8 c9 c10 (some (pl g)) c12) st = .nx (EX ns ls a r c4 c5 c6 c7 c8 c9 c10 (some (pl g)) c12') st'∧StoK st st':=by
 obtain ⟨o,st1,e1,k1,sh⟩:=Zk7 hl hls a h6 ha g st
 have hr1:=k1.fr _ _ hr
 have hset:Zw 12 (Zk WJ (Zc (Za 1) (Zc (Za 2) (Zc (Za 11) Zf)))) (EX ns ls a r c4 c5 c6 c7 c8 c9 c10 (some (pl g)) c12) st = .nx (EX ns ls a r c4 c5 c6 c7 c8 c9 c10 (some (pl g)) (some (Zy o))) st1:=by
  unfold EX
  simp [e1]
 have q1:Ys (pl g) (.res r) st1 = .ok (.bl (!decide (g∈s.ks))) st1:=by
  show YX (pl g) (.res r) st1=_
  unfold YX
  rw [WM hr1 g]
  by_cases h:g∈s.ks <;> simp [h]
 have q2:=Zj1 o st1
 have q3:=Zco o st1
 refine ⟨some (Zy o),st1,?_,k1⟩
 unfold ZbJ
 rw [YS hset]
 cases o with
 | none =>
  have hg:g ∉ s.ks:=fun h=>by
   obtain ⟨ws,w⟩:=(ZaN b g).1 h
   exact sh ws w
  rw [decide_eq_false hg] at q1
  have q2':isD .non .non st1 = .ok (.bl true) st1:=q2
  have q3':Yf .non .non st1 = .ok (.bl false) st1:=q3
  have t1:dB (Ze neD (Ze isD (Za 12) (dC .non)) (Ze Ys (Za 11) (Za 3))) (EX ns ls a r c4 c5 c6 c7 c8 c9 c10 (some (pl g)) (some .non)) st1 = .ok false st1:=ZfF (st1:=st1) true (by unfold EX; simp [q2']) (by unfold EX; simp [q1])
  have t2:dB (Ze Yf (Za 12) (dC .non)) (EX ns ls a r c4 c5 c6 c7 c8 c9 c10 (some (pl g)) (some .non)) st1 = .ok false st1:=by unfold EX; simp [q3']
  show Zl _ _ (EX ns ls a r c4 c5 c6 c7 c8 c9 c10 (some (pl g)) (some .non)) st1 = .nx (EX ns ls a r c4 c5 c6 c7 c8 c9 c10 (some (pl g)) (some .non)) st1
  rw [YS (ZaU (ZfH t1 (ZbU t2)))]
  exact ZaU (ZbU t2)
 | some ws =>
  have hg:g∈s.ks:=(ZaN b g).2 ⟨ws,sh.1⟩
  rw [decide_eq_true hg] at q1
  have q2':isD (pl ws) .non st1 = .ok (.bl false) st1:=q2
  have q3':Yf (pl ws) .non st1 = .ok (.bl true) st1:=q3
  have t1:dB (Ze neD (Ze isD (Za 12) (dC .non)) (Ze Ys (Za 11) (Za 3))) (EX ns ls a r c4 c5 c6 c7 c8 c9 c10 (some (pl g)) (some (pl ws))) st1 = .ok false st1:=ZfF (st1:=st1) false (by unfold EX; simp [q2']) (by unfold EX; simp [q1])
  have t2:dB (Ze Yf (Za 12) (dC .non)) (EX ns ls a r c4 c5 c6 c7 c8 c9 c10 (some (pl g)) (some (pl ws))) st1 = .ok true st1:=by unfold EX; simp [q3']
  have ty : tyName (pl ws) = some "tuple" := rfl
  have sb : Qu "tuple" "tuple" = true := rfl
  have t3 : ZaG (dB (ZaZ "tuple" (Za 12))) (EX ns ls a r c4 c5 c6 c7 c8 c9 c10 (some (pl g)) (some (pl ws))) st1 = .ok false st1 := by unfold EX; simp [ty, sb]
  have l1:=ZbF ws st1
  rw [Zi2 b sh] at l1
  have e2:dAt st1 (.res r) (pl g)=some (some (.int (s.f g).length)):=by rw [WM hr1 g,if_pos hg]
  have n1:=Zha ((s.f g).length:Int) ((s.f g).length:Int) st1
  rw [decide_eq_true rfl] at n1
  have t4:dB (Ze neD (Zk ZO (Zc (Za 12) Zf)) (WB (Za 3) (Za 11))) (EX ns ls a r c4 c5 c6 c7 c8 c9 c10 (some (pl g)) (some (pl ws))) st1 = .ok false st1:=by
   unfold EX
   generalize ((s.f g).length:Int)=n at *
   simp [l1,WB,e2,n1]
  show Zl _ _ (EX ns ls a r c4 c5 c6 c7 c8 c9 c10 (some (pl g)) (some (pl ws))) st1 = .nx (EX ns ls a r c4 c5 c6 c7 c8 c9 c10 (some (pl g)) (some (pl ws))) st1
  rw [YS (ZaU (ZfH t1 (Zcg t2 t3)))]
  exact ZaU (Zcg t2 t4)
theorem Zd0 {chk:Sto→Prop} (hchk:∀ st,chk st) (hl:ls.length≤8) (hls:∀ l∈ls,Few l) (h6:a.length≤6) (ha:∀ w∈a,abW w) (b:Best (Ye ls) a none s) (c4 c5 c6 c7 c8 c9 c10:Option D):∀ (gs:List (List Str)) (c11 c12:Option D) (st:Sto),st[r]?=some (.dtt (dpl (fun q => .int (s.f q).length) s.ks)) →
  ∃ c11' c12' st',Zz chk (Zp 11) ZbJ (gs.map pl) (EX ns ls a r c4 c5 c6 c7 c8 c9 c10 c11 c12) st = .nx (EX ns ls a r c4 c5 c6 c7 c8 c9 c10 c11' c12') st'
 | [],c11,c12,st,_=>⟨c11,c12,st,YU (hchk st)⟩
 | g :: gs,c11,c12,st,h=>by
  obtain ⟨d12,st1,e1,k1⟩:=ZjN (ns:=ns) hl hls h6 ha b g c4 c5 c6 c7 c8 c9 c10 c12 st h
  obtain ⟨f11,f12,st2,e2⟩:=Zd0 hchk hl hls h6 ha b c4 c5 c6 c7 c8 c9 c10 gs (some (pl g)) d12 st1 (k1.fr _ _ h)
  refine ⟨f11,f12,st2,?_⟩
  rw [List.map_cons,Yo (hchk st) (ρ1:=EX ns ls a r c4 c5 c6 c7 c8 c9 c10 (some (pl g)) c12) rfl e1]
  exact e2
end
theorem Zk6 {xs:List D} (h:xs≠[]) (st:Sto):∃ d∈xs,ixD (.lst xs) (.int (-1)) st = .ok d st:=by
 have hp:=List.length_pos_iff.mpr h
 have hi:xs.length - 1<xs.length:=by omega
 refine ⟨xs[xs.length - 1],List.getElem_mem hi,?_⟩
 have e:L2.atI xs (-1)=some xs[xs.length - 1]:=by
  unfold L2.atI L2.ixN
  rw [if_neg (by omega),if_pos (by omega)]
  simp only [Option.bind_some]
  rw [show (-1+(xs.length:Int)).toNat=xs.length - 1 by omega]
  exact List.getElem?_eq_getElem hi
 simp only [ixD,itemsOf,ZS,e]
theorem law_true (ns:List Int) (hl:ns.length≤63):∃ st,Q0 [.scr (ns.map .int)] [] = .ok (.bl true) st:=by
 have hg:∃ st,ZbW [some (.scr (ns.map .int)),none,none,none,none,none,none,none,none,none,none,none,none] [] = .rt (.bl true) st:=by
  unfold ZbW
  obtain ⟨ls,e1,hm,hF,_⟩:=Zil ns hl 0 []
  have hl8:ls.length≤8:=by omega
  refine YQ (ρ':=[some (.scr (ns.map .int)),some (Zj ls),none,none,none,none,none,none,none,none,none,none,none]) (st':=[]) (by unfold ZcZ; simp [e1]) ?_
  obtain ⟨a,ha3,hab,e2⟩:=Zmj ns hl [] (ρ:=[some (.scr (ns.map .int)),some (Zj ls),none,none,none,none,none,none,none,none,none,none,none]) rfl
  have h6:a.length≤6:=by omega
  refine YQ (ρ':=[some (.scr (ns.map .int)),some (Zj ls),some (pl a),none,none,none,none,none,none,none,none,none,none]) (st':=[]) (by unfold ZcK; simp only [ZkQ,e2]; rfl) ?_
  have q0:(0:Nat)≤small:=by decide
  have q1:(1:Nat)≤small:=by decide
  have q2:(2:Nat)≤small:=by decide
  have q4:(4:Nat)≤small:=by decide
  have p1:Yz [.dtt []] (.res 0) (pl a) (.int 0)=some [.dtt (dpl (fun q => .int (((WS0 a).f q).length:Nat)) (WS0 a).ks)]:=by
   unfold Yz
   simp only [List.getElem?_cons_zero]
   rw [if_pos ⟨by rw [Qt]; rfl,by decide⟩]
   have e2:=Za6 (fun _=>D.non) [] a (.int 0)
   have e3:dpl (fun _=>D.non) []=[]:=rfl
   rw [e3] at e2
   rw [e2]
   simp [dpl,WS0]
  have hr:[S.dtt (dpl (fun q => .int (((WS0 a).f q).length:Nat)) (WS0 a).ks)][0]?=some (S.dtt (dpl (fun q => .int (((WS0 a).f q).length:Nat)) (WS0 a).ks)):=rfl
  generalize hst:[S.dtt (dpl (fun q => .int (((WS0 a).f q).length:Nat)) (WS0 a).ks)]=st1 at *
  refine YQ (ρ':=EX ns ls a 0 none none none none none none none none none) (st':=st1) (by unfold Zcs EX; simp [ZdU,q0,p1]) ?_
  refine YQ (ρ':=EW ns ls a 0 (some (.lst [pl a])) none none none) (st':=st1) (by unfold ZcM EX EW; simp [q1]) ?_
  obtain ⟨s,hw⟩:=ZdY (ZdC hF) a h6 hab none
  have R:RowAt st1 0 (.lst [pl a]) [a]:=⟨fun st' _=>⟨rfl,rfl⟩⟩
  obtain ⟨c4,c5,c6,c7,st2,e5,h2,g⟩:=ZfO ns ls hl8 hF a 0 130 [a] (WS0 a) s (.lst [pl a]) none none none st1 hw (GW.start h6 hab) (fun p hp=>hp) hr R
  have b:=ZfS hw
  refine YQ (ρ':=EX ns ls a 0 c4 c5 c6 c7 none none none none none) (st':=st2) e5 ?_
  obtain ⟨st3,e6,k6⟩:=Zlp (ns:=ns) hl8 hF h6 hab g b c4 c5 c6 c7 none none none none none st2 h2
  refine YQ e6 ?_
  have h3:=k6.fr _ _ h2
  refine YQ (ρ':=EX ns ls a 0 c4 c5 c6 c7 (some (.res st3.length)) none none none none) (st':=st3++[.lst []]) (by unfold Zct EX; simp [q0]) ?_
  have h4:(st3++[S.lst []])[0]?=some (.dtt (dpl (fun q => .int (s.f q).length) s.ks)):=(StoK.app st3 [.lst []]).fr _ _ h3
  have h3l:0<st3.length:=(List.getElem?_eq_some_iff.mp h3).1
  have hL:(Zs s.ks).length≤127:=by rw [(Y8 _).length_eq]; exact g.len.1
  have hLm:∀ p∈Zs s.ks,p.length≤6:=fun p hp=>(g.ab p ((Y8 _).mem_iff.mp hp)).1
  obtain ⟨d6,st4,e8,h5,k8⟩:=ZfN (ns:=ns) (a:=a) (r:=0) (chk:=fun _=>True) (fun _=>trivial) hl8 st3.length c4 c5 c7 none none none none (Zs s.ks) [] c6 (st3++[.lst []]) hLm (by simp; omega) (Qz _ _)
  have s8:=ZaW g h4
  refine YQ (ρ':=EX ns ls a 0 c4 c5 d6 c7 (some (.res st3.length)) none none none none) (st':=st4) ?_ ?_
  ·have hd:ZI (dF (Zk Wt (Zc (Za 3) Zf))) (EX ns ls a 0 c4 c5 c6 c7 (some (.res st3.length)) none none none none) (st3++[.lst []]) = .ok ((Zs s.ks).map pl,fun _=>True) (st3++[.lst []]):=by
    unfold EX
    have i1:∀ st2,itemsOf st2 (.lst ((Zs s.ks).map pl))=some ((Zs s.ks).map pl):=fun _=>rfl
    generalize (Zs s.ks).map pl=L at *
    simp [s8,i1]
   unfold Zcd
   rw [Zae,hd]
   exact e8
  rw [List.nil_append] at h5
  obtain ⟨st5,e9,k9⟩:=Zlq (ns:=ns) (r:=0) hl8 hF h6 hab g b st3.length c4 c5 d6 c7 none none none none st4 h5
  refine YQ e9 ?_
  have h6':st5[0]?=some (.dtt (dpl (fun q => .int (s.f q).length) s.ks)):=k9.fr _ _ (k8 0 _ (by omega) h4)
  have s9:=ZaW g h6'
  refine YQ (ρ':=EX ns ls a 0 c4 c5 d6 c7 (some (.res st3.length)) (some (.lst ((Zs s.ks).map pl))) none none none) (st':=st5) (by
   unfold ZcR EX
   generalize (Zs s.ks).map pl=L at *
   simp [s9]) ?_
  have hne:Zs s.ks≠[]:=fun e=>by
   have h1:a∈s.ks:=(ZaN b a).2 ⟨[],Wk.nil⟩
   have:=(Y8 s.ks).mem_iff.mpr h1
   rw [e] at this
   cases this
  have hk:(0:Int)<((Zs s.ks).length:Int):=by have:=List.length_pos_iff.mpr hne; omega
  have d1:=Wz ns hl 110 ((Zs s.ks).length:Int) hk st5
  obtain ⟨d,hd,x1⟩:=Zbg (xs:=(Zs s.ks).map pl) (Y9 ns 110 ((Zs s.ks).length:Int) hk) (by rw [List.length_map]; exact Y6 ns 110 ((Zs s.ks).length:Int) hk) st5
  obtain ⟨g1,_,rfl⟩:=List.mem_map.mp hd
  obtain ⟨d',hd',x2⟩:=Zk6 (xs:=(Zs s.ks).map pl) (by simpa using hne) st5
  obtain ⟨g2,_,rfl⟩:=List.mem_map.mp hd'
  have l1:=ZhM ((Zs s.ks).map pl) st5
  rw [List.length_map] at l1
  refine YQ (ρ' := EX ns ls a 0 c4 c5 d6 c7 (some (.res st3.length)) (some (.lst ((Zs s.ks).map pl))) (some (.lst ([a, g2, g1, ["a", "b"]].map pl))) none none) (st' := st5) (by
   unfold ZcN EX
   generalize (Zs s.ks).map pl=L at *
   generalize ((Zs s.ks).length:Int)=n at *
   simp [d1,x1,x2,l1,q2,q4]
   rfl) ?_
  obtain ⟨f11, f12, st6, e12⟩ := Zd0 (ns := ns) (r := 0) (chk := fun _ => True) (fun _ => trivial) hl8 hF h6 hab b c4 c5 d6 c7 (some (.res st3.length)) (some (.lst ((Zs s.ks).map pl))) (some (.lst ([a, g2, g1, ["a", "b"]].map pl))) [a, g2, g1, ["a", "b"]] none none st5 h6'
  refine YQ (ρ' := EX ns ls a 0 c4 c5 d6 c7 (some (.res st3.length)) (some (.lst ((Zs s.ks).map pl))) (some (.lst ([a, g2, g1, ["a", "b"]].map pl))) f11 f12) (st' := st6) ?_ ?_
  ·have hd : ZI (Za 10) (EX ns ls a 0 c4 c5 d6 c7 (some (.res st3.length)) (some (.lst ((Zs s.ks).map pl))) (some (.lst ([a, g2, g1, ["a", "b"]].map pl))) none none) st5 = .ok ([a, g2, g1, ["a", "b"]].map pl, fun _ => True) st5 := by
    unfold EX
    have i1 : ∀ st2, itemsOf st2 (.lst ([a, g2, g1, ["a", "b"]].map pl)) = some ([a, g2, g1, ["a", "b"]].map pl) := fun _ => rfl
    generalize [a, g2, g1, ["a", "b"]].map pl = L at *
    simp [i1]
   unfold Zcv
   rw [Zae,hd]
   exact e12
  exact ⟨st6,rfl⟩
 obtain ⟨st,e⟩:=hg
 exact ⟨st,by unfold Q0; simp [e]⟩
end K52
end
section
set_option maxHeartbeats 2000000
namespace K52
open PySem L2 DL
theorem all_mk {l : PySem.W.OpenLaw} {w : World} {K : PySem.W.Frag} {h : Heap} {mg : Str → Option Value} {fa f0 f1 f2 f3 f4 f5 f6 f7 f8 f9 f10 f11 f12 f13 f14 f15 f16 f17 f18  : Addr} (X : K.In h) (G : h.Ns mainGlobals mg) (hfa : mg "law" = some (.ref fa))
  {od0 an0:Option Addr} {sl0:Array (Option Value)} {oc0 kV0 dc0 pm0 cd0 ct0:Value}
  {od1 an1:Option Addr} {sl1:Array (Option Value)} {oc1 kV1 dc1 pm1 cd1 ct1:Value}
  {od2 an2:Option Addr} {sl2:Array (Option Value)} {oc2 kV2 dc2 pm2 cd2 ct2:Value}
  {od3 an3:Option Addr} {sl3:Array (Option Value)} {oc3 kV3 dc3 pm3 cd3 ct3:Value}
  {od4 an4:Option Addr} {sl4:Array (Option Value)} {oc4 kV4 dc4 pm4 cd4 ct4:Value}
  {od5 an5:Option Addr} {sl5:Array (Option Value)} {oc5 kV5 dc5 pm5 cd5 ct5:Value}
  {od6 an6:Option Addr} {sl6:Array (Option Value)} {oc6 kV6 dc6 pm6 cd6 ct6:Value}
  {od7 an7:Option Addr} {sl7:Array (Option Value)} {oc7 kV7 dc7 pm7 cd7 ct7:Value}
  {od8 an8:Option Addr} {sl8:Array (Option Value)} {oc8 kV8 dc8 pm8 cd8 ct8:Value}
  {od9 an9:Option Addr} {sl9:Array (Option Value)} {oc9 kV9 dc9 pm9 cd9 ct9:Value}
  {od10 an10:Option Addr} {sl10:Array (Option Value)} {oc10 kV10 dc10 pm10 cd10 ct10:Value}
  {od11 an11:Option Addr} {sl11:Array (Option Value)} {oc11 kV11 dc11 pm11 cd11 ct11:Value}
  {od12 an12:Option Addr} {sl12:Array (Option Value)} {oc12 kV12 dc12 pm12 cd12 ct12:Value}
  {od13 an13:Option Addr} {sl13:Array (Option Value)} {oc13 kV13 dc13 pm13 cd13 ct13:Value}
  {od14 an14:Option Addr} {sl14:Array (Option Value)} {oc14 kV14 dc14 pm14 cd14 ct14:Value}
  {od15 an15:Option Addr} {sl15:Array (Option Value)} {oc15 kV15 dc15 pm15 cd15 ct15:Value}
  {od16 an16:Option Addr} {sl16:Array (Option Value)} {oc16 kV16 dc16 pm16 cd16 ct16:Value}
  {od17 an17:Option Addr} {sl17:Array (Option Value)} {oc17 kV17 dc17 pm17 cd17 ct17:Value}
  {od18 an18:Option Addr} {sl18:Array (Option Value)} {oc18 kV18 dc18 pm18 cd18 ct18:Value}
  (a0 : PySem.W.nsIn K mainGlobals "_law_cell" = some (some (.ref f0))) (l0 : K.lookup f0 = some ⟨oc0, od0, .func (PySem.W.fnOf "_law_cell" "_law_cell" (ZT QB) (Zv QB) (Zi QB) .none kV0 dc0 pm0 an0 cd0 ct0), sl0⟩) (c0 : PySem.W.codeIn K cd0 "_law_cell" = true) (k0 : PySem.W.keepIn K (.ref f0) = true)
  (a1 : PySem.W.nsIn K mainGlobals "_law_drawn" = some (some (.ref f1))) (l1 : K.lookup f1 = some ⟨oc1, od1, .func (PySem.W.fnOf "_law_drawn" "_law_drawn" (ZT QS) (Zv QS) (Zi QS) .none kV1 dc1 pm1 an1 cd1 ct1), sl1⟩) (c1 : PySem.W.codeIn K cd1 "_law_drawn" = true) (k1 : PySem.W.keepIn K (.ref f1) = true)
  (a2 : PySem.W.nsIn K mainGlobals "_law_few" = some (some (.ref f2))) (l2 : K.lookup f2 = some ⟨oc2, od2, .func (PySem.W.fnOf "_law_few" "_law_few" (ZT Qo) (Zv Qo) (Zi Qo) .none kV2 dc2 pm2 an2 cd2 ct2), sl2⟩) (c2 : PySem.W.codeIn K cd2 "_law_few" = true) (k2 : PySem.W.keepIn K (.ref f2) = true)
  (a3 : PySem.W.nsIn K mainGlobals "_law_link" = some (some (.ref f3))) (l3 : K.lookup f3 = some ⟨oc3, od3, .func (PySem.W.fnOf "_law_link" "_law_link" (ZT W8) (Zv W8) (Zi W8) .none kV3 dc3 pm3 an3 cd3 ct3), sl3⟩) (c3 : PySem.W.codeIn K cd3 "_law_link" = true) (k3 : PySem.W.keepIn K (.ref f3) = true)
  (a4 : PySem.W.nsIn K mainGlobals "_law_led" = some (some (.ref f4))) (l4 : K.lookup f4 = some ⟨oc4, od4, .func (PySem.W.fnOf "_law_led" "_law_led" (ZT QH) (Zv QH) (Zi QH) .none kV4 dc4 pm4 an4 cd4 ct4), sl4⟩) (c4 : PySem.W.codeIn K cd4 "_law_led" = true) (k4 : PySem.W.keepIn K (.ref f4) = true)
  (a5 : PySem.W.nsIn K mainGlobals "_law_next" = some (some (.ref f5))) (l5 : K.lookup f5 = some ⟨oc5, od5, .func (PySem.W.fnOf "_law_next" "_law_next" (ZT Qq) (Zv Qq) (Zi Qq) .none kV5 dc5 pm5 an5 cd5 ct5), sl5⟩) (c5 : PySem.W.codeIn K cd5 "_law_next" = true) (k5 : PySem.W.keepIn K (.ref f5) = true)
  (a6 : PySem.W.nsIn K mainGlobals "is_under" = some (some (.ref f6))) (l6 : K.lookup f6 = some ⟨oc6, od6, .func (PySem.W.fnOf "is_under" "is_under" (ZT Zag) (Zv Zag) (Zi Zag) .none kV6 dc6 pm6 an6 cd6 ct6), sl6⟩) (c6 : PySem.W.codeIn K cd6 "is_under" = true) (k6 : PySem.W.keepIn K (.ref f6) = true)
  (a7 : PySem.W.nsIn K mainGlobals "words_at" = some (some (.ref f7))) (l7 : K.lookup f7 = some ⟨oc7, od7, .func (PySem.W.fnOf "words_at" "words_at" (ZT Qe) (Zv Qe) (Zi Qe) .none kV7 dc7 pm7 an7 cd7 ct7), sl7⟩) (c7 : PySem.W.codeIn K cd7 "words_at" = true) (k7 : PySem.W.keepIn K (.ref f7) = true)
  (a8 : PySem.W.nsIn K mainGlobals "link_at" = some (some (.ref f8))) (l8 : K.lookup f8 = some ⟨oc8, od8, .func (PySem.W.fnOf "link_at" "link_at" (ZT QI) (Zv QI) (Zi QI) .none kV8 dc8 pm8 an8 cd8 ct8), sl8⟩) (c8 : PySem.W.codeIn K cd8 "link_at" = true) (k8 : PySem.W.keepIn K (.ref f8) = true)
  (a9 : PySem.W.nsIn K mainGlobals "is_too_long" = some (some (.ref f9))) (l9 : K.lookup f9 = some ⟨oc9, od9, .func (PySem.W.fnOf "is_too_long" "is_too_long" (ZT Qv) (Zv Qv) (Zi Qv) .none kV9 dc9 pm9 an9 cd9 ct9), sl9⟩) (c9 : PySem.W.codeIn K cd9 "is_too_long" = true) (k9 : PySem.W.keepIn K (.ref f9) = true)
  (a10 : PySem.W.nsIn K mainGlobals "led" = some (some (.ref f10))) (l10 : K.lookup f10 = some ⟨oc10, od10, .func (PySem.W.fnOf "led" "led" (ZT QD) (Zv QD) (Zi QD) .none kV10 dc10 pm10 an10 cd10 ct10), sl10⟩) (c10 : PySem.W.codeIn K cd10 "led" = true) (k10 : PySem.W.keepIn K (.ref f10) = true)
  (a11 : PySem.W.nsIn K mainGlobals "goal_of" = some (some (.ref f11))) (l11 : K.lookup f11 = some ⟨oc11, od11, .func (PySem.W.fnOf "goal_of" "goal_of" (ZT QL) (Zv QL) (Zi QL) .none kV11 dc11 pm11 an11 cd11 ct11), sl11⟩) (c11 : PySem.W.codeIn K cd11 "goal_of" = true) (k11 : PySem.W.keepIn K (.ref f11) = true)
  (a12 : PySem.W.nsIn K mainGlobals "next_places" = some (some (.ref f12))) (l12 : K.lookup f12 = some ⟨oc12, od12, .func (PySem.W.fnOf "next_places" "next_places" (ZT Zah) (Zv Zah) (Zi Zah) .none kV12 dc12 pm12 an12 cd12 ct12), sl12⟩) (c12 : PySem.W.codeIn K cd12 "next_places" = true) (k12 : PySem.W.keepIn K (.ref f12) = true)
  (a13 : PySem.W.nsIn K mainGlobals "ways_from" = some (some (.ref f13))) (l13 : K.lookup f13 = some ⟨oc13, od13, .func (PySem.W.fnOf "ways_from" "ways_from" (ZT QQ) (Zv QQ) (Zi QQ) .none kV13 dc13 pm13 an13 cd13 ct13), sl13⟩) (c13 : PySem.W.codeIn K cd13 "ways_from" = true) (k13 : PySem.W.keepIn K (.ref f13) = true)
  (a14 : PySem.W.nsIn K mainGlobals "reached" = some (some (.ref f14))) (l14 : K.lookup f14 = some ⟨oc14, od14, .func (PySem.W.fnOf "reached" "reached" (ZT QR) (Zv QR) (Zi QR) .none kV14 dc14 pm14 an14 cd14 ct14), sl14⟩) (c14 : PySem.W.codeIn K cd14 "reached" = true) (k14 : PySem.W.keepIn K (.ref f14) = true)
  (a15 : PySem.W.nsIn K mainGlobals "leads_on" = some (some (.ref f15))) (l15 : K.lookup f15 = some ⟨oc15, od15, .func (PySem.W.fnOf "leads_on" "leads_on" (ZT W6) (Zv W6) (Zi W6) .none kV15 dc15 pm15 an15 cd15 ct15), sl15⟩) (c15 : PySem.W.codeIn K cd15 "leads_on" = true) (k15 : PySem.W.keepIn K (.ref f15) = true)
  (a16 : PySem.W.nsIn K mainGlobals "dead_ends" = some (some (.ref f16))) (l16 : K.lookup f16 = some ⟨oc16, od16, .func (PySem.W.fnOf "dead_ends" "dead_ends" (ZT WZ) (Zv WZ) (Zi WZ) .none kV16 dc16 pm16 an16 cd16 ct16), sl16⟩) (c16 : PySem.W.codeIn K cd16 "dead_ends" = true) (k16 : PySem.W.keepIn K (.ref f16) = true)
  (a17 : PySem.W.nsIn K mainGlobals "shortest" = some (some (.ref f17))) (l17 : K.lookup f17 = some ⟨oc17, od17, .func (PySem.W.fnOf "shortest" "shortest" (ZT Zaa) (Zv Zaa) (Zi Zaa) .none kV17 dc17 pm17 an17 cd17 ct17), sl17⟩) (c17 : PySem.W.codeIn K cd17 "shortest" = true) (k17 : PySem.W.keepIn K (.ref f17) = true)
  (a18 : PySem.W.nsIn K mainGlobals "law" = some (some (.ref f18))) (l18 : K.lookup f18 = some ⟨oc18, od18, .func (PySem.W.fnOf "law" "law" (ZT Zq) (Zv Zq) (Zi Zq) .none kV18 dc18 pm18 an18 cd18 ct18), sl18⟩) (c18 : PySem.W.codeIn K cd18 "law" = true) (k18 : PySem.W.keepIn K (.ref f18) = true)
  (z_any : PySem.W.nsIn K mainGlobals "any" = some none)    (z_int : PySem.W.nsIn K mainGlobals "int" = some none)    (z_isinstance : PySem.W.nsIn K mainGlobals "isinstance" = some none)    (z_len : PySem.W.nsIn K mainGlobals "len" = some none)    (z_list : PySem.W.nsIn K mainGlobals "list" = some none)    (z_range : PySem.W.nsIn K mainGlobals "range" = some none)    (z_set : PySem.W.nsIn K mainGlobals "set" = some none)    (z_sorted : PySem.W.nsIn K mainGlobals "sorted" = some none)    (z_tuple : PySem.W.nsIn K mainGlobals "tuple" = some none)    {t_MOST_WORDS : Tok} (v_MOST_WORDS : PySem.W.nsIn K mainGlobals "MOST_WORDS" = some (some (.int 6 t_MOST_WORDS))) :
  ∃ fd : FuncData, (∀ (s : Shared) (v : Value), BindsTo s fd ⟨[v], []⟩ [("_law_script", v)]) ∧ ∀ base : Heap, K.In base → base.Ns mainGlobals mg → FnOk l.prog w K mg base CX0 8 fa fd ["_law_script"] (spD K Q0) := by
 have e:=hfa.symm.trans (PySem.W.mg_of X G a18)
 cases e
 have b_any:=PySem.W.mg_none_of X G z_any
 have b_int:=PySem.W.mg_none_of X G z_int
 have b_isinstance:=PySem.W.mg_none_of X G z_isinstance
 have b_len:=PySem.W.mg_none_of X G z_len
 have b_list:=PySem.W.mg_none_of X G z_list
 have b_range:=PySem.W.mg_none_of X G z_range
 have b_set:=PySem.W.mg_none_of X G z_set
 have b_sorted:=PySem.W.mg_none_of X G z_sorted
 have b_tuple:=PySem.W.mg_none_of X G z_tuple
 have c_MOST_WORDS:=PySem.W.mg_of X G v_MOST_WORDS
 have F0:=Z3 (st:=QB) l0 c0 k0
 have b0 := F0.binds (ps := ["_law_script", "_law_k"]) fun _ _ _ _ _ _ => by refine us2 ?_; intros; rfl
 have m0:=PySem.W.mg_of X G a0
 have F1:=Z3 (st:=QS) l1 c1 k1
 have b1 := F1.binds (ps := ["_law_script", "_law_k", "_law_many"]) fun _ _ _ _ _ _ => by refine us3 ?_; intros; rfl
 have m1:=PySem.W.mg_of X G a1
 have F2:=Z3 (st:=Qo) l2 c2 k2
 have b2 := F2.binds (ps := ["_law_script", "_law_at"]) fun _ _ _ _ _ _ => by refine us2 ?_; intros; rfl
 have m2:=PySem.W.mg_of X G a2
 have F3:=Z3 (st:=W8) l3 c3 k3
 have b3 := F3.binds (ps := ["_law_links_here", "_law_place_here", "_law_word"]) fun _ _ _ _ _ _ => by refine us3 ?_; intros; rfl
 have m3:=PySem.W.mg_of X G a3
 have F4:=Z3 (st:=QH) l4 c4 k4
 have b4 := F4.binds (ps := ["_law_place_here", "_law_steps"]) fun _ _ _ _ _ _ => by refine us2 ?_; intros; rfl
 have m4:=PySem.W.mg_of X G a4
 have F5:=Z3 (st:=Qq) l5 c5 k5
 have b5 := F5.binds (ps := ["_law_links_here", "_law_place_here"]) fun _ _ _ _ _ _ => by refine us2 ?_; intros; rfl
 have m5:=PySem.W.mg_of X G a5
 have F6:=Z3 (st:=Zag) l6 c6 k6
 have b6 := F6.binds (ps := ["place", "other"]) fun _ _ _ _ _ _ => by refine us2 ?_; intros; rfl
 have m6:=PySem.W.mg_of X G a6
 have F7:=Z3 (st:=Qe) l7 c7 k7
 have b7 := F7.binds (ps := ["links", "place"]) fun _ _ _ _ _ _ => by refine us2 ?_; intros; rfl
 have m7:=PySem.W.mg_of X G a7
 have F8:=Z3 (st:=QI) l8 c8 k8
 have b8 := F8.binds (ps := ["links", "place", "word"]) fun _ _ _ _ _ _ => by refine us3 ?_; intros; rfl
 have m8:=PySem.W.mg_of X G a8
 have F9:=Z3 (st:=Qv) l9 c9 k9
 have b9 := F9.binds (ps := ["words"]) fun _ _ _ _ _ _ => by refine us1 ?_; intros; rfl
 have m9:=PySem.W.mg_of X G a9
 have F10:=Z3 (st:=QD) l10 c10 k10
 have b10 := F10.binds (ps := ["place", "steps"]) fun _ _ _ _ _ _ => by refine us2 ?_; intros; rfl
 have m10:=PySem.W.mg_of X G a10
 have F11:=Z3 (st:=QL) l11 c11 k11
 have b11 := F11.binds (ps := ["link", "place"]) fun _ _ _ _ _ _ => by refine us2 ?_; intros; rfl
 have m11:=PySem.W.mg_of X G a11
 have F12:=Z3 (st:=Zah) l12 c12 k12
 have b12 := F12.binds (ps := ["links", "place"]) fun _ _ _ _ _ _ => by refine us2 ?_; intros; rfl
 have m12:=PySem.W.mg_of X G a12
 have F13:=Z3 (st:=QQ) l13 c13 k13
 have b13 := F13.binds (ps := ["links", "start", "goal"]) fun _ _ _ _ _ _ => by refine us3 ?_; intros; rfl
 have m13:=PySem.W.mg_of X G a13
 have F14:=Z3 (st:=QR) l14 c14 k14
 have b14 := F14.binds (ps := ["links", "start"]) fun _ _ _ _ _ _ => by refine us2 ?_; intros; rfl
 have m14:=PySem.W.mg_of X G a14
 have F15:=Z3 (st:=W6) l15 c15 k15
 have b15 := F15.binds (ps := ["links", "place"]) fun _ _ _ _ _ _ => by refine us2 ?_; intros; rfl
 have m15:=PySem.W.mg_of X G a15
 have F16:=Z3 (st:=WZ) l16 c16 k16
 have b16 := F16.binds (ps := ["links", "start"]) fun _ _ _ _ _ _ => by refine us2 ?_; intros; rfl
 have m16:=PySem.W.mg_of X G a16
 have F17:=Z3 (st:=Zaa) l17 c17 k17
 have b17 := F17.binds (ps := ["links", "start", "goal"]) fun _ _ _ _ _ _ => by refine us3 ?_; intros; rfl
 have m17:=PySem.W.mg_of X G a17
 have F18:=Z3 (st:=Zq) l18 c18 k18
 have b18 := F18.binds (ps := ["_law_script"]) fun _ _ _ _ _ _ => by refine us1 ?_; intros; rfl
 have m18:=PySem.W.mg_of X G a18
 refine ⟨PySem.W.fnOf "law" "law" (ZT Zq) (Zv Zq) (Zi Zq) .none kV18 dc18 pm18 an18 cd18 ct18, fun s v => .of_eq rfl, fun base _ _ => ?_⟩
 have h0 : FnAt l.prog w K mg base "_law_cell" 1 Q3 := ZhF F0 m0 b0 b_len
 have h1 : FnAt l.prog w K mg base "_law_drawn" 2 Ya := ZjF F1 m1 b1    h0
 have h2 : FnAt l.prog w K mg base "_law_few" 3 W9 := Znd F2 m2 b2 b_int b_len b_range b_tuple   h1
 have h3 : FnAt l.prog w K mg base "_law_link" 1 Qf := ZhO F3 m3 b3 b_len
 have h4 : FnAt l.prog w K mg base "_law_led" 1 Wl := ZhC F4 m4 b4 b_len b_list b_tuple
 have h5 : FnAt l.prog w K mg base "_law_next" 2 Y3 := Zmo F5 m5 b5 b_set b_sorted   h4 h3
 have h6 : FnAt l.prog w K mg base "is_under" 1 WV := Zmp F6 m6 b6 b_len
 have h7 : FnAt l.prog w K mg base "words_at" 2 Q5 := Zja F7 m7 b7 b_set b_sorted   h6
 have h8 : FnAt l.prog w K mg base "link_at" 2 QT := ZhG F8 m8 b8    h6
 have h9 : FnAt l.prog w K mg base "is_too_long" 1 QG := Zkj F9 m9 b9 b_len c_MOST_WORDS
 have h10 : FnAt l.prog w K mg base "led" 2 Qj := Zh8 F10 m10 b10 b_len b_list b_tuple   h9
 have h11 : FnAt l.prog w K mg base "goal_of" 3 Ql := Zif F11 m11 b11    h10
 have h12 : FnAt l.prog w K mg base "next_places" 4 Ww := ZlN F12 m12 b12    h11 h8 h7
 have h13 : FnAt l.prog w K mg base "ways_from" 5 YV := Zhu F13 m13 b13 b_len   h12
 have h14 : FnAt l.prog w K mg base "reached" 6 Wp := Zl2 F14 m14 b14 b_sorted   h13
 have h15 : FnAt l.prog w K mg base "leads_on" 5 QV := Zjl F15 m15 b15 b_any   h12
 have h16 : FnAt l.prog w K mg base "dead_ends" 7 Qr := ZlD F16 m16 b16    h15 h14
 have h17 : FnAt l.prog w K mg base "shortest" 6 WJ := Zjw F17 m17 b17    h13
 exact (Zlr F18 b_isinstance b_len b_range b_sorted b_tuple   h1 h2 h5 h16 h14 h17)
theorem walk {l:PySem.W.OpenLaw} {q:Program} {loose:List Str} {XP:(Str→Option Value)→Heap→Prop} {YP:World→Heap→Prop} {d:DefRec} {K:Params→PySem.W.Frag} (hn:l.most=some 63) (hdf:d.params.defaults=[])
  (hY:∀ (w:World) (h:Heap),YP w h→(K w.params).In h)
  (F:∀ (w:World) (mg:Str→Option Value) (fa:Addr) (h:Heap),(K w.params).In h→h.Ns mainGlobals mg→mg d.name=some (.ref fa) →
   ∃ fd : FuncData, (∀ (s : Shared) (u : Value), BindsTo s fd ⟨[u], []⟩ [("_law_script", u)]) ∧ ∀ base : Heap, (K w.params).In base → base.Ns mainGlobals mg → FnOk l.prog w (K w.params) mg base CX0 8 fa fd ["_law_script"] (spD (K w.params) Q0)) :
  PySem.W.WalkO q loose XP YP l.row.toRowW d [] (fun f vs=>PySem.call f vs) :=
 L2.walk_of (n := 63) (k := 8) (x := "_law_script") (CX := fun _ => CX0) (sp := fun w => spD (K w.params) Q0) hn (by decide) hdf ⟨rfl, by decide, by decide⟩ hY F (fun _ H a ns hl ho hS => DL.law_sp law_true H a ns hl ho hS) fun _ _ _ _ _ z => z
end K52
noncomputable def PySem.W.Fast.tw2135409205425526673:Nat:=0
noncomputable def PySem.W.Fast.tw7086961617601330827:Nat:=0
noncomputable def PySem.W.Fast.tw861502493610598483:Nat:=0
noncomputable def PySem.W.Fast.tw7937976987201723653:Nat:=0
noncomputable def PySem.W.Fast.tw140001813534094272:Nat:=0
noncomputable def PySem.W.Fast.tw10745233467358560665:Nat:=0
noncomputable def PySem.W.Fast.tw1383625962624193546:Nat:=0
noncomputable def PySem.W.Fast.tw3896982069136094077:Nat:=0
noncomputable def PySem.W.Fast.tw6148365751059978729:Nat:=0
noncomputable def PySem.W.Fast.tw87601786513091389:Nat:=0
noncomputable def PySem.W.Fast.tw7774113678449685934:Nat:=0
noncomputable def PySem.W.Fast.tw6699484020298486944:Nat:=0
noncomputable def PySem.W.Fast.tw209982475168477708:Nat:=0
noncomputable def PySem.W.Fast.tw8997383693586321770:Nat:=0
open PySem PySem.W PyProof.Rows
set_option maxHeartbeats 0
open_top hd for PySem.Challenge.rw_cardplaces_k52_ways
theorem PySem.Challenge.cw_cardplaces_k52_ways_holds : PySem.Challenge.rw_cardplaces_k52_ways.Holds := by
 refine hd ?_
 k_fill
 refine K52.walk (l:=PySem.Challenge.rw_cardplaces_k52_ways) rfl rfl (fun w h Y=>PySem.W.kIn_of Y) ?F
 case F =>
  intro w mg fa h KX G hmg
  refine' K52.all_mk KX G hmg ?a0 ?l0 ?c0 ?k0 ?a1 ?l1 ?c1 ?k1 ?a2 ?l2 ?c2 ?k2 ?a3 ?l3 ?c3 ?k3 ?a4 ?l4 ?c4 ?k4 ?a5 ?l5 ?c5 ?k5 ?a6 ?l6 ?c6 ?k6 ?a7 ?l7 ?c7 ?k7 ?a8 ?l8 ?c8 ?k8 ?a9 ?l9 ?c9 ?k9 ?a10 ?l10 ?c10 ?k10 ?a11 ?l11 ?c11 ?k11 ?a12 ?l12 ?c12 ?k12 ?a13 ?l13 ?c13 ?k13 ?a14 ?l14 ?c14 ?k14 ?a15 ?l15 ?c15 ?k15 ?a16 ?l16 ?c16 ?k16 ?a17 ?l17 ?c17 ?k17 ?a18 ?l18 ?c18 ?k18 ?z_any ?z_int ?z_isinstance ?z_len ?z_list ?z_range ?z_set ?z_sorted ?z_tuple ?v_MOST_WORDS
  (case a0=>k_is)
  (case l0=>k_is)
  (case c0=>k_is)
  (case k0=>k_is)
  (case a1=>k_is)
  (case l1=>k_is)
  (case c1=>k_is)
  (case k1=>k_is)
  (case a2=>k_is)
  (case l2=>k_is)
  (case c2=>k_is)
  (case k2=>k_is)
  (case a3=>k_is)
  (case l3=>k_is)
  (case c3=>k_is)
  (case k3=>k_is)
  (case a4=>k_is)
  (case l4=>k_is)
  (case c4=>k_is)
  (case k4=>k_is)
  (case a5=>k_is)
  (case l5=>k_is)
  (case c5=>k_is)
  (case k5=>k_is)
  (case a6=>k_is)
  (case l6=>k_is)
  (case c6=>k_is)
  (case k6=>k_is)
  (case a7=>k_is)
  (case l7=>k_is)
  (case c7=>k_is)
  (case k7=>k_is)
  (case a8=>k_is)
  (case l8=>k_is)
  (case c8=>k_is)
  (case k8=>k_is)
  (case a9=>k_is)
  (case l9=>k_is)
  (case c9=>k_is)
  (case k9=>k_is)
  (case a10=>k_is)
  (case l10=>k_is)
  (case c10=>k_is)
  (case k10=>k_is)
  (case a11=>k_is)
  (case l11=>k_is)
  (case c11=>k_is)
  (case k11=>k_is)
  (case a12=>k_is)
  (case l12=>k_is)
  (case c12=>k_is)
  (case k12=>k_is)
  (case a13=>k_is)
  (case l13=>k_is)
  (case c13=>k_is)
  (case k13=>k_is)
  (case a14=>k_is)
  (case l14=>k_is)
  (case c14=>k_is)
  (case k14=>k_is)
  (case a15=>k_is)
  (case l15=>k_is)
  (case c15=>k_is)
  (case k15=>k_is)
  (case a16=>k_is)
  (case l16=>k_is)
  (case c16=>k_is)
  (case k16=>k_is)
  (case a17=>k_is)
  (case l17=>k_is)
  (case c17=>k_is)
  (case k17=>k_is)
  (case a18=>k_is)
  (case l18=>k_is)
  (case c18=>k_is)
  (case k18=>k_is)
  (case z_any=>k_is)
  (case z_int=>k_is)
  (case z_isinstance=>k_is)
  (case z_len=>k_is)
  (case z_list=>k_is)
  (case z_range=>k_is)
  (case z_set=>k_is)
  (case z_sorted=>k_is)
  (case z_tuple=>k_is)
  (case v_MOST_WORDS=>k_is)
end
