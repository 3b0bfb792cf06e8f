import PyProof.Rows.All
import Wide.All
import OpenK.AllK
import Wide.FinOn
import Lean
import PyProof.EqAt
import PyProof.EqKinds
import PyProof.TupleCall
import PyProof.NeKinds
import PyProof.CompFree
import PyProof.CompUse
import PyProof.ZipIter
import PyProof.StrWalks
import PyProof.ListRange
import PyProof.ListMulRoad
import KE.KMinBuiltin
import PyProof.Rows.CallKw2
import KE.KSortTup
import PyProof.StrCalls2
import PyProof.StrLawsChain
import PyProof.StrLawsTight
import PyProof.Rows.StrItems
import KE.KxAffix
import KE.KRevSl
import PyProof.Rows.SetFrom
import PyProof.FactsAll.set_1
import PyProof.FactsAll.set_2
import PyProof.CollectWalk
import PyProof.AttrMissHeap
import KE.KDictOf
import PyProof.Rows.TupMore
import KE.KRevIter
import PyProof.Cells
import PyProof.StrBlock
import PyProof.PureStr
import PyProof.CallStr
import PyProof.AutoIntOps
import PySem.Challenge.RW_cardplaces_k54_whole_more_links
set_option Elab.async false
set_option linter.all false
set_option maxRecDepth 100000
namespace L2
open PySem PySem.Spec PyProof.Rows
noncomputable abbrev Key:=Sum Int Str
noncomputable def keyIs:Key→Value→Bool
 | .inl k,v=>Value.isInt k v
 | .inr x,v=>Value.isStrOf x v
noncomputable def keyH (w:World):Key→Int
 | .inl k=>hashInt k
 | .inr x=>hashStr w x
theorem keyIs_shape:∀ {k:Key} {v:Value},keyIs k v=true→(∃ i t,k=Sum.inl i∧v=Value.int i t)∨(∃ x t,k=Sum.inr x∧v=Value.str x t)
 | .inl i,v,h=>by
  obtain ⟨t,e⟩:=Value.isInt_shape (k:=i) (v:=v) h
  exact .inl ⟨i,t,rfl,e⟩
 | .inr x,v,h=>by
  obtain ⟨t,e⟩:=Value.isStrOf_shape (x:=x) (v:=v) h
  exact .inr ⟨x,t,rfl,e⟩
theorem keyIs_int (i:Int) (t:Tok):keyIs (.inl i) (.int i t)=true:=by simp [keyIs,Value.isInt]
theorem keyIs_str (x:Str) (t:Tok):keyIs (.inr x) (.str x t)=true:=by simp [keyIs,Value.isStrOf]
theorem key_ll (a b:Int):decide ((Sum.inl a:Key)=Sum.inl b)=(a == b):=by
 by_cases e:a=b
 ·subst e; simp
 ·have h:¬ (Sum.inl a:Key)=Sum.inl b:=fun q=>e (Sum.inl.inj q)
  rw [decide_eq_false h]
  exact (beq_eq_false_iff_ne.mpr e).symm
theorem key_rr (a b:Str):decide ((Sum.inr a:Key)=Sum.inr b)=decide (a=b):=by
 by_cases e:a=b
 ·subst e; simp
 ·have h:¬ (Sum.inr a:Key)=Sum.inr b:=fun q=>e (Sum.inr.inj q)
  rw [decide_eq_false h,decide_eq_false e]
theorem key_lr (a:Int) (b:Str):decide ((Sum.inl a:Key)=Sum.inr b)=false:=decide_eq_false (fun q=>nomatch q)
theorem key_rl (a:Str) (b:Int):decide ((Sum.inr a:Key)=Sum.inl b)=false:=decide_eq_false (fun q=>nomatch q)
noncomputable def mixKind (prog:Program) (w:World):PySem.KeyKind prog w Key where
 is:=keyIs
 hash:=keyH w
 inj:=fun v a b ha hb=>by
  rcases keyIs_shape ha with ⟨i,t,rfl,rfl⟩ | ⟨x,t,rfl,rfl⟩
  ·rcases keyIs_shape hb with ⟨j,u,rfl,e⟩ | ⟨y,u,rfl,e⟩
   ·injection e with e1 _; rw [e1]
   ·exact nomatch e
  ·rcases keyIs_shape hb with ⟨j,u,rfl,e⟩ | ⟨y,u,rfl,e⟩
   ·exact nomatch e
   ·injection e with e1 _; rw [e1]
 byValue:=fun k v h=>by
  rcases keyIs_shape h with ⟨i,t,rfl,rfl⟩ | ⟨x,t,rfl,rfl⟩ <;> rfl
 pyHash:=fun hv h=>by
  rcases keyIs_shape hv with ⟨i,t,rfl,rfl⟩ | ⟨x,t,rfl,rfl⟩
  ·exact wpAny_pyHash_int h
  ·exact wpAny_pyHash_str h
 eqBool:=fun hu hv h=>by
  rcases keyIs_shape hu with ⟨i,t,rfl,rfl⟩ | ⟨x,t,rfl,rfl⟩
  ·rcases keyIs_shape hv with ⟨j,u,rfl,rfl⟩ | ⟨y,u,rfl,rfl⟩
   ·rw [key_ll] at h; exact wpAny_eqBool_int h
   ·rw [key_lr] at h; exact SeqAt.EqAt.int_str i t y u _ _ _ _ h
  ·rcases keyIs_shape hv with ⟨j,u,rfl,rfl⟩ | ⟨y,u,rfl,rfl⟩
   ·rw [key_rl] at h; exact SeqAt.EqAt.str_int x t j u _ _ _ _ h
   ·rw [key_rr] at h; exact wpAny_eqBool_str h
 «strs»:=fun k x t v h=>by
  rcases keyIs_shape h with ⟨i,u,rfl,e⟩ | ⟨y,u,rfl,e⟩
  ·exact nomatch e
  ·injection e with e1 _
   subst e1
   cases v <;> rfl
theorem mixKind_int (prog:Program) (w:World) (i:Int) (t:Tok):(mixKind prog w).is (.inl i) (.int i t)=true:=keyIs_int i t
theorem mixKind_str (prog:Program) (w:World) (x:Str) (t:Tok):(mixKind prog w).is (.inr x) (.str x t)=true:=keyIs_str x t
end L2
namespace L2
open PySem PySem.Spec PyProof.Rows
inductive V where
 | non | bl (b:Bool) | int (i:Int) | str (x:Str) | byt (b:Array UInt8) | flt (b:UInt64) | ref (a:Addr) | ty (n:String)
 deriving DecidableEq
noncomputable def RelV:V→Value→Prop
 | .non,u=>u=Value.none
 | .bl b,u=>u=Value.bool b
 | .int i,u => ∃ t,u=Value.int i t
 | .str x,u => ∃ t,u=Value.str x t
 | .byt b,u => ∃ t,u=Value.bytes b t
 | .flt b,u => ∃ t,u=Value.float b t
 | .ref a,u=>u=Value.ref a
 | .ty n,u=>u=Value.type n
noncomputable abbrev Vals:List V→List Value→Prop:=Paired RelV
theorem Vals.length {xs:List V} {us:List Value} (r:Vals xs us):xs.length=us.length:=Paired.length r
theorem Vals.get:∀ {xs:List V} {us:List Value} {i:Nat} {x:V},Vals xs us→xs[i]?=some x→∃ u,us[i]?=some u∧RelV x u
 | _,_,_,_,.nil,e=>by simp at e
 | _,_,0,_,.cons r _,e=>by simp at e; subst e; exact ⟨_,rfl,r⟩
 | _,_,i+1,x,.cons _ t,e=>by
  obtain ⟨u,h1,h2⟩:=Vals.get (i:=i) (x:=x) t (by simpa using e)
  exact ⟨u,by simpa using h1,h2⟩
theorem Vals.append:∀ {xs ys:List V} {us ws:List Value},Vals xs us→Vals ys ws→Vals (xs++ys) (us++ws)
 | _,_,_,_,.nil,s=>s
 | _,_,_,_,.cons r t,s => .cons r (Vals.append t s)
theorem Vals.take:∀ {xs:List V} {us:List Value} (n:Nat),Vals xs us→Vals (xs.take n) (us.take n)
 | _,_,0,_ => .nil
 | _,_,_+1,.nil => .nil
 | _,_,n+1,.cons r t => .cons r (Vals.take n t)
theorem Vals.drop:∀ {xs:List V} {us:List Value} (n:Nat),Vals xs us→Vals (xs.drop n) (us.drop n)
 | _,_,0,r=>r
 | _,_,_+1,.nil => .nil
 | _,_,n+1,.cons _ t=>Vals.drop n t
noncomputable def RelO:Option V→Option Value→Prop
 | some v,some u=>RelV v u
 | none,none=>True
 | _,_=>False
noncomputable def KV {κ:Type}:List (κ×V)→List (κ×Value)→Prop:=Paired fun (p:κ×V) (q:κ×Value)=>p.1=q.1∧RelV p.2 q.2
noncomputable def kV:Key→V
 | .inl i => .int i
 | .inr x => .str x
inductive HO where
 /-- a list -/
 | lst (xs:List V)
 /-- a tuple (never changes) -/
 | tup (xs:List V)
 /-- a dict whose keys are ints and texts; one whose keys are tuples of ints and texts (the empty one is both) -/
 | dK (kvs:List (Key×V)) | dT (kvs:List (List Key×V))
 /-- a set of ints: its members, its size -/
 | set (S:Int→Bool) (n:Nat)
 /-- an instance of the class at C, its dict at dx, its attributes -/
 | ins (C dx:Addr) (fs:List (Str×V))
 /-- the dict of the instance at x -/
 | own (x:Addr)
 /-- the dict of an exception -/
 | xd (fs:List (Str×V))
 /-- a bound method, f of x -/
 | met (f x:Addr)
 /-- a range object lo, lo + 1, .. below hi -/
 | rng (lo hi:Int)
 /-- a thing that is known to the object (the script; a dict while a loop walks it): read, never written while it is so -/
 | frz (o:Obj) (u:HO)
 /-- a code object's table -/
 | tbl (ps:Array Value)
 /-- any other thing, by what is true of its one object (a def of one's own: SetO a S n:=HO.ext fun h => ..) -/
 | ext (φ:Heap→Prop)
noncomputable abbrev Hp:=Addr→Option HO
noncomputable def upd (H:Hp) (a:Addr) (o:HO):Hp:=fun b=>if b=a then some o else H b
theorem upd_same {H:Hp} {a:Addr} {o:HO}:upd H a o a=some o:=by unfold upd; rw [if_pos rfl]
theorem upd_ne {H:Hp} {a b:Addr} {o:HO} (h:b≠a):upd H a o b=H b:=by unfold upd; rw [if_neg h]
theorem ne_of {H:Hp} {a b:Addr} {o u:HO} (h:H a=some o) (h':H b=some u) (d:o≠u):a≠b:=by
 intro e; subst e; rw [h] at h'; exact d (Option.some.inj h')
theorem ne_of_none {H:Hp} {a b:Addr} {o:HO} (h:H a=some o) (h':H b=none):a≠b:=by
 intro e; subst e; rw [h] at h'; cases h'
section
variable (P:Program) (w:World)
noncomputable def ObjOk (H:Hp) (h:Heap) (a:Addr):HO→Prop
 | .lst xs => xs.length ≤ sizeLine ∧ ∃ (its : List Value) (n : Nat), Vals xs its ∧ h.get? a = some { cls := .type "list", data := .seq its.toArray n }
 | .tup xs=>xs.length≤sizeLine∧∃ its:List Value,Vals xs its∧IsTup h a its.toArray∧∀ o,h.get? a=some o→o.dict=none
 | .dK kvs=>kvs.length≤sizeLine∧(a == sysModules)=false∧∃ vs,KV kvs vs∧h.DictOf (mixKind P w) a vs
 | .dT kvs=>kvs.length≤sizeLine∧(a == sysModules)=false∧∃ xs:List (List Key×Addr×Value),
   Paired (fun (p:List Key×V) (q:List Key×Addr×Value)=>p.1=q.1∧H q.2.1=some (.tup (p.1.map kV))∧RelV p.2 q.2.2) kvs xs ∧
   ∃ o es ep,h.get? a=some o∧o.ExactDict∧o.data = .dict es ep∧es.toList=xs.map (entryOfKey (tupleKind (mixKind P w)))∧(xs.map (·.1)).Nodup
 | .set S n=>h.SetOf (intKind P w) a S n
 | .ins C dx fs=>H dx=some (.own a)∧fs.length≤1000∧dx≠a∧h.get? a=some (PySem.W.instObj C dx) ∧
   ∃ mA,h.Ns1 dx mA∧(∀ f,RelO (fs.lookup f) (mA f))∧PySem.Within mA (fs.map (·.1))
 | .own _ => ∃ o,h.get? a=some o
 | .xd fs => ∃ mA,h.Ns1 a mA∧∀ f,RelO (fs.lookup f) (mA f)
 | .rng lo hi => ∃ t u v, h.get? a = some { cls := .type "range", data := .fields #[.int lo t, .int hi u, .int 1 v] }
 | .frz o u=>h.get? a=some o∧ObjOk H h a u
 | .tbl ps=>h.get? a=some { cls:=.none,data:=.fields ps }
 | .met f x=>h.get? a=some (PySem.W.methodObj (.ref f) (.ref x))
 | .ext φ=>φ h∧(∃ o,h.get? a=some o)∧∀ h1 h2:Heap,φ h1→(∀ o,h1.get? a=some o→h2.get? a=some o)→φ h2
noncomputable def HOk (H:Hp) (h:Heap):Prop:=∀ a o,H a=some o→ObjOk P w H h a o
end
section
variable {P:Program} {w:World} {H H':Hp} {h h':Heap} {a:Addr} {o:HO}
theorem ObjOk.lt (x:ObjOk P w H h a o):a<h.objs.size:=by
 cases o with
 | lst xs=>obtain ⟨_,_,_,_,e⟩:=x; exact Heap.lt_size e
 | tup xs=>obtain ⟨_,_,_,p,_⟩:=x; exact p.lt
 | dK kvs=>obtain ⟨_,_,_,_,o,_,_,e,_⟩:=x; exact Heap.lt_size e
 | dT kvs=>obtain ⟨_,_,_,_,o,_,_,e,_⟩:=x; exact Heap.lt_size e
 | set S n=>obtain ⟨o,_,_,_,e,_⟩:=x; exact Heap.lt_size e
 | ins C dx fs=>obtain ⟨_,_,_,e,_⟩:=x; exact Heap.lt_size e
 | own y=>obtain ⟨_,e⟩:=x; exact Heap.lt_size e
 | xd fs=>obtain ⟨_,⟨_,_,_,e,_⟩,_⟩:=x; exact Heap.lt_size e
 | rng lo hi=>obtain ⟨_,_,_,e⟩:=x; exact Heap.lt_size e
 | frz ob u=>obtain ⟨e,_⟩:=x; exact Heap.lt_size e
 | tbl ps=>exact Heap.lt_size (show h.get? a=some _ from x)
 | met f y=>exact Heap.lt_size (show h.get? a=some _ from x)
 | ext φ=>obtain ⟨_,⟨_,e⟩,_⟩:=x; exact Heap.lt_size e
theorem Paired.mapP {α β:Type} {F G:α→β→Prop}:∀ {l₁:List α} {l₂:List β},Paired F l₁ l₂→(∀ a b,F a b→G a b)→Paired G l₁ l₂
 | _,_,.nil,_ => .nil
 | _,_,.cons r t,f => .cons (f _ _ r) (Paired.mapP t f)
theorem ObjOk.stay (x:ObjOk P w H h a o) (k:∀ b u,(b=a∨H b=some (.own a))→h.get? b=some u→h'.get? b=some u)
  (ho:∀ b,H b=some (.own a)→H' b=some (.own a)) (ht:∀ b xs,H b=some (.tup xs)→H' b=some (.tup xs)):ObjOk P w H' h' a o:=by
 induction o with
 | lst xs=>obtain ⟨z,its,n,r,e⟩:=x; exact ⟨z,its,n,r,k _ _ (.inl rfl) e⟩
 | tup xs=>obtain ⟨z,its,r,⟨ob,e,c⟩,dn⟩:=x; exact ⟨z,its,r,⟨ob,k _ _ (.inl rfl) e,c⟩,fun o2 e2=>by rw [k _ _ (.inl rfl) e] at e2; cases e2; exact dn _ e⟩
 | dK kvs=>obtain ⟨z,y,vs,r,ob,es,ep,e,c⟩:=x; exact ⟨z,y,vs,r,ob,es,ep,k _ _ (.inl rfl) e,c⟩
 | dT kvs =>
  obtain ⟨z,y,xs,r,ob,es,ep,e,c⟩:=x
  exact ⟨z,y,xs,Paired.mapP r fun p q z=>⟨z.1,ht _ _ z.2.1,z.2.2⟩,ob,es,ep,k _ _ (.inl rfl) e,c⟩
 | set S n=>obtain ⟨ob,es,ep,t,e,c⟩:=x; exact ⟨ob,es,ep,t,k _ _ (.inl rfl) e,c⟩
 | ins C dx fs =>
  obtain ⟨d,z,ne,e,mA,⟨od,es,ep,e2,c⟩,r⟩:=x
  exact ⟨ho _ d,z,ne,k _ _ (.inl rfl) e,mA,⟨od,es,ep,k _ _ (.inr d) e2,c⟩,r⟩
 | own y=>obtain ⟨ob,e⟩:=x; exact ⟨ob,k _ _ (.inl rfl) e⟩
 | xd fs=>obtain ⟨mA,⟨od,es,ep,e,c⟩,r⟩:=x; exact ⟨mA,⟨od,es,ep,k _ _ (.inl rfl) e,c⟩,r⟩
 | rng lo hi=>obtain ⟨t,u,v,e⟩:=x; exact ⟨t,u,v,k _ _ (.inl rfl) e⟩
 | frz ob u ih=>obtain ⟨e,q⟩:=x; exact ⟨k _ _ (.inl rfl) e,ih q⟩
 | tbl ps =>
  have e:h.get? a=some { cls:=.none,data:=.fields ps }:=x
  show h'.get? a=some { cls:=.none,data:=.fields ps }
  exact k a _ (.inl rfl) e
 | met f y =>
  have e:h.get? a=some (PySem.W.methodObj (.ref f) (.ref y)):=x
  show h'.get? a=some (PySem.W.methodObj (.ref f) (.ref y))
  exact k a _ (.inl rfl) e
 | ext φ=>obtain ⟨p,⟨o,e⟩,st⟩:=x; exact ⟨st _ _ p fun o q=>k _ _ (.inl rfl) q,⟨o,k _ _ (.inl rfl) e⟩,st⟩
theorem HOk.lt (x:HOk P w H h) (e:H a=some o):a<h.objs.size:=(x a o e).lt
theorem HOk.fresh (x:HOk P w H h) (e:h.objs.size≤a):H a=none:=by
 cases q:H a with
 | none=>rfl
 | some u=>exact absurd (Nat.lt_of_lt_of_le (x.lt q) e) (Nat.lt_irrefl _)
theorem HOk.kept (x:HOk P w H h) (k:∀ b u,h.get? b=some u→h'.get? b=some u):HOk P w H h':=fun a o e =>
 (x a o e).stay (fun b u _ q=>k b u q) (fun _ q=>q) fun _ _ q=>q
theorem HOk.laid (x:HOk P w H h) (k:∀ b u,h.get? b=some u→h'.get? b=some u) (hp:h.objs.size≤a) (new:ObjOk P w (upd H a o) h' a o):HOk P w (upd H a o) h':=fun b u e=>by
 have hn:=x.fresh hp
 by_cases hb:b=a
 ·subst hb; rw [upd_same] at e; cases e; exact new
 ·rw [upd_ne hb] at e
  exact (x b u e).stay (fun c v _ q=>k c v q) (fun c q=>by rw [upd_ne (ne_of_none q hn)]; exact q) fun c xs q=>by rw [upd_ne (ne_of_none q hn)]; exact q
end
noncomputable def Rd (H:Hp) (a:Addr) (u:HO):Prop:=H a=some u∨∃ o,H a=some (.frz o u)
theorem Rd.of {H:Hp} {a:Addr} {u:HO} (h:H a=some u):Rd H a u:=.inl h
theorem Rd.ok {P:Program} {w:World} {H:Hp} {h:Heap} {a:Addr} {u:HO} (r:Rd H a u) (x:HOk P w H h):ObjOk P w H h a u:=by
 rcases r with r | ⟨o,r⟩
 ·exact x a u r
 ·obtain ⟨_,q⟩:=x a _ r
  exact q
noncomputable def Mut:Option HO→Prop
 | some (.lst _)=>True
 | some (.dK _)=>True
 | some (.dT _)=>True
 | some (.set _ _)=>True
 | some (.ins _ _ _)=>True
 | some (.ext _)=>True
 | _=>False
section
variable {P:Program} {w:World} {H:Hp} {h h':Heap} {x e:Addr} {o':HO}
theorem HOk.write (ok:HOk P w H h) (mu:Mut (H x)) (he:e=x∨H e=some (.own x)) (k:∀ b u,b≠e→h.get? b=some u→h'.get? b=some u) (heo:∃ u,h'.get? e=some u)
  (new:ObjOk P w (upd H x o') h' x o'):HOk P w (upd H x o') h':=fun b u q=>by
 have nown:∀ c y,H c=some (.own y)→c≠x:=fun c y r z=>by subst z; rw [r] at mu; exact mu
 have ntup:∀ c xs,H c=some (.tup xs)→c≠x:=fun c xs r z=>by subst z; rw [r] at mu; exact mu
 by_cases hb:b=x
 ·subst hb; rw [upd_same] at q; cases q; exact new
 ·rw [upd_ne hb] at q
  by_cases hbe:b=e
  ·have q':H b=some (.own x):=by
    rcases he with z | z
    ·exact absurd (hbe.trans z) hb
    ·rw [hbe]; exact z
   rw [q] at q'; cases q'
   obtain ⟨v,hv⟩:=heo
   exact ⟨v,by rw [hbe]; exact hv⟩
  ·refine (ok b u q).stay (fun c v hc r=>k c v ?_ r) (fun c r=>by rw [upd_ne (nown c b r)]; exact r) fun c xs r=>by rw [upd_ne (ntup c xs r)]; exact r
   rcases hc with rfl | hc
   ·exact hbe
   ·rintro rfl
    rcases he with z | z
    ·exact nown c b hc z
    ·rw [hc] at z; cases z; exact hb rfl
end
structure Un (fs ex:List Addr) (H H':Hp) (h h':Heap):Prop where
 keep:∀ b o,h.get? b=some o→H b=none→b ∉ fs→b ∉ ex→h'.get? b=some o
 slot:∀ b o,h.get? b=some o→H b=none→b∈fs→b ∉ ex→∃ sl,h'.get? b=some { o with slots:=sl }
 free:∀ b o,h.get? b=some o→H b=none→b ∉ ex→H' b=none
 there:∀ b o,h.get? b=some o→b ∉ ex→∃ o',h'.get? b=some o'
 tups:∀ b xs,H b=some (.tup xs)→H' b=some (.tup xs)
 frzs:∀ b o u,H b=some (.frz o u)→H' b=some (.frz o u)
 tbls:∀ b ps,H b=some (.tbl ps)→∃ more,H' b=some (.tbl (ps++more))
section
variable {fs fs' ex ex':List Addr} {H H1 H2:Hp} {h h1 h2 h':Heap} {a x e:Addr} {o:HO}
theorem Un.any (u:Un fs ex H H1 h h1) {b:Addr} {ob:Obj} (q:h.get? b=some ob) (n:H b=none) (hx:b ∉ ex):∃ sl,h1.get? b=some { ob with slots:=sl }:=by
 by_cases hb:b∈fs
 ·exact u.slot b ob q n hb hx
 ·exact ⟨ob.slots,u.keep b ob q n hb hx⟩
theorem Un.kept (k:∀ b u,h.get? b=some u→h'.get? b=some u):Un fs ex H H h h' :=
 ⟨fun b ob q _ _ _=>k b ob q,fun b ob q _ _ _=>⟨ob.slots,k b ob q⟩,fun _ _ _ n _=>n,fun b ob q _=>⟨ob,k b ob q⟩,fun _ _ q=>q,fun _ _ _ q=>q,fun _ ps q=>⟨#[],by rw [q]; simp⟩⟩
theorem Un.refl:Un fs ex H H h h:=Un.kept fun _ _ q=>q
theorem Un.laid (k:∀ b u,h.get? b=some u→h'.get? b=some u) (hp:h.objs.size≤a) (hn:H a=none):Un fs ex H (upd H a o) h h' where
 keep:=fun b u q _ _ _=>k b u q
 slot:=fun b u q _ _ _=>⟨u.slots,k b u q⟩
 free:=fun b u q n _=>by rw [upd_ne (Nat.ne_of_lt (Nat.lt_of_lt_of_le (Heap.lt_size q) hp))]; exact n
 there:=fun b u q _=>⟨u,k b u q⟩
 tups:=fun b xs q=>by rw [upd_ne (ne_of_none q hn)]; exact q
 frzs:=fun b u xs q=>by rw [upd_ne (ne_of_none q hn)]; exact q
 tbls:=fun b ps q=>⟨#[],by rw [upd_ne (ne_of_none q hn),q]; simp⟩
theorem Un.write (mu:Mut (H x)) (he:e=x∨H e=some (.own x)) (k:∀ b u,b≠e→h.get? b=some u→h'.get? b=some u) (heo:∃ u,h'.get? e=some u):Un fs ex H (upd H x o) h h':=by
 have hx:∀ b,H b=none→b≠x:=fun b n z=>by subst z; rw [n] at mu; exact mu
 have hb:∀ b,H b=none→b≠e:=fun b n z=>by
  subst z
  rcases he with r | r
  ·exact hx b n r
  ·rw [n] at r; cases r
 have hm:∀ b u,H b=some u→¬ Mut (some u)→b≠x:=fun b u q nm z=>by subst z; rw [q] at mu; exact nm mu
 refine ⟨fun b u q n _ _=>k b u (hb b n) q,fun b u q n _ _=>⟨u.slots,k b u (hb b n) q⟩,fun b u q n _=>by rw [upd_ne (hx b n)]; exact n,fun b u q _ => ?_,
  fun b xs q=>by rw [upd_ne (hm b _ q fun z=>z)]; exact q,fun b u xs q=>by rw [upd_ne (hm b _ q fun z=>z)]; exact q,fun b ps q=>⟨#[],by rw [upd_ne (hm b _ q fun z=>z),q]; simp⟩⟩
 by_cases hbe:b=e
 ·subst hbe; exact heo
 ·exact ⟨u,k b u hbe q⟩
end
noncomputable def trk (h:Heap) (H:Hp):List Addr:=(List.range h.objs.size).filter fun a=>(H a).isSome
noncomputable def hidT (h:Heap) (H:Hp):Heap:=PySem.W.hideAll h (trk h H)
theorem hidT_size (h:Heap) (H:Hp):(hidT h H).objs.size=h.objs.size:=PySem.W.hideAll_size _ _
theorem hidT_get {h:Heap} {H:Hp} {b:Addr} {o:Obj} (e:h.get? b=some o) (n:H b=none):(hidT h H).get? b=some o :=
 PySem.W.hideAll_get _ e fun hm=>by
  have q:(H b).isSome=true:=(List.mem_filter.mp hm).2
  rw [n] at q; simp at q
theorem of_hidT {h:Heap} {H:Hp} {b:Addr} {o:Obj} (e:(hidT h H).get? b=some o):h.get? b=some o∧H b=none:=by
 have e':h.get? b=some o:=PySem.W.of_hideAll (trk h H) e
 refine ⟨e',?_⟩
 cases q:H b with
 | none=>rfl
 | some x =>
  have hm:b∈trk h H:=List.mem_filter.mpr ⟨List.mem_range.mpr (Heap.lt_size e'),by simp [q]⟩
  have z:(hidT h H).get? b=none:=PySem.W.hideAll_none (trk h H) hm
  rw [z] at e; cases e
noncomputable def allNews (g h:Heap) (L:Addr):List (Addr×Obj):=(List.range h.objs.size).filterMap fun a=>if a=L∨(g.get? a).isSome=true then none else (h.get? a).map fun o=>(a,o)
noncomputable def rest (g h:Heap) (L d:Addr):List (Addr×Obj):=(allNews g h L).filter fun p=>decide (p.1≠d)
end L2
namespace L2
open PySem PySem.Spec PyProof.Rows
structure Mod (K:PySem.W.Frag) (mg:Str→Option Value) (base:Heap):Prop where
 kin:K.In base
 glob:base.Ns mainGlobals mg
 blt : ∃ mb, base.Ns builtinsNs mb ∧ ∀ x : Str, x ≠ "__name__" → mb x = bootBuiltins x
 nolimit:base.NoLimit
structure Cx where
 prog:Program
 w:World
 K:PySem.W.Frag
 mg:Str→Option Value
 base:Heap
 A:Around
 N:List Str
 s₀:Shared
 H₀:Hp
 env:Env
 outer:List Env
 stack:List Env
 ex:List Addr
 fn:Str→Bool
 calm:Bool
 pn:List (Addr×Obj)
 xe:Value→Shared→Prop
noncomputable def frs (l:List Env):List Addr:=l.filterMap (·.frame)
noncomputable abbrev Cx.fs (X:Cx):List Addr:=frs X.outer
noncomputable def Vis (sc:Scope) (x:Str):Prop:=sc.names.lookup x=some .local∨sc.names.lookup x=some .cell∨sc.names.lookup x=some .free
noncomputable def Loc (sc:Scope) (x:Str):Prop:=sc.names.lookup x=some .local∨sc.names.lookup x=some .cell
noncomputable def Look (env:Env) (h:Heap) (m:Str→Option Value) (x:Str) (u:Value):Prop :=
 (env.kindOf x=some .local∧m x=some u)∨((env.kindOf x=some .cell∨env.kindOf x=some .free)∧∃ c,env.cells.lookup x=some c∧h.IsCell c (some u))
structure Cx.Ok (X:Cx):Prop where
 mod:Mod X.K X.mg X.base
 kind:X.env.scope.kind = .function
 glob:X.env.globals=mainGlobals
 blt:X.env.builtins=builtinsNs
 above:X.s₀.heap.objs.size≤X.env.locals
 inj:∀ x y c,X.env.cells.lookup x=some c→X.env.cells.lookup y=some c→x=y
 has:∀ x,(X.env.kindOf x=some .cell∨X.env.kindOf x=some .free)→∃ c,X.env.cells.lookup x=some c
 cab:∀ x c,X.fn x=true→X.env.cells.lookup x=some c→X.s₀.heap.objs.size≤c
 hd:X.calm=true→X.A.handled=none
 frames:X.A.frames=some X.stack
 stk:X.stack=X.outer∨(X.stack=X.env :: X.outer∧X.env.frame=some X.env.locals)
 exf:∀ b∈X.ex,b≠X.env.locals∧∀ x c,X.env.cells.lookup x=some c→c≠b
 bs:∀ b o,X.base.get? b=some o→X.s₀.heap.get? b=some o∧X.H₀ b=none
 bsz:X.base.objs.size≤X.s₀.heap.objs.size
 noex:∀ b o,X.base.get? b=some o→b ∉ X.ex
 exfs:∀ b∈X.ex,b ∉ X.fs
 funs:X.s₀.heap.FunFrames X.base X.outer
 frf:∀ b∈X.fs,X.H₀ b=none
structure Inv (X:Cx) (pins:List (Addr×Obj)) (σ:List (Option V)) (H:Hp) (s:Shared):Prop where
 ok:X.Ok
 os:s.os=X.s₀.os
 bare:AllBare s.gens
 base:Un X.fs X.ex X.H₀ H X.s₀.heap s.heap
 loc:∃ m,s.heap.Ns X.env.locals m∧∀ (i:Nat) (x:Str) (v:V),X.N[i]?=some x→σ[i]?=some (some v)→Vis X.env.scope x→∃ u,RelV v u∧Look X.env s.heap m x u
 cell:∀ x c,X.env.cells.lookup x=some c→∃ v,s.heap.IsCell c v
 free:H X.env.locals=none
 freeC:∀ x c,X.env.cells.lookup x=some c→H c=none
 pin:∀ p∈X.pn++pins,s.heap.get? p.1=some p.2∧H p.1=none∧p.1≠X.env.locals∧p.1 ∉ X.fs∧∀ v,p.2.data≠.cell v
 hok:HOk X.prog X.w H s.heap
 len:σ.length=X.N.length
section
variable {X:Cx} {pins:List (Addr×Obj)} {σ:List (Option V)} {H H':Hp} {s:Shared} {h':Heap}
theorem Cx.Ok.nofr (ok:X.Ok) {b:Addr} {o:Obj} (e:X.base.get? b=some o):b ∉ X.fs:=fun hb=>by
 have:=(ok.funs.mem hb).1
 rw [e] at this; cases this
theorem Inv.bs (I:Inv X pins σ H s):∀ b o,X.base.get? b=some o→s.heap.get? b=some o∧H b=none:=fun b o e =>
 ⟨I.base.keep b o (I.ok.bs b o e).1 (I.ok.bs b o e).2 (I.ok.nofr e) (I.ok.noex b o e),I.base.free b o (I.ok.bs b o e).1 (I.ok.bs b o e).2 (I.ok.noex b o e)⟩
theorem Inv.bk (I:Inv X pins σ H s):∀ b o,X.base.get? b=some o→s.heap.get? b=some o:=fun b o e=>(I.bs b o e).1
theorem Inv.mod (I:Inv X pins σ H s):Mod X.K X.mg X.base:=I.ok.mod
theorem Inv.kIn (I:Inv X pins σ H s):X.K.In s.heap:=I.ok.mod.kin.keeps I.bk
theorem Inv.lt (I:Inv X pins σ H s):X.env.locals<s.heap.objs.size:=let ⟨_,hn,_⟩:=I.loc; hn.lt
theorem Inv.sz (I:Inv X pins σ H s):X.s₀.heap.objs.size≤s.heap.objs.size:=Nat.le_trans I.ok.above (Nat.le_of_lt I.lt)
theorem Inv.nofs (I:Inv X pins σ H s) {a:Addr} (h:s.heap.objs.size≤a):a ∉ X.fs:=fun hb=>by
 obtain ⟨_,o,ho,_⟩:=I.ok.funs.mem hb
 exact absurd (Nat.lt_of_lt_of_le (Heap.lt_size ho) (Nat.le_trans I.sz h)) (Nat.lt_irrefl _)
theorem Inv.cne (I:Inv X pins σ H s):∀ x c,X.env.cells.lookup x=some c→c≠X.env.locals:=fun x c e z=>by
 obtain ⟨v,o,ho,hd⟩:=I.cell x c e
 obtain ⟨m,⟨o',es,ep,ho',hd',_⟩,_⟩:=I.loc
 rw [z,ho'] at ho; cases ho; rw [hd'] at hd; cases hd
theorem Inv.funs (I:Inv X pins σ H s):s.heap.FunFrames X.base X.outer:=by
 have all:∀ (l:List Env),(∀ b∈frs l,b∈X.fs)→X.s₀.heap.FunFrames X.base l→s.heap.FunFrames X.base l:=by
  intro l
  induction l with
  | nil=>intro _ _; trivial
  | cons env r ih =>
   intro hs hl
   obtain ⟨hk,⟨L,o,hf,hn,ho,hd⟩,hr⟩:=hl
   have hL:L∈X.fs:=hs L (by unfold frs; rw [List.filterMap_cons,hf]; exact List.mem_cons_self)
   obtain ⟨sl,e⟩:=I.base.slot L o ho (I.ok.frf L hL) hL fun z=>I.ok.exfs L z hL
   exact ⟨hk,⟨L,_,hf,hn,e,hd⟩,ih (fun b hb=>hs b (by unfold frs; rw [List.filterMap_cons,hf]; exact List.mem_cons_of_mem _ hb)) hr⟩
 exact all X.outer (fun _ hb=>hb) I.ok.funs
theorem Inv.stack (I:Inv X pins σ H s):s.heap.FunFrames X.base X.stack:=by
 rcases I.ok.stk with e | ⟨e,hf⟩
 ·rw [e]; exact I.funs
 ·rw [e]
  obtain ⟨m,hn,_⟩:=I.loc
  refine .cons (by rw [I.ok.kind]; decide) hf hn ?_ I.funs
  exact Heap.get?_none_of_le (Nat.le_trans I.ok.bsz I.ok.above)
theorem Inv.stkSub (I:Inv X pins σ H s):∀ b∈frs X.stack,b∈X.env.locals :: X.fs:=fun b hb=>by
 rcases I.ok.stk with e | ⟨e,hf⟩
 ·rw [e] at hb; exact List.mem_cons_of_mem _ hb
 ·rw [e] at hb
  unfold frs at hb
  rw [List.filterMap_cons,hf] at hb
  exact hb
theorem Inv.stkFree (I:Inv X pins σ H s):∀ b∈frs X.stack,H b=none:=fun b hb=>by
 rcases List.mem_cons.mp (I.stkSub b hb) with e | hb
 ·rw [e]; exact I.free
 ·obtain ⟨_,o,ho,_⟩:=I.ok.funs.mem hb
  exact I.base.free b o ho (I.ok.frf b hb) fun z=>I.ok.exfs b z hb
theorem Inv.step {g':Array GenState} {t':Nat} {d':Drawn} {ch:List Addr} (I:Inv X pins σ H s)
  (hch:∀ b∈ch,(b∈X.ex∨X.s₀.heap.objs.size≤b)∧b≠X.env.locals∧(∀ x c,X.env.cells.lookup x=some c→c≠b)∧∀ p∈X.pn++pins,p.1≠b)
  (keep:∀ b o,b≠X.env.locals→b ∉ X.fs→b ∉ ch→s.heap.get? b=some o→H b=none→h'.get? b=some o)
  (slot:∀ b o,b≠X.env.locals→b∈X.fs→b ∉ ch→s.heap.get? b=some o→H b=none→∃ sl,h'.get? b=some { o with slots:=sl }) (free:∀ b o,b ∉ ch→s.heap.get? b=some o→H b=none→H' b=none)
  (there:∀ b o,b ∉ ch→s.heap.get? b=some o→∃ o',h'.get? b=some o')
  (tups:∀ b xs,H b=some (.tup xs)→H' b=some (.tup xs)) (frzs:∀ b o u,H b=some (.frz o u)→H' b=some (.frz o u)) (tbls:∀ b ps,H b=some (.tbl ps)→∃ more,H' b=some (.tbl (ps++more)))
  (ns:∀ m,s.heap.Ns X.env.locals m→h'.Ns X.env.locals m) (hok:HOk X.prog X.w H' h') (hg:AllBare g') :
  Inv X pins σ H' { s with heap:=h',gens:=g',drawn:=d',toks:=t' }:=by
 have neL:∀ b o,X.s₀.heap.get? b=some o→b≠X.env.locals:=fun b o e=>Nat.ne_of_lt (Nat.lt_of_lt_of_le (Heap.lt_size e) I.ok.above)
 have neC:∀ b o,X.s₀.heap.get? b=some o→b ∉ X.ex→b ∉ ch:=fun b o e hx hb=>by
  rcases (hch b hb).1 with z | z
  ·exact hx z
  ·exact absurd (Nat.lt_of_lt_of_le (Heap.lt_size e) z) (Nat.lt_irrefl _)
 have cellK:∀ x c,X.env.cells.lookup x=some c→∀ v,s.heap.IsCell c v→h'.IsCell c v:=fun x c e v ⟨o,ho,hd⟩=>by
  have nch:c ∉ ch:=fun z=>(hch c z).2.2.1 x c e rfl
  by_cases hc:c∈X.fs
  ·obtain ⟨sl,q⟩:=slot c o (I.cne x c e) hc nch ho (I.freeC x c e)
   exact ⟨_,q,hd⟩
  ·exact ⟨o,keep c o (I.cne x c e) hc nch ho (I.freeC x c e),hd⟩
 refine ⟨I.ok,I.os,hg,⟨fun b o e n hb hx => ?_,fun b o e n hb hx => ?_,fun b o e n hx => ?_,fun b o e hx => ?_,fun b xs e=>tups b xs (I.base.tups b xs e),fun b o xs e=>frzs b o xs (I.base.frzs b o xs e),fun b ps e => ?_⟩,?_,fun x c e => ?_,?_,fun x c e => ?_,fun p hp => ?_,hok,I.len⟩
 ·exact keep b o (neL b o e) hb (neC b o e hx) (I.base.keep b o e n hb hx) (I.base.free b o e n hx)
 ·obtain ⟨sl,e1⟩:=I.base.slot b o e n hb hx
  obtain ⟨sl',e2⟩:=slot b _ (neL b o e) hb (neC b o e hx) e1 (I.base.free b o e n hx)
  exact ⟨sl',e2⟩
 ·obtain ⟨o',e1⟩:=I.base.there b o e hx
  exact free b o' (neC b o e hx) e1 (I.base.free b o e n hx)
 ·obtain ⟨o',e1⟩:=I.base.there b o e hx
  exact there b o' (neC b o e hx) e1
 ·obtain ⟨m1,e1⟩:=I.base.tbls b ps e
  obtain ⟨m2,e2⟩:=tbls b _ e1
  exact ⟨m1++m2,by rw [e2,Array.append_assoc]⟩
 ·obtain ⟨m,hn,hl⟩:=I.loc
  refine ⟨m,ns m hn,fun i x v e1 e2 e3 => ?_⟩
  obtain ⟨u,r,l⟩:=hl i x v e1 e2 e3
  refine ⟨u,r,?_⟩
  rcases l with l | ⟨k,c,e,z⟩
  ·exact .inl l
  ·exact .inr ⟨k,c,e,cellK x c e _ z⟩
 ·obtain ⟨v,z⟩:=I.cell x c e
  exact ⟨v,cellK x c e v z⟩
 ·obtain ⟨m,⟨o,_,_,ho,_⟩,_⟩:=I.loc
  exact free _ o (fun z=>(hch _ z).2.1 rfl) ho I.free
 ·obtain ⟨v,o,ho,hd⟩:=I.cell x c e
  exact free c o (fun z=>(hch c z).2.2.1 x c e rfl) ho (I.freeC x c e)
 ·obtain ⟨e,n,ne,nf,d⟩:=I.pin p hp
  have nch:p.1 ∉ ch:=fun z=>(hch p.1 z).2.2.2 p hp rfl
  exact ⟨keep p.1 p.2 ne nf nch e n,free p.1 p.2 nch e n,ne,nf,d⟩
theorem Inv.un {t':Nat} (I:Inv X pins σ H s) (u:Un X.fs [] H H' s.heap h') (hok:HOk X.prog X.w H' h'):Inv X pins σ H' { s with heap:=h',toks:=t' }:=by
 obtain ⟨m,⟨o,es,ep,ho,r⟩,_⟩:=id I.loc
 obtain ⟨sl,hL⟩:=u.any ho I.free (by simp)
 exact I.step (g':=s.gens) (d':=s.drawn) (ch:=[]) (fun _ z=>nomatch z) (fun b o _ hb _ e n=>u.keep b o e n hb (by simp)) (fun b o _ hb _ e n=>u.slot b o e n hb (by simp)) (fun b o _ e n=>u.free b o e n (by simp)) (fun b o _ e=>u.there b o e (by simp)) u.tups u.frzs u.tbls (fun m' hm=>by
  obtain ⟨o',es',ep',ho',r'⟩:=hm
  rw [ho] at ho'; cases ho'
  exact ⟨_,es',ep',hL,r'⟩) hok I.bare
theorem Inv.call {g':Array GenState} {t':Nat} {d':Drawn} {ch:List Addr} (I:Inv X pins σ H s) (u:Un (frs X.stack) ch H H' s.heap h') (hok:HOk X.prog X.w H' h') (hg:AllBare g')
  (hch:∀ b∈ch,(b∈X.ex∨X.s₀.heap.objs.size≤b)∧b≠X.env.locals∧(∀ x c,X.env.cells.lookup x=some c→c≠b)∧∀ p∈X.pn++pins,p.1≠b) :
  Inv X pins σ H' { s with heap:=h',gens:=g',drawn:=d',toks:=t' }:=by
 obtain ⟨m,⟨o,es,ep,ho,r⟩,_⟩:=id I.loc
 obtain ⟨sl,hL⟩:=u.any ho I.free fun z=>(hch _ z).2.1 rfl
 exact I.step (ch:=ch) hch (fun b o hL hb hc e n=>u.keep b o e n (fun z=>(List.mem_cons.mp (I.stkSub b z)).elim hL hb) hc) (fun b o _ _ hc e n=>u.any e n hc) (fun b o hc e n=>u.free b o e n hc) (fun b o hc e=>u.there b o e hc) u.tups u.frzs u.tbls (fun m' hm=>by
  obtain ⟨o',es',ep',ho',r'⟩:=hm
  rw [ho] at ho'; cases ho'
  exact ⟨_,es',ep',hL,r'⟩) hok hg
theorem Inv.turned {t':Nat} {it:Addr} (I:Inv X pins σ H s) (k:∀ b o,b≠it→s.heap.get? b=some o→h'.get? b=some o) (hn:H it=none) (hL:it≠X.env.locals)
  (h1:it∈X.ex∨X.s₀.heap.objs.size≤it) (h2:∀ x c,X.env.cells.lookup x=some c→c≠it) (h3:∀ p∈X.pn++pins,p.1≠it):Inv X pins σ H { s with heap:=h',toks:=t' }:=by
 have nit:∀ b u,H b=some u→b≠it:=fun b u e z=>by rw [z,hn] at e; cases e
 refine I.step (g':=s.gens) (d':=s.drawn) (ch:=[it]) (fun b hb => ?_) (fun b o _ _ hc e _=>k b o (fun z=>hc (by simp [z])) e) (fun b o _ _ hc e _=>⟨o.slots,k b o (fun z=>hc (by simp [z])) e⟩) (fun _ _ _ _ n=>n)
  (fun b o hc e=>⟨o,k b o (fun z=>hc (by simp [z])) e⟩) (fun _ _ e=>e) (fun _ _ _ e=>e) (fun b ps e=>⟨#[],by rw [e]; simp⟩) (fun m hm => ?_) (fun b u e => ?_) I.bare
 ·have e:b=it:=by simpa using hb
  subst e
  exact ⟨h1,hL,h2,h3⟩
 ·obtain ⟨o,es,ep,ho,r⟩:=hm
  exact ⟨o,es,ep,k _ o (Ne.symm hL) ho,r⟩
 ·refine (I.hok b u e).stay (fun c v hc q=>k c v ?_ q) (fun _ q=>q) fun _ _ q=>q
  rcases hc with z | z
  ·rw [z]; exact nit b u e
  ·exact nit c _ z
theorem Inv.tok (I:Inv X pins σ H s) (t:Nat):Inv X pins σ H { s with toks:=t }:=I.un (h':=s.heap) (t':=t) Un.refl I.hok
theorem Inv.kept {t':Nat} (I:Inv X pins σ H s) (k:∀ b u,s.heap.get? b=some u→h'.get? b=some u):Inv X pins σ H { s with heap:=h',toks:=t' }:=I.un (Un.kept k) (I.hok.kept k)
theorem Inv.laid {a:Addr} {o:HO} {t':Nat} (I:Inv X pins σ H s) (k:∀ b u,s.heap.get? b=some u→h'.get? b=some u) (hp:s.heap.objs.size≤a) (new:ObjOk X.prog X.w (upd H a o) h' a o) :
  Inv X pins σ (upd H a o) { s with heap:=h',toks:=t' }:=I.un (Un.laid k hp (I.hok.fresh hp)) (I.hok.laid k hp new)
theorem Inv.write {x e:Addr} {o:HO} {t':Nat} (I:Inv X pins σ H s) (mu:Mut (H x)) (he:e=x∨H e=some (.own x)) (k:∀ b u,b≠e→s.heap.get? b=some u→h'.get? b=some u) (heo:∃ u,h'.get? e=some u)
  (new:ObjOk X.prog X.w (upd H x o) h' x o):Inv X pins σ (upd H x o) { s with heap:=h',toks:=t' }:=I.un (Un.write mu he k heo) (I.hok.write mu he k heo new)
theorem Inv.pins_of {pins':List (Addr×Obj)} (I:Inv X pins σ H s) (h:∀ p∈pins',s.heap.get? p.1=some p.2∧H p.1=none∧p.1≠X.env.locals∧p.1 ∉ X.fs∧∀ v,p.2.data≠.cell v):Inv X pins' σ H s :=
 ⟨I.ok,I.os,I.bare,I.base,I.loc,I.cell,I.free,I.freeC,fun p hp=>(List.mem_append.mp hp).elim (fun z=>I.pin p (List.mem_append_left _ z)) (h p),I.hok,I.len⟩
theorem nodup_ix {N:List Str} (hN:N.Nodup) {i j:Nat} {x:Str} (a:N[i]?=some x) (b:N[j]?=some x):i=j:=by
 obtain ⟨h1,e1⟩:=List.getElem?_eq_some_iff.mp a
 obtain ⟨h2,e2⟩:=List.getElem?_eq_some_iff.mp b
 exact (List.getElem_inj hN).mp (e1.trans e2.symm)
theorem store_ok2 {M:Model} {A:Around} {E:Value→Shared→Prop} {i:Nat} {x:Str} {v:V} {u:Value} {Q:Unit→Shared→Prop} (I:Inv X pins σ H s) (hN:X.N.Nodup) (hi:X.N[i]?=some x) (hx:Loc X.env.scope x) (r:RelV v u)
  (h:∀ s',Inv X pins (σ.set i (some v)) H s'→(∃ a,Heap.SameBut a s.heap s'.heap∧(a=X.env.locals∨X.env.cells.lookup x=some a))→Q () s') (hf:X.fn x=true∨X.env.scope.names.lookup x=some .local:=by first | exact .inl rfl | exact .inr rfl | assumption):wpAny M A (storeName X.env x u) Q E s:=by
 obtain ⟨m,hn,hl⟩:=id I.loc
 have hcls:(X.env.scope.kind == .class || (X.env.scope.kind == .module && X.env.locals != X.env.globals))=false:=by rw [I.ok.kind]; rfl
 have hiσ:i<σ.length:=by rw [I.len]; exact (List.getElem?_eq_some_iff.mp hi).1
 have cne:=I.cne
 have tracked:∀ {a:Addr} {h':Heap},(∃ o,s.heap.get? a=some o∧H a=none)→Heap.SameBut a s.heap h'→HOk X.prog X.w H h':=fun {a h'} ha hs b ob e=>by
  obtain ⟨_,_,hfree⟩:=ha
  refine (I.hok b ob e).stay (fun c w' hc q=>(hs.2 c ?_).trans q) (fun _ q=>q) fun _ _ q=>q
  rintro rfl
  rcases hc with rfl | hc
  ·rw [hfree] at e; cases e
  ·rw [hfree] at hc; cases hc
 rcases hx with hk | hk
 ·refine wpAny_storeName_local hk hn (fun h' hn' hs => ?_) hcls
  obtain ⟨oL,_,_,hoL,_⟩:=id hn
  refine h _ ⟨I.ok,I.os,I.bare,⟨fun b o e n hb hx => ?_,fun b o e n hb hx => ?_,I.base.free,fun b o e hx => ?_,I.base.tups,I.base.frzs,I.base.tbls⟩,⟨_,hn',fun j y v' e1 e2 e3 => ?_⟩,fun y c e => ?_,I.free,I.freeC,fun p hp => ?_,tracked ⟨oL,hoL,I.free⟩ hs,by simpa using I.len⟩ ⟨_,hs,.inl rfl⟩
  ·exact (hs.2 b (Nat.ne_of_lt (Nat.lt_of_lt_of_le (Heap.lt_size e) I.ok.above))).trans (I.base.keep b o e n hb hx)
  ·obtain ⟨sl,e1⟩:=I.base.slot b o e n hb hx
   exact ⟨sl,(hs.2 b (Nat.ne_of_lt (Nat.lt_of_lt_of_le (Heap.lt_size e) I.ok.above))).trans e1⟩
  ·obtain ⟨o',e1⟩:=I.base.there b o e hx
   exact ⟨o',(hs.2 b (Nat.ne_of_lt (Nat.lt_of_lt_of_le (Heap.lt_size e) I.ok.above))).trans e1⟩
  ·by_cases hj:j=i
   ·subst hj
    rw [hi] at e1; cases e1
    rw [List.getElem?_set_self hiσ] at e2
    cases e2
    exact ⟨u,r,.inl ⟨hk,by simp⟩⟩
   ·rw [List.getElem?_set_ne (Ne.symm hj)] at e2
    obtain ⟨u',r',q⟩:=hl j y v' e1 e2 e3
    refine ⟨u',r',?_⟩
    rcases q with ⟨k,e⟩ | ⟨k,c,e,z⟩
    ·refine .inl ⟨k,?_⟩
     have:y≠x:=fun e=>hj (nodup_ix hN e1 (e ▸ hi))
     simp [this,e]
    ·exact .inr ⟨k,c,e,z.sameBut hs (cne y c e)⟩
  ·obtain ⟨w',z⟩:=I.cell y c e
   exact ⟨w',z.sameBut hs (cne y c e)⟩
  ·obtain ⟨e,n,ne,nf,d⟩:=I.pin p hp
   exact ⟨(hs.2 p.1 ne).trans e,n,ne,nf,d⟩
 ·have hfn:X.fn x=true:=by
   rcases hf with z | z
   ·exact z
   ·rw [z] at hk; cases hk
  obtain ⟨c,hc⟩:=I.ok.has x (.inl hk)
  obtain ⟨w',z⟩:=I.cell x c hc
  refine wpAny_storeName_cell I.ok.kind hk hc z (fun h' hc' hs => ?_)
  obtain ⟨oc,hoc,hocd⟩:=id z
  refine h { s with heap:=h' } ⟨I.ok,I.os,I.bare,⟨fun b o e n hb hx => ?_,fun b o e n hb hx => ?_,I.base.free,fun b o e hx => ?_,I.base.tups,I.base.frzs,I.base.tbls⟩,⟨m,hn.sameBut hs (Ne.symm (cne x c hc)),fun j y v' e1 e2 e3 => ?_⟩,fun y c' e => ?_,I.free,I.freeC,fun p hp => ?_,tracked ⟨oc,hoc,I.freeC x c hc⟩ hs,by simpa using I.len⟩ ⟨c,hs,.inr hc⟩
  ·exact (hs.2 b (Nat.ne_of_lt (Nat.lt_of_lt_of_le (Heap.lt_size e) (I.ok.cab x c hfn hc)))).trans (I.base.keep b o e n hb hx)
  ·obtain ⟨sl,e1⟩:=I.base.slot b o e n hb hx
   exact ⟨sl,(hs.2 b (Nat.ne_of_lt (Nat.lt_of_lt_of_le (Heap.lt_size e) (I.ok.cab x c hfn hc)))).trans e1⟩
  ·obtain ⟨o',e1⟩:=I.base.there b o e hx
   exact ⟨o',(hs.2 b (Nat.ne_of_lt (Nat.lt_of_lt_of_le (Heap.lt_size e) (I.ok.cab x c hfn hc)))).trans e1⟩
  ·by_cases hj:j=i
   ·subst hj
    rw [hi] at e1; cases e1
    rw [List.getElem?_set_self hiσ] at e2
    cases e2
    exact ⟨u,r,.inr ⟨.inl hk,c,hc,hc'⟩⟩
   ·rw [List.getElem?_set_ne (Ne.symm hj)] at e2
    obtain ⟨u',r',q⟩:=hl j y v' e1 e2 e3
    refine ⟨u',r',?_⟩
    rcases q with q | ⟨k,c',e,z'⟩
    ·exact .inl q
    ·refine .inr ⟨k,c',e,z'.sameBut hs ?_⟩
     rintro rfl
     exact hj (nodup_ix hN e1 (I.ok.inj _ _ _ e hc ▸ hi))
  ·by_cases hcc:c'=c
   ·subst hcc; exact ⟨_,hc'⟩
   ·obtain ⟨w2,z2⟩:=I.cell y c' e
    exact ⟨w2,z2.sameBut hs hcc⟩
  ·obtain ⟨e,n,ne,nf,d⟩:=I.pin p hp
   refine ⟨(hs.2 p.1 ?_).trans e,n,ne,nf,d⟩
   intro q
   rw [q,hoc] at e
   have q':oc=p.2:=Option.some.inj e
   exact d w' (by rw [← q']; exact hocd)
theorem store_ok {M:Model} {A:Around} {E:Value→Shared→Prop} {i:Nat} {x:Str} {v:V} {u:Value} {Q:Unit→Shared→Prop} (I:Inv X pins σ H s) (hN:X.N.Nodup) (hi:X.N[i]?=some x) (hx:Loc X.env.scope x) (r:RelV v u)
  (h:∀ s',Inv X pins (σ.set i (some v)) H s'→Q () s') (hf:X.fn x=true∨X.env.scope.names.lookup x=some .local:=by first | exact .inl rfl | exact .inr rfl | assumption):wpAny M A (storeName X.env x u) Q E s :=
 store_ok2 I hN hi hx r (fun s' I' _=>h s' I') hf
theorem Inv.call' {s':Shared} {ch:List Addr} (I:Inv X pins σ H s) (ho:s'.os=s.os) (u:Un (frs X.stack) ch H H' s.heap s'.heap) (hok:HOk X.prog X.w H' s'.heap) (hg:AllBare s'.gens)
  (hch:∀ b∈ch,(b∈X.ex∨X.s₀.heap.objs.size≤b)∧b≠X.env.locals∧(∀ x c,X.env.cells.lookup x=some c→c≠b)∧∀ p∈X.pn++pins,p.1≠b):Inv X pins σ H' s':=by
 obtain ⟨h',g',d',t',o'⟩:=s'
 have e:o'=s.os:=ho
 subst e
 exact I.call (g':=g') (t':=t') (d':=d') u hok hg hch
end
noncomputable abbrev XK:=Value→Option Addr→Hp→Prop
noncomputable abbrev St:=List (Option V)
noncomputable abbrev VK:=V→Hp→Prop
noncomputable abbrev TE:=St→Hp→VK→Prop
noncomputable abbrev TT:=St→Hp→(Bool→Hp→Prop)→Prop
noncomputable abbrev TA:=St→Hp→(List V→Hp→Prop)→Prop
structure Ends where
 nx:St→Hp→Prop
 rt:VK
 bk:St→Hp→Prop:=fun _ _=>False
 ct:St→Hp→Prop:=fun _ _=>False
noncomputable abbrev TS:=Ends→St→Hp→Prop
noncomputable def EP (X:Cx) (pins:List (Addr×Obj)) (σ:St) (Q:VK) (u:Value) (s':Shared):Prop:=∃ v H',Inv X pins σ H' s'∧RelV v u∧Q v H'
noncomputable def TP (X:Cx) (pins:List (Addr×Obj)) (σ:St) (Q:Bool→Hp→Prop) (b:Bool) (s':Shared):Prop:=∃ H',Inv X pins σ H' s'∧Q b H'
noncomputable def AP (X:Cx) (pins:List (Addr×Obj)) (σ:St) (Q:List V→Hp→Prop) (us:List Value) (s':Shared):Prop:=∃ vs H',Inv X pins σ H' s'∧Vals vs us∧Q vs H'
noncomputable def SP (X:Cx) (pins:List (Addr×Obj)) (D:Ends) (f:Flow) (s':Shared):Prop :=
 match f with
 | .next => ∃ σ' H',Inv X pins σ' H' s'∧D.nx σ' H'
 | .brk => ∃ σ' H',Inv X pins σ' H' s'∧D.bk σ' H'
 | .cont => ∃ σ' H',Inv X pins σ' H' s'∧D.ct σ' H'
 | .ret u => ∃ v σ' H',Inv X pins σ' H' s'∧RelV v u∧D.rt v H'
noncomputable def PE (X:Cx) (e:Expr) (t:TE):Prop :=
 ∀ (pins:List (Addr×Obj)) (s:Shared) (σ:St) (H:Hp) (Q:VK),Inv X pins σ H s→t σ H Q→wpAny (model X.prog X.w) X.A (eval e X.env) (EP X pins σ Q) X.xe s
noncomputable def PT (X:Cx) (e:Expr) (t:TT):Prop :=
 ∀ (pins:List (Addr×Obj)) (s:Shared) (σ:St) (H:Hp) (Q:Bool→Hp→Prop),Inv X pins σ H s→t σ H Q→wpAny (model X.prog X.w) X.A (isTrue e X.env (eval e X.env)) (TP X pins σ Q) X.xe s
noncomputable def PW (X:Cx) (e:Expr) (t:TT):Prop :=
 ∀ (whole:Sem Value) (pins:List (Addr×Obj)) (s:Shared) (σ:St) (H:Hp) (Q:Bool→Hp→Prop),Inv X pins σ H s→t σ H Q→wpAny (model X.prog X.w) X.A (isTrue e X.env whole) (TP X pins σ Q) X.xe s
theorem PW.pt {X:Cx} {e:Expr} {t:TT} (h:PW X e t):PT X e t:=h _
noncomputable def PA (X:Cx) (es:List Expr) (t:TA):Prop :=
 ∀ (pos:Pos) (pins:List (Addr×Obj)) (s:Shared) (σ:St) (H:Hp) (Q:List V→Hp→Prop),Inv X pins σ H s→t σ H Q→wpAny (model X.prog X.w) X.A (spliced (backTo pos (starEach es X.env))) (AP X pins σ Q) X.xe s
noncomputable def PS (X:Cx) (st:Stmt) (t:TS):Prop :=
 ∀ (pins:List (Addr×Obj)) (s:Shared) (σ:St) (H:Hp) (D:Ends),Inv X pins σ H s→t D σ H→wpAny (model X.prog X.w) X.A (exec st X.env) (SP X pins D) X.xe s
noncomputable def PSs (X:Cx) (st:List Stmt) (t:TS):Prop :=
 ∀ (pins:List (Addr×Obj)) (s:Shared) (σ:St) (H:Hp) (D:Ends),Inv X pins σ H s→t D σ H→wpAny (model X.prog X.w) X.A (execs st X.env) (SP X pins D) X.xe s
theorem thn {α:Type} {t:Sem α} {Q Q':α→Shared→Prop} {M:Model} {A:Around} {E:Value→Shared→Prop} {s:Shared} (h:wpAny M A t Q E s) (hQ:∀ a s,Q a s→Q' a s):wpAny M A t Q' E s:=wpAny_mono h hQ fun _ _ x=>x
end L2
namespace L2
open PySem PySem.Spec PyProof.Rows
section
variable {X:Cx}
noncomputable def tVar (i:Nat):TE:=fun σ H Q => ∃ v,σ[i]?=some (some v)∧Q v H
noncomputable def tC (v:V):TE:=fun _ H Q=>Q v H
theorem pe_var {i : Nat} {x : Str} {pos : Pos} (hN : X.N[i]? = some x) (hv : Vis X.env.scope x) (hd : (x == ("__debug__" : Str)) = false := by decide) (hcd : (x == ("__classdict__" : Str)) = false := by decide) : PE X (.Name x pos) (tVar i) := by
 intro pins s σ H Q I h
 obtain ⟨v,e,h⟩:=h
 obtain ⟨m,hn,hl⟩:=I.loc
 obtain ⟨u,r,l⟩:=hl i x v hN e hv
 have fin:EP X pins σ Q u s:=⟨v,H,I,r,h⟩
 rcases l with ⟨hk,hm⟩ | ⟨hk,c,hc,hcell⟩
 ·exact wpAny_Name (wpAny_loadName_local I.ok.kind hk hn hm fin) hd
 ·rcases hk with hk | hk
  ·exact wpAny_Name (wpAny_loadName_cell I.ok.kind hk hc hcell fin) hd
  ·exact wpAny_Name (wpAny_loadName_free I.ok.kind hk hc hcell fin hcd) hd
theorem pe_int {i j pos}:PE X (.Constant (.int i) j pos) (tC (.int i)):=fun _ _ _ H _ I h=>wpAny_Constant_int ⟨.int i,H,I.tok _,⟨_,rfl⟩,h⟩
theorem pe_bl {b j pos}:PE X (.Constant (.bool b) j pos) (tC (.bl b)):=fun _ _ _ H _ I h=>Constant_bool ⟨.bl b,H,I,rfl,h⟩
theorem pe_non {j pos}:PE X (.Constant .none j pos) (tC .non):=fun _ _ _ H _ I h=>Constant_none ⟨.non,H,I,rfl,h⟩
theorem pe_str {x j pos}:PE X (.Constant (.str x) j pos) (tC (.str x)):=fun _ _ _ H _ I h=>Calls.Constant_str ⟨.str x,H,I.tok _,⟨_,rfl⟩,h⟩
noncomputable def Gl (X:Cx) (x:Str):Prop:=X.env.kindOf x=some .globalImplicit
theorem ld_glob {E:Value→Shared→Prop} {pins:List (Addr×Obj)} {s:Shared} {σ:St} {H:Hp} {x:Str} {u:Value} {pos:Pos} {Q:Value→Shared→Prop} (I:Inv X pins σ H s) (hg:Gl X x) (hm:X.mg x=some u) (h:Q u s)
  (hd : (x == ("__debug__" : Str)) = false := by decide) : wpAny (model X.prog X.w) X.A (eval (.Name x pos) X.env) Q E s :=
 Calls.Name_function_global I.ok.kind hg (Calls.loadGlobal_global (by rw [I.ok.glob]; exact I.mod.glob.keeps I.bk) hm h) hd
theorem ld_blt {E:Value→Shared→Prop} {pins:List (Addr×Obj)} {s:Shared} {σ:St} {H:Hp} {x:Str} {u:Value} {pos:Pos} {Q:Value→Shared→Prop} (I:Inv X pins σ H s) (hg:Gl X x) (hm:X.mg x=none) (hv:bootBuiltins x=some u) (h:Q u s)
  (hn : x ≠ "__name__" := by decide) (hd : (x == ("__debug__" : Str)) = false := by decide) : wpAny (model X.prog X.w) X.A (eval (.Name x pos) X.env) Q E s := by
 obtain ⟨mb,h1,h2⟩:=I.mod.blt
 exact Calls.Name_function_global I.ok.kind hg (Calls.loadGlobal_builtin (by rw [I.ok.glob]; exact I.mod.glob.keeps I.bk) hm (by rw [I.ok.blt]; exact h1.keeps I.bk) ((h2 x hn).trans hv) h) hd
theorem pe_glob {x : Str} {v : V} {u : Value} {pos : Pos} (hg : Gl X x) (hm : X.mg x = some u) (r : RelV v u) (hd : (x == ("__debug__" : Str)) = false := by decide) : PE X (.Name x pos) (tC v) :=
 fun _ _ _ H _ I h=>ld_glob I hg hm ⟨v,H,I,r,h⟩ hd
variable {a b:Expr} {ta tb:TE} {pos:Pos}
noncomputable def tB (t:TE):TT:=fun σ H Q=>t σ H fun x H1 => ∃ c,x = .bl c∧Q c H1
theorem pt_val {e:Expr} {t:TE} (h:PE X e t) (he:∀ whole,isTrue e X.env whole=(do let v ← whole; standAt e.pos; holding [v] (truthy v)):=by intro _; rfl):PT X e (tB t):=by
 intro pins s σ H Q I hw
 refine isTrue_plain (thn (h pins s σ H _ I hw) fun v s1 ⟨x,H1,I1,r1,q1⟩ => ?_) (he _)
 obtain ⟨d,rfl,q⟩:=q1
 cases r1
 exact wpAny_truthy_bool ⟨H1,I1,q⟩
variable {tA tB':TT} {rest:List Expr}
noncomputable def tAnd (t u:TT):TT:=fun σ H Q=>t σ H fun c H1=>if c=true then u σ H1 Q else Q false H1
theorem pw_and1 (ha:PT X a tA):PW X (.BoolOp .And [a] pos) tA:=by
 intro wh pins s σ H Q I h
 refine isTrue_and (thn (ha pins s σ H Q I h) fun c s1 e => ?_)
 cases c with
 | true=>exact isTrue_and_nil e
 | false=>exact e
theorem pw_and (ha:PT X a tA) (hb:PW X (.BoolOp .And (b :: rest) pos) tB'):PW X (.BoolOp .And (a :: b :: rest) pos) (tAnd tA tB'):=by
 intro wh pins s σ H Q I h
 refine isTrue_and (thn (ha pins s σ H _ I h) fun c s1 ⟨H1,I1,q1⟩ => ?_)
 cases c with
 | true=>exact hb wh pins s1 σ H1 Q I1 q1
 | false=>exact ⟨H1,I1,q1⟩
noncomputable def tIf (t:TT) (ta tb:TE):TE:=fun σ H Q=>t σ H fun c H1=>if c=true then ta σ H1 Q else tb σ H1 Q
theorem pe_ifExp {c:Expr} (hc:PT X c tA) (ha:PE X a ta) (hb:PE X b tb):PE X (.IfExp c a b pos) (tIf tA ta tb):=by
 intro pins s σ H Q I h
 refine wpAny_IfExp (thn (hc pins s σ H _ I h) fun d s1 ⟨H1,I1,q1⟩ => ?_)
 cases d with
 | true=>exact ha pins s1 σ H1 Q I1 q1
 | false=>exact hb pins s1 σ H1 Q I1 q1
end
end L2
namespace L2
open PySem PySem.Spec PyProof.Rows
noncomputable def SqL (K:PySem.W.Frag) (H:Hp) (a:Addr) (xs:List V):Prop :=
 Rd H a (.lst xs) ∨
  ∃ (o : Obj) (its : Array Value) (n : Nat), K.lookup a = some o ∧ o.cls = .type "list" ∧ o.dict = none ∧ o.data = .seq its n ∧ its.size ≤ sizeLine ∧ Vals xs its.toList
noncomputable def SqT (K:PySem.W.Frag) (H:Hp) (a:Addr) (xs:List V):Prop :=
 Rd H a (.tup xs) ∨
  ∃ (o : Obj) (its : Array Value) (n : Nat), K.lookup a = some o ∧ o.cls = .type "tuple" ∧ o.data = .seq its n ∧ its.size ≤ sizeLine ∧ Vals xs its.toList
noncomputable def absV:Value→Option V
 | .none=>some .non
 | .bool b=>some (.bl b)
 | .int i _=>some (.int i)
 | .str x _=>some (.str x)
 | .bytes b _=>some (.byt b)
 | .float b _=>some (.flt b)
 | .ref a=>some (.ref a)
 | .type n=>some (.ty n)
 | _=>none
theorem RelV.abs {x:V} {u:Value} (r:RelV x u):absV u=some x:=by
 cases x with
 | non=>cases r; rfl
 | bl _=>cases r; rfl
 | int _=>obtain ⟨t,rfl⟩:=r; rfl
 | str _=>obtain ⟨t,rfl⟩:=r; rfl
 | byt _=>obtain ⟨t,rfl⟩:=r; rfl
 | flt _=>obtain ⟨t,rfl⟩:=r; rfl
 | ref _=>cases r; rfl
 | ty _=>cases r; rfl
theorem RelV.inj {x y:V} {u:Value} (r:RelV x u) (q:RelV y u):x=y:=Option.some.inj (r.abs.symm.trans q.abs)
theorem Vals.inj:∀ {xs ys:List V} {us:List Value},Vals xs us→Vals ys us→xs=ys
 | _,_,_,.nil,.nil=>rfl
 | _,_,_,.cons r t,.cons r' t'=>by rw [r.inj r',Vals.inj t t']
section
variable {X:Cx} {pins:List (Addr×Obj)} {σ:St} {H:Hp} {s:Shared} {a:Addr} {xs ys:List V}
theorem SqL.of {K:PySem.W.Frag} (h:H a=some (.lst xs)):SqL K H a xs:=.inl (.inl h)
theorem SqT.of {K:PySem.W.Frag} (h:H a=some (.tup xs)):SqT K H a xs:=.inl (.inl h)
theorem Inv.list (I:Inv X pins σ H s) (h:SqL X.K H a xs):∃ its:List Value,Vals xs its∧PlainL s.heap a its.toArray∧xs.length≤sizeLine:=by
 rcases h with h | ⟨o,its,n,hk,hc,hd,hs,hz,r⟩
 ·obtain ⟨z,its,n,r,e⟩:=h.ok I.hok
  exact ⟨its,r,⟨_,n,e,rfl,rfl,rfl⟩,z⟩
 ·refine ⟨its.toList,r,⟨o,n,I.kIn a o hk,hc,hd,by simpa using hs⟩,?_⟩
  have e:=r.length
  simp only [Array.length_toList] at e
  omega
theorem Inv.tuple (I:Inv X pins σ H s) (h:SqT X.K H a xs):∃ its:List Value,Vals xs its∧IsTup s.heap a its.toArray∧xs.length≤sizeLine:=by
 rcases h with h | ⟨o,its,n,hk,hc,hs,hz,r⟩
 ·obtain ⟨z,its,r,p,_⟩:=h.ok I.hok
  exact ⟨its,r,p,z⟩
 ·refine ⟨its.toList,r,⟨o,I.kIn a o hk,hc,n,by simpa using hs⟩,?_⟩
  have e:=r.length
  simp only [Array.length_toList] at e
  omega
theorem Inv.list_inj (I:Inv X pins σ H s) (h:SqL X.K H a xs) (h':SqL X.K H a ys):xs=ys:=by
 obtain ⟨its,r,⟨o,n,e,_,_,d⟩,_⟩:=I.list h
 obtain ⟨its',r',⟨o',n',e',_,_,d'⟩,_⟩:=I.list h'
 rw [e] at e'; cases e'
 rw [d] at d'
 injection d' with d1 _
 have:its=its':=by simpa using congrArg Array.toList d1
 subst this
 exact r.inj r'
theorem Inv.tuple_inj (I:Inv X pins σ H s) (h:SqT X.K H a xs) (h':SqT X.K H a ys):xs=ys:=by
 obtain ⟨its,r,⟨o,e,_,n,d⟩,_⟩:=I.tuple h
 obtain ⟨its',r',⟨o',e',_,n',d'⟩,_⟩:=I.tuple h'
 rw [e] at e'; cases e'
 rw [d] at d'
 injection d' with d1 _
 have:its=its':=by simpa using congrArg Array.toList d1
 subst this
 exact r.inj r'
end
noncomputable abbrev Cx.wish (X:Cx) (E:Value→Shared→Prop):Cx:={ X with xe:=E }
noncomputable abbrev Cx.nox (X:Cx):Cx:=X.wish fun _ _=>False
theorem Cx.Ok.wish {X:Cx} (ok:X.Ok) (E:Value→Shared→Prop):(X.wish E).Ok :=
 ⟨ok.mod,ok.kind,ok.glob,ok.blt,ok.above,ok.inj,ok.has,ok.cab,ok.hd,ok.frames,ok.stk,ok.exf,ok.bs,ok.bsz,ok.noex,ok.exfs,ok.funs,ok.frf⟩
theorem Cx.Ok.unwish {X:Cx} {E:Value→Shared→Prop} (ok:(X.wish E).Ok):X.Ok :=
 ⟨ok.mod,ok.kind,ok.glob,ok.blt,ok.above,ok.inj,ok.has,ok.cab,ok.hd,ok.frames,ok.stk,ok.exf,ok.bs,ok.bsz,ok.noex,ok.exfs,ok.funs,ok.frf⟩
section
variable {X:Cx} {pins:List (Addr×Obj)} {σ:St} {H:Hp} {s:Shared} {E:Value→Shared→Prop}
theorem Inv.wish (I:Inv X pins σ H s) (E:Value→Shared→Prop):Inv (X.wish E) pins σ H s:=⟨I.ok.wish E,I.os,I.bare,I.base,I.loc,I.cell,I.free,I.freeC,I.pin,I.hok,I.len⟩
theorem Inv.unwish (I:Inv (X.wish E) pins σ H s):Inv X pins σ H s:=⟨I.ok.unwish,I.os,I.bare,I.base,I.loc,I.cell,I.free,I.freeC,I.pin,I.hok,I.len⟩
theorem SP.unwish {D:Ends} {f:Flow} {s':Shared} (h:SP (X.wish E) pins D f s'):SP X pins D f s':=by
 cases f with
 | next=>obtain ⟨σ',H',I,q⟩:=h; exact ⟨σ',H',I.unwish,q⟩
 | brk=>obtain ⟨σ',H',I,q⟩:=h; exact ⟨σ',H',I.unwish,q⟩
 | cont=>obtain ⟨σ',H',I,q⟩:=h; exact ⟨σ',H',I.unwish,q⟩
 | ret u=>obtain ⟨v,σ',H',I,r,q⟩:=h; exact ⟨v,σ',H',I.unwish,r,q⟩
theorem PSs.nox {st:List Stmt} {t:TS} (h:PSs X.nox st t):PSs X st t:=fun pins s σ H D I hw =>
 wpAny_mono (h pins s σ H D (I.wish _) hw) (fun _ _ q=>q.unwish) fun _ _ z=>False.elim z
end
section
variable {X:Cx} {st:Stmt} {rest:List Stmt} {t u:TS} {e:Expr} {te:TE} {pos:Pos}
noncomputable def tNext:TS:=fun D σ H=>D.nx σ H
noncomputable def tSeq (t u:TS):TS:=fun D σ H=>t { D with nx:=u D } σ H
theorem pss_nil:PSs X [] tNext:=fun _ _ σ H _ I h=>wpAny_execs_nil ⟨σ,H,I,h⟩
theorem pss_cons (h1:PS X st t) (h2:PSs X rest u):PSs X (st :: rest) (tSeq t u):=by
 intro pins s σ H D I h
 refine wpAny_execs_cons (thn (h1 pins s σ H { D with nx:=u D } I h) fun f s1 q => ?_)
 cases f with
 | next =>
  obtain ⟨σ',H',I',q⟩:=q
  exact h2 pins s1 σ' H' D I' q
 | ret v=>exact q
 | brk=>exact q
 | cont=>exact q
theorem pss_one (h1:PS X st t):PSs X [st] t:=by
 intro pins s σ H D I h
 refine wpAny_execs_cons (thn (h1 pins s σ H D I h) fun f s1 q => ?_)
 cases f with
 | next=>exact wpAny_execs_nil q
 | ret v=>exact q
 | brk=>exact q
 | cont=>exact q
theorem Inv.quiet {pins:List (Addr×Obj)} {σ:St} {H:Hp} {s:Shared} (I:Inv X pins σ H s):interactive X.env=false:=by simp [interactive,I.ok.kind]
noncomputable def tDrop (te:TE):TS:=fun D σ H=>te σ H fun _ H1=>D.nx σ H1
theorem ps_expr (he:PE X e te) (hs:swapsWith e none pos.line X.env=pure false:=by rfl):PS X (.Expr e pos) (tDrop te):=by
 intro pins s σ H D I h
 exact wpAny_Expr_any (thn (he pins s σ H _ I h) fun v s1 ⟨x,H1,I1,r1,q1⟩=>⟨σ,H1,I1,q1⟩) I.quiet hs
noncomputable def tRet (te:TE):TS:=fun D σ H=>te σ H D.rt
theorem ps_ret (he:PE X e te):PS X (.Return (some e) pos) (tRet te):=by
 intro pins s σ H D I h
 exact wpAny_Return_some (thn (he pins s σ H _ I h) fun v s1 ⟨x,H1,I1,r1,q1⟩=>⟨x,σ,H1,I1,r1,q1⟩)
noncomputable def tIfS (c:TT) (t u:TS):TS:=fun D σ H=>c σ H fun b H1=>if b=true then t D σ H1 else u D σ H1
theorem ps_if {c:Expr} {a b:List Stmt} {tc:TT} (hc:PT X c tc) (ha:PSs X a t) (hb:PSs X b u):PS X (.If c a b pos) (tIfS tc t u):=by
 intro pins s σ H D I h
 refine wpAny_If (thn (hc pins s σ H _ I h) fun d s1 ⟨H1,I1,q1⟩ => ?_)
 cases d with
 | true=>exact ha pins s1 σ H1 D I1 q1
 | false=>exact hb pins s1 σ H1 D I1 q1
end
noncomputable abbrev TG:=V→St→Hp→(St→Hp→Prop)→Prop
noncomputable abbrev TGs:=List V→St→Hp→(St→Hp→Prop)→Prop
noncomputable def PG (X:Cx) (target:Expr) (t:TG):Prop :=
 ∀ (pins:List (Addr×Obj)) (s:Shared) (σ:St) (H:Hp) (v:V) (u:Value) (Q:St→Hp→Prop),Inv X pins σ H s→RelV v u→t v σ H Q →
  wpAny (model X.prog X.w) X.A (assign target X.env u) (fun _ s' => ∃ σ' H',Inv X pins σ' H' s'∧Q σ' H') X.xe s
noncomputable def PGs (X:Cx) (ts:List Expr) (t:TGs):Prop :=
 ∀ (pins:List (Addr×Obj)) (s:Shared) (σ:St) (H:Hp) (vs:List V) (us:List Value) (Q:St→Hp→Prop),Inv X pins σ H s→Vals vs us→t vs σ H Q →
  wpAny (model X.prog X.w) X.A (assignInOrder ((assignEach ts X.env).map (·.2)) us) (fun _ s' => ∃ σ' H',Inv X pins σ' H' s'∧Q σ' H') X.xe s
section
variable {X:Cx} {pos:Pos}
noncomputable def gName (i:Nat):TG:=fun v σ H Q=>Q (σ.set i (some v)) H
theorem pg_name {i:Nat} {x:Str} (hN:X.N.Nodup) (hi:X.N[i]?=some x) (hx:Loc X.env.scope x) (hf:X.fn x=true∨X.env.scope.names.lookup x=some .local:=by first | exact .inl rfl | exact .inr rfl | assumption):PG X (.Name x pos) (gName i):=by
 intro pins s σ H v u Q I r h
 exact wpAny_assign_Name (store_ok I hN hi hx r (fun s' I'=>⟨_,H,I',h⟩) hf)
noncomputable def gNil:TGs:=fun vs σ H Q=>vs=[]∧Q σ H
noncomputable def gCons (t:TG) (u:TGs):TGs:=fun vs σ H Q => ∃ v r,vs=v :: r∧t v σ H fun σ' H'=>u r σ' H' Q
theorem pgs_nil:PGs X [] gNil:=by
 intro pins s σ H vs us Q I r h
 obtain ⟨e,h⟩:=h
 subst e
 cases r
 exact assignInOrder_nil ⟨σ,H,I,h⟩
theorem pgs_cons {e:Expr} {es:List Expr} {t:TG} {u:TGs} (h1:PG X e t) (h2:PGs X es u)
  (hs:(assignEach (e :: es) X.env).map (·.2)=assign e X.env :: (assignEach es X.env).map (·.2):=by rfl):PGs X (e :: es) (gCons t u):=by
 intro pins s σ H vs us Q I r h
 obtain ⟨v,vr,e1,h⟩:=h
 subst e1
 cases r with
 | cons r rr =>
  rw [hs]
  refine assignInOrder_cons (thn (h1 pins s σ H _ _ _ I r h) fun _ s1 ⟨σ1,H1,I1,q1⟩ => ?_)
  exact h2 pins s1 σ1 H1 _ _ Q I1 rr q1
noncomputable def gTup (K:PySem.W.Frag) (n:Nat) (t:TGs):TG:=fun v σ H Q => ∃ a xs,v = .ref a∧SqT K H a xs∧xs.length=n∧t xs σ H Q
theorem pg_tup {es:List Expr} {k:Nat} {t:TGs} {n:Nat} (hc:X.calm=true) (h:PGs X es t)
  (hn:(assignEach es X.env).length=n:=by rfl) (hst:(assignEach es X.env).findIdx? (·.1)=none:=by rfl):PG X (.Tuple es k pos) (gTup X.K n t):=by
 intro pins s σ H v u Q I r hw
 obtain ⟨a,xs,e1,hq,hl,hw⟩:=hw
 subst e1
 cases r
 obtain ⟨its,rv,ht,hz⟩:=I.tuple hq
 refine assign_Tuple_tuple (I.ok.hd hc) ht (by simp [hn,← hl,rv.length]) hst fun h' hx => ?_
 have I1:Inv X pins σ H { s with heap:=h' }:=I.kept (t':=s.toks) fun b o e=>hx b o (Nat.ne_of_lt (Heap.lt_size e)) e
 exact h pins _ σ H xs _ Q I1 (by simpa using rv) hw
noncomputable def tAsg (te:TE) (g:TG):TS:=fun D σ H=>te σ H fun x H1=>g x σ H1 D.nx
theorem ps_set {i:Nat} {x:Str} {e:Expr} {te:TE} {pos':Pos} (hN:X.N.Nodup) (hi:X.N[i]?=some x) (hx:Loc X.env.scope x) (he:PE X e te) (hs:swapsWith e (some (.Name x pos')) pos.line X.env=pure false:=by rfl) (hf:X.fn x=true∨X.env.scope.names.lookup x=some .local:=by first | exact .inl rfl | exact .inr rfl | assumption) :
  PS X (.Assign [.Name x pos'] e pos) (tAsg te (gName i)):=by
 intro pins s σ H D I h
 refine wpAny_Assign_Name (thn (he pins s σ H _ I h) fun v s1 ⟨y,H1,I1,r1,q1⟩ => ?_) hs
 exact store_ok I1 hN hi hx r1 (fun s2 I2=>⟨_,H1,I2,q1⟩) hf
end
section
variable {X:Cx} {pos:Pos}
noncomputable def tWhile (c:TT) (tb:TS):TS:=fun D σ H => ∃ W:Nat→St→Hp→Prop,(∃ m,W m σ H)∧∀ m σ H,W m σ H →
 c σ H fun b H1=>if b=true then ∃ N:St→Hp→Prop,(∀ σ' H',N σ' H'→∃ m',m' < m∧W m' σ' H')∧tb { D with nx:=N,ct:=N,bk:=D.nx } σ H1 else D.nx σ H1
theorem ps_while {c:Expr} {body:List Stmt} {tc:TT} {tb:TS} (hp:PassesOwn (model X.prog X.w) X.A X.env X.xe) (hc:PT X c tc) (hb:PSs X body tb):PS X (.While c body [] pos) (tWhile tc tb):=by
 intro pins s σ H D I h
 obtain ⟨W,⟨m0,w0⟩,turn⟩:=h
 refine wpAny_While (codeAny_whileLoop (fun n s' => ∃ σ' H',Inv X pins σ' H' s'∧W n σ' H') ?_ m0 ⟨σ,H,I,w0⟩)
 rintro n s1 ⟨σ1,H1,I1,w1⟩
 refine wpAny_passesOwn hp (thn (hc pins s1 σ1 H1 _ I1 (turn n σ1 H1 w1)) fun b s2 ⟨H2,I2,q2⟩ => ?_)
 cases b with
 | true =>
  obtain ⟨N,hN,q2⟩:=q2
  rw [if_pos rfl]
  refine wpAny_passesOwn hp (thn (hb pins s2 σ1 H2 _ I2 q2) fun f s3 q3 => ?_)
  cases f with
  | next =>
   obtain ⟨σ3,H3,I3,n3⟩:=q3
   obtain ⟨m',hm,w3⟩:=hN σ3 H3 n3
   exact ⟨m',hm,σ3,H3,I3,w3⟩
  | cont =>
   obtain ⟨σ3,H3,I3,n3⟩:=q3
   obtain ⟨m',hm,w3⟩:=hN σ3 H3 n3
   exact ⟨m',hm,σ3,H3,I3,w3⟩
  | brk=>exact q3
  | ret v=>exact q3
 | false =>
  rw [if_neg Bool.false_ne_true]
  exact wpAny_execs_nil ⟨σ1,H2,I2,q2⟩
end
structure It where
 go:Nat→Hp→Prop
 yld:Nat→Hp→V→Hp→Prop
 stop:Nat→Hp→Prop
noncomputable def FpOk (X:Cx) (pins:List (Addr×Obj)) (H:Hp) (b:Addr):Prop :=
 H b=none∧b≠X.env.locals∧b ∉ X.fs∧(b∈X.ex∨X.s₀.heap.objs.size≤b)∧(∀ x c,X.env.cells.lookup x=some c→c≠b)∧∀ p∈X.pn++pins,p.1≠b
theorem Inv.fpOk {X:Cx} {pins:List (Addr×Obj)} {σ:St} {H H':Hp} {s:Shared} {b:Addr} (I:Inv X pins σ H s) (hb:s.heap.objs.size≤b) (hn:H' b=none):FpOk X pins H' b:=by
 refine ⟨hn,Nat.ne_of_gt (Nat.lt_of_lt_of_le I.lt hb),I.nofs hb,.inr (Nat.le_trans I.sz hb),fun x c e z => ?_,fun p hp z => ?_⟩
 ·obtain ⟨v,q⟩:=I.cell x c e
  exact absurd (Nat.lt_of_lt_of_le q.lt (by rw [z]; exact hb)) (Nat.lt_irrefl _)
 ·exact absurd (Nat.lt_of_lt_of_le (Heap.lt_size (I.pin p hp).1) (by rw [z]; exact hb)) (Nat.lt_irrefl _)
structure Turn (P:Program) (w:World) (K:PySem.W.Frag) (tg:Expr) (J:It) (fp:List Addr) (it:Addr) (tn:Nat→Heap→Prop):Prop where
 mem:it∈fp
 obj:∀ i h,tn i h→∀ b∈fp,∃ o,h.get? b=some o∧∀ v,o.data≠.cell v
 keep:∀ i h h',tn i h→(∀ b∈fp,∀ o,h.get? b=some o→h'.get? b=some o)→tn i h'
 item:∀ (X:Cx),X.prog=P→X.w=w→X.K=K→X.calm=true→∀ (i:Nat) (pins:List (Addr×Obj)) (s:Shared) (σ:St) (H:Hp) (E:Value→Shared→Prop),Inv X pins σ H s→(∀ b∈fp,FpOk X pins H b)→tn i s.heap→J.go i H →
  wpAny (model P w) X.A (pyNext (.ref it)) (fun r s1 => ∃ u,r=some u ∧
   wpAny (model P w) X.A (letOwnedTupleGo tg (.ref it) u) (fun _ s2 => ∃ x H',Inv X pins σ H' s2∧RelV x u∧J.yld i H x H'∧tn (i+1) s2.heap∧∀ b∈fp,H' b=none) E s1) E s
 done:∀ (X:Cx),X.prog=P→X.w=w→X.K=K→X.calm=true→∀ (i:Nat) (pins:List (Addr×Obj)) (s:Shared) (σ:St) (H:Hp) (E:Value→Shared→Prop),Inv X pins σ H s→(∀ b∈fp,FpOk X pins H b)→tn i s.heap→J.stop i H →
  wpAny (model P w) X.A (pyNext (.ref it)) (fun r s1=>r=none∧Inv X pins σ H s1) E s
 self:∀ (A:Around) (i:Nat) (s:Shared) (Q:Value→Shared→Prop) (E:Value→Shared→Prop),tn i s.heap→Q (.ref it) s→wpAny (model P w) A (pyIter (.ref it)) Q E s
noncomputable abbrev TI:=St→Hp→(It→Hp→Prop)→Prop
noncomputable def PIE (X:Cx) (pins:List (Addr×Obj)) (σ:St) (tg:Expr) (R:It→Hp→Prop) (itv:Value) (s2:Shared):Prop :=
 ∃ (it:Addr) (fp:List Addr) (tn:Nat→Heap→Prop) (J:It) (H':Hp),itv = .ref it∧Inv X pins σ H' s2∧Turn X.prog X.w X.K tg J fp it tn∧tn 0 s2.heap∧(∀ b∈fp,FpOk X pins H' b)∧R J H'
noncomputable def PI (X:Cx) (tg iter:Expr) (wi:TI):Prop :=
 ∀ (pins:List (Addr×Obj)) (s:Shared) (σ:St) (H:Hp) (R:It→Hp→Prop),Inv X pins σ H s→wi σ H R →
  wpAny (model X.prog X.w) X.A (eval iter X.env) (fun v s1=>wpAny (model X.prog X.w) X.A (pyIter v) (PIE X pins σ tg R) X.xe s1) X.xe s
theorem go_of {M:Model} {A:Around} {E:Value→Shared→Prop} {s:Shared} {tg:Expr} {it:Addr} {u:Value} {o:Obj} {n:String} {vs:Array Value} {Q:Unit→Shared→Prop} (ho:s.heap.get? it=some o) (hc:o.cls = .type n) (hd:o.data = .fields vs)
    (hn : ["enumerate", "zip", "dict_itemiterator", "dict_reverseitemiterator", "odict_iterator", "itertools.zip_longest", "itertools.pairwise"].contains n = false) (hQ : Q () s) : wpAny M A (letOwnedTupleGo tg (.ref it) u) Q E s := by
  unfold letOwnedTupleGo
  cases tg <;> first
    | exact wpAny_pure hQ
    | (cases u <;> first
        | exact wpAny_pure hQ
        | (refine wpAny_bind (wpAny_load ho ?_)
           rw [hc,hd]
           show wpAny M A (if (["enumerate", "zip", "dict_itemiterator", "dict_reverseitemiterator", "odict_iterator", "itertools.zip_longest", "itertools.pairwise"].contains n && vs[0]? == some (rawInt _)) = true then _ else _) Q E s
           rw [if_neg (by intro h; rw [hn,Bool.false_and] at h; cases h)]
           exact wpAny_pure hQ))
noncomputable def Itl (K:PySem.W.Frag) (a:Addr):It :=
 ⟨fun i H => ∃ xs x,SqL K H a xs∧xs[i]?=some x,fun i H x H'=>H'=H∧∀ xs,SqL K H a xs→xs[i]?=some x,fun i H => ∃ xs,SqL K H a xs∧xs.length≤i⟩
noncomputable def Itt (K:PySem.W.Frag) (a:Addr):It :=
 ⟨fun i H => ∃ xs x,SqT K H a xs∧xs[i]?=some x,fun i H x H'=>H'=H∧∀ xs,SqT K H a xs→xs[i]?=some x,fun i H => ∃ xs,SqT K H a xs∧xs.length≤i⟩
noncomputable def Itr (lo:Int) (n:Nat):It:=⟨fun i _=>i<n,fun i H x H'=>H'=H∧x = .int (lo+i),fun i _=>n≤i⟩
theorem turn_list {P:Program} {w:World} {K:PySem.W.Frag} {tg:Expr} (a it:Addr):Turn P w K tg (Itl K a) [it] it (fun i h=>h.IsListIter it a i) where
 mem:=by simp
 obj:=fun i h st b hb=>by
  have e:b=it:=by simpa using hb
  subst e
  obtain ⟨o,e,c,d⟩:=st
  exact ⟨o,e,fun v z=>by rw [d] at z; cases z⟩
 keep:=fun i h h' st k=>st.at fun o e=>k it (by simp) o e
 item:=by
  intro X hP hw hK hc i pins s σ H E I hf st hg
  subst hP hw hK
  obtain ⟨xs,x,hq,hx⟩:=hg
  obtain ⟨its,rv,p,hz⟩:=I.list hq
  obtain ⟨u,hu,ru⟩:=rv.get hx
  obtain ⟨f0,f1,f2,f3,f4,f5⟩:=hf it (by simp)
  refine wpAny_pyNext_list_item st p.isList (x:=u) (by simpa using hu) fun h' st' sb => ?_
  have I1:Inv X pins σ H { s with heap:=h' }:=I.turned (t':=s.toks) (fun b o hb e=>(sb.2 b hb).trans e) f0 f1 f3 f4 f5
  obtain ⟨o,e,c,d⟩:=id st'
  exact ⟨u,rfl,go_of (s:={ s with heap:=h' }) e c d (by decide) ⟨x,H,I1,ru,⟨rfl,fun ys hy=>by rw [I.list_inj hy hq]; exact hx⟩,st',fun b hb=>(hf b hb).1⟩⟩
 done:=by
  intro X hP hw hK hc i pins s σ H E I hf st hg
  subst hP hw hK
  obtain ⟨xs,hq,hx⟩:=hg
  obtain ⟨its,rv,p,hz⟩:=I.list hq
  obtain ⟨f0,f1,f2,f3,f4,f5⟩:=hf it (by simp)
  have hl:=rv.length
  exact wpAny_pyNext_list_end (I.ok.hd hc) st p.isList (by simp; omega) fun h' eb=>⟨rfl,I.turned (t':=s.toks) (fun b o hb e=>eb b o hb e) f0 f1 f3 f4 f5⟩
 self:=fun _ _ _ _ _ st h=>wpAny_pyIter_listiter st h
theorem turn_tuple {P:Program} {w:World} {K:PySem.W.Frag} {tg:Expr} (a it:Addr):Turn P w K tg (Itt K a) [it] it (fun i h=>h.IsTupleIter it a i) where
 mem:=by simp
 obj:=fun i h st b hb=>by
  have e:b=it:=by simpa using hb
  subst e
  obtain ⟨o,e,c,d⟩:=st
  exact ⟨o,e,fun v z=>by rw [d] at z; cases z⟩
 keep:=fun i h h' st k=>st.at fun o e=>k it (by simp) o e
 item:=by
  intro X hP hw hK hc i pins s σ H E I hf st hg
  subst hP hw hK
  obtain ⟨xs,x,hq,hx⟩:=hg
  obtain ⟨its,rv,p,hz⟩:=I.tuple hq
  obtain ⟨u,hu,ru⟩:=rv.get hx
  obtain ⟨f0,f1,f2,f3,f4,f5⟩:=hf it (by simp)
  refine wpAny_pyNext_tuple_item st (show s.heap.IsTuple a its.toArray from p) (x:=u) (by simpa using hu) fun h' st' sb => ?_
  have I1:Inv X pins σ H { s with heap:=h' }:=I.turned (t':=s.toks) (fun b o hb e=>(sb.2 b hb).trans e) f0 f1 f3 f4 f5
  obtain ⟨o,e,c,d⟩:=id st'
  exact ⟨u,rfl,go_of (s:={ s with heap:=h' }) e c d (by decide) ⟨x,H,I1,ru,⟨rfl,fun ys hy=>by rw [I.tuple_inj hy hq]; exact hx⟩,st',fun b hb=>(hf b hb).1⟩⟩
 done:=by
  intro X hP hw hK hc i pins s σ H E I hf st hg
  subst hP hw hK
  obtain ⟨xs,hq,hx⟩:=hg
  obtain ⟨its,rv,p,hz⟩:=I.tuple hq
  obtain ⟨f0,f1,f2,f3,f4,f5⟩:=hf it (by simp)
  have hl:=rv.length
  exact wpAny_pyNext_tuple_end (I.ok.hd hc) st (show s.heap.IsTuple a its.toArray from p) (by simp; omega) fun h' eb=>⟨rfl,I.turned (t':=s.toks) (fun b o hb e=>eb b o hb e) f0 f1 f3 f4 f5⟩
 self:=fun _ _ _ _ _ st h=>wpAny_pyIter_tupleiter st h
theorem turn_range {P:Program} {w:World} {K:PySem.W.Frag} {tg:Expr} (it:Addr) (lo:Int) (n:Nat):Turn P w K tg (Itr lo n) [it] it (fun i h=>IsRangeIter h it (lo+(i:Nat) * 1) ((n:Int) - (i:Nat)) 1) where
 mem:=by simp
 obj:=fun i h st b hb=>by
  have e:b=it:=by simpa using hb
  subst e
  exact ⟨_,st,fun v z=>by
   have z':Data.fields _=Data.cell v:=z
   cases z'⟩
 keep:=fun i h h' st k=>k it (by simp) _ st
 item:=by
  intro X hP hw hK hc i pins s σ H E I hf st hg
  subst hP hw hK
  obtain ⟨f0,f1,f2,f3,f4,f5⟩:=hf it (by simp)
  have W:=Walks.range (prog:=X.prog) (w:=X.w) (I.ok.hd hc) it lo 1 n
  refine W.item i s _ _ hg st fun v h' tk hv st' kk => ?_
  obtain ⟨t,rfl⟩:=hv
  have I1:Inv X pins σ H { s with heap:=h',toks:=tk }:=I.turned (fun b o hb e=>kk b o (by simpa using hb) e) f0 f1 f3 f4 f5
  refine ⟨_, rfl, go_of (s := { s with heap := h', toks := tk }) (n := "range_iterator") st' rfl rfl (by decide) ⟨.int (lo + i), H, I1, ⟨t, ?_⟩, ⟨rfl, rfl⟩, st', fun b hb => (hf b hb).1⟩⟩
  rw [Int.mul_one]
 done:=by
  intro X hP hw hK hc i pins s σ H E I hf st hg
  subst hP hw hK
  obtain ⟨f0,f1,f2,f3,f4,f5⟩:=hf it (by simp)
  exact wpAny_pyNext_range_end (I.ok.hd hc) st (by have:n≤i:=hg; omega) fun h' eb=>⟨rfl,I.turned (t':=s.toks) (fun b o hb e=>eb b o hb e) f0 f1 f3 f4 f5⟩
 self:=fun _ _ _ _ _ st h=>wpAny_pyIter_rangeiter st h
end L2
namespace L2
open PySem PySem.Spec PyProof.Rows
section
variable {X:Cx} {tg:Expr}
noncomputable def iList (K:PySem.W.Frag) (tl:TE):TI:=fun σ H R=>tl σ H fun x H1 => ∃ a,x = .ref a∧(∃ xs,SqL K H1 a xs)∧R (Itl K a) H1
noncomputable def iTup (K:PySem.W.Frag) (tl:TE):TI:=fun σ H R=>tl σ H fun x H1 => ∃ a,x = .ref a∧(∃ xs,SqT K H1 a xs)∧R (Itt K a) H1
theorem pi_list {l:Expr} {tl:TE} (hl:PE X l tl):PI X tg l (iList X.K tl):=by
 intro pins s σ H R I h
 refine thn (hl pins s σ H _ I h) fun v s1 ⟨x,H1,I1,r1,q1⟩ => ?_
 obtain ⟨a,e,⟨xs,hq⟩,q⟩:=q1
 subst e
 cases r1
 obtain ⟨its,rv,p,hz⟩:=I1.list hq
 refine wpAny_pyIter_list p.isList ?_
 refine ⟨s1.heap.objs.size,[s1.heap.objs.size],_,_,H1,rfl,I1.kept (t':=s1.toks) fun b o e=>Heap.get?_push_of_some _ e,turn_list a _,⟨_,Heap.get?_push_size _ rfl,rfl,rfl⟩,fun b hb => ?_,q⟩
 have e:b=s1.heap.objs.size:=by simpa using hb
 subst e
 exact I1.fpOk (Nat.le_refl _) (I1.hok.fresh (Nat.le_refl _))
theorem pi_tup {l:Expr} {tl:TE} (hl:PE X l tl):PI X tg l (iTup X.K tl):=by
 intro pins s σ H R I h
 refine thn (hl pins s σ H _ I h) fun v s1 ⟨x,H1,I1,r1,q1⟩ => ?_
 obtain ⟨a,e,⟨xs,hq⟩,q⟩:=q1
 subst e
 cases r1
 obtain ⟨its,rv,p,hz⟩:=I1.tuple hq
 refine wpAny_pyIter_tuple (show s1.heap.IsTuple a its.toArray from p) ?_
 refine ⟨s1.heap.objs.size,[s1.heap.objs.size],_,_,H1,rfl,I1.kept (t':=s1.toks) fun b o e=>Heap.get?_push_of_some _ e,turn_tuple a _,⟨_,Heap.get?_push_size _ rfl,rfl,rfl⟩,fun b hb => ?_,q⟩
 have e:b=s1.heap.objs.size:=by simpa using hb
 subst e
 exact I1.fpOk (Nat.le_refl _) (I1.hok.fresh (Nat.le_refl _))
theorem range_it {pins:List (Addr×Obj)} {σ:St} {H:Hp} {s:Shared} {R:It→Hp→Prop} {E:Value→Shared→Prop} {lo hi:Int} {t u v:Tok} {tk:Nat} (I:Inv X pins σ H s) (h1 : -(2 ^ 62)≤lo) (h2:lo<2 ^ 62) (h3 : -(2 ^ 62)≤hi) (h4:hi<2 ^ 62)
  (q : R (Itr lo (hi - lo).toNat) H) : wpAny (model X.prog X.w) X.A (pyIter (.ref s.heap.objs.size)) (PIE X pins σ tg R) E { s with heap := s.heap.push { cls := .type "range", data := .fields #[.int lo t, .int hi u, .int 1 v] }, toks := tk } := by
 refine wpAny_pyIter_range (IsRange.new ..) (small_one h1 h2 h3 h4) ?_
 have I1 : Inv X pins σ H { s with heap := s.heap.push { cls := .type "range", data := .fields #[.int lo t, .int hi u, .int 1 v] }, toks := tk } := I.kept fun b o e => Heap.get?_push_of_some _ e
 refine ⟨(s.heap.push { cls := .type "range", data := .fields #[.int lo t, .int hi u, .int 1 v] }).objs.size, [(s.heap.push { cls := .type "range", data := .fields #[.int lo t, .int hi u, .int 1 v] }).objs.size], _, _, H, rfl,
  I1.kept (t':=tk) fun b o e=>Heap.get?_push_of_some _ e,turn_range _ lo (hi - lo).toNat,?_,fun b hb => ?_,q⟩
 ·have e1:lo+((0:Nat):Int) * 1=lo:=by simp
  have e2:(((hi - lo).toNat:Nat):Int) - ((0:Nat):Int)=Builtin.Range.rangeSize lo hi 1:=by rw [rangeSize_one]; split <;> omega
  show IsRangeIter _ _ (lo+((0:Nat):Int) * 1) ((((hi - lo).toNat:Nat):Int) - ((0:Nat):Int)) 1
  rw [e1,e2]
  exact Heap.get?_push_size _ rfl
 ·have e : b = (s.heap.push { cls := .type "range", data := .fields #[.int lo t, .int hi u, .int 1 v] }).objs.size := by simpa using hb
  subst e
  exact I1.fpOk (Nat.le_refl _) (I1.hok.fresh (Nat.le_refl _))
noncomputable def iRng1 (ta:TA):TI:=fun σ H R=>ta σ H fun vs H1 => ∃ j:Int,vs=[.int j]∧-(2 ^ 62)≤j∧j<2 ^ 62∧R (Itr 0 j.toNat) H1
theorem pi_range1 {a : Expr} {ta : TA} {p pos : Pos} (hg : Gl X "range") (hm : X.mg "range" = none) (ha : PA X [a] ta) (hs : starEach [a] X.env = [(false, eval a X.env)] := by rfl) : PI X tg (.Call (.Name "range" p) [a] [] pos) (iRng1 ta) := by
 intro pins s σ H R I h
 refine Call_ (ld_blt I hg hm boot_range (PyProof.Rows.callWith_type1 (thn (ha pos pins s σ H _ I h) fun us s1 ⟨vs,H1,I1,r1,q1⟩ => ?_) hs rfl))
 obtain ⟨j,e,q1,q2,q⟩:=q1
 subst e
 cases r1 with
 | cons r rr =>
  cases rr
  obtain ⟨t,rfl⟩:=r
  exact call_range_1 (range_it I1 (by omega) (by omega) q1 q2 (by simpa using q))
noncomputable def tFor (wi:TI) (g:TG) (tb:TS):TS:=fun D σ H=>wi σ H fun J H1 => ∃ W:Nat→Nat→St→Hp→Prop,(∃ m,W 0 m σ H1)∧∀ i m σ H,W i m σ H →
 (J.stop i H∧D.nx σ H)∨(J.go i H∧∃ N:St→Hp→Prop,(∀ σ' H',N σ' H'→∃ m',m' < m∧W (i+1) m' σ' H')∧∀ x H',J.yld i H x H'→g x σ H' fun σ2 H2=>tb { D with nx:=N,ct:=N,bk:=D.nx } σ2 H2)
noncomputable def pinsAt (fp:List Addr) (h:Heap):List (Addr×Obj):=fp.filterMap fun b=>(h.get? b).map fun o=>(b,o)
theorem mem_pinsAt {fp:List Addr} {h:Heap} {b:Addr} {o:Obj} (hb:b∈fp) (e:h.get? b=some o):(b,o)∈pinsAt fp h:=List.mem_filterMap.mpr ⟨b,hb,by rw [e]; rfl⟩
theorem of_pinsAt {fp:List Addr} {h:Heap} {p:Addr×Obj} (hp:p∈pinsAt fp h):p.1∈fp∧h.get? p.1=some p.2:=by
 obtain ⟨b,hb,e⟩:=List.mem_filterMap.mp hp
 cases q:h.get? b with
 | none=>rw [q] at e; cases e
 | some o =>
  rw [q] at e
  have e':(b,o)=p:=Option.some.inj e
  subst e'
  exact ⟨hb,q⟩
theorem Inv.pinned {pins:List (Addr×Obj)} {σ:St} {H:Hp} {s:Shared} {fp:List Addr} (I:Inv X pins σ H s) (hf:∀ b∈fp,FpOk X pins H b) (ho:∀ b∈fp,∃ o,s.heap.get? b=some o∧∀ v,o.data≠.cell v):Inv X (pins++pinsAt fp s.heap) σ H s :=
 I.pins_of fun p hp=>(List.mem_append.mp hp).elim (fun z=>I.pin p (List.mem_append_right _ z)) fun z=>by
  obtain ⟨hb,e⟩:=of_pinsAt z
  obtain ⟨f0,f1,f2,_⟩:=hf p.1 hb
  obtain ⟨o,e',d⟩:=ho p.1 hb
  rw [e] at e'; cases e'
  exact ⟨e,f0,f1,f2,d⟩
theorem Inv.unpinned {pins pl:List (Addr×Obj)} {σ:St} {H:Hp} {s:Shared} (I:Inv X (pins++pl) σ H s):Inv X pins σ H s:=I.pins_of fun p hp=>I.pin p (List.mem_append_right _ (List.mem_append_left _ hp))
theorem ps_for {iter:Expr} {body:List Stmt} {wi:TI} {g:TG} {tb:TS} {pos:Pos} (hp:PassesOwn (model X.prog X.w) X.A X.env X.xe) (hc:X.calm=true) (hi:PI X tg iter wi) (hg:PG X tg g) (hb:PSs X body tb)
  (hs:∀ x,foldedSetIterable iter X.env x=pure x:=by intro _; rfl):PS X (.For tg iter body [] pos) (tFor wi g tb):=by
 intro pins s σ H D I h
 refine wpAny_For (thn (hi pins s σ H _ I h) fun v s1 h1=>thn h1 fun itv s2 h2 => ?_) hs
 obtain ⟨it,fp,tn,J,H2,e,I2,T,st2,f2,W,⟨m0,w0⟩,turn⟩:=h2
 subst e
 have stat:∀ {H':Hp},(∀ b∈fp,H' b=none)→∀ b∈fp,FpOk X pins H' b:=fun hn b hb=>⟨hn b hb,(f2 b hb).2⟩
 refine codeAny_forLoop_any (fun n s' => ∃ i σ' H',Inv X pins σ' H' s'∧tn i s'.heap∧(∀ b∈fp,H' b=none)∧W i n σ' H') ?_ m0 ⟨0,σ,H2,I2,st2,fun b hb=>(f2 b hb).1,w0⟩
 rintro n s3 ⟨i,σ3,H3,I3,st3,fr3,w3⟩
 rcases turn i n σ3 H3 w3 with ⟨stop,qn⟩ | ⟨go,N,hN,step⟩
 ·refine wpAny_passesOwn hp (thn (T.done X rfl rfl rfl hc i pins s3 σ3 H3 X.xe I3 (stat fr3) st3 stop) fun r s4 ⟨hr,I4⟩ => ?_)
  subst hr
  exact wpAny_execs_nil ⟨σ3,H3,I4,qn⟩
 ·refine wpAny_passesOwn hp (thn (T.item X rfl rfl rfl hc i pins s3 σ3 H3 X.xe I3 (stat fr3) st3 go) fun r s4 ⟨u,hr,h4⟩ => ?_)
  subst hr
  refine wpAny_passesOwn hp (thn h4 fun _ s5 ⟨x,H5,I5,r5,y5,st5,fr5⟩ => ?_)
  have I5':=I5.pinned (stat fr5) (T.obj _ _ st5)
  refine wpAny_passesOwn hp (thn (hg _ s5 σ3 H5 x u _ I5' r5 (step x H5 y5)) fun _ s6 ⟨σ6,H6,I6,q6⟩ => ?_)
  refine wpAny_passesOwn hp (thn (hb _ s6 σ6 H6 _ I6 q6) fun f s7 q7 => ?_)
  have again:∀ {σ7:St} {H7:Hp},Inv X (pins++pinsAt fp s5.heap) σ7 H7 s7→N σ7 H7→∃ m,m<n∧∃ i σ' H',Inv X pins σ' H' s7∧tn i s7.heap∧(∀ b∈fp,H' b=none)∧W i m σ' H':=fun {σ7 H7} I7 n7=>by
   obtain ⟨m',hm,w7⟩:=hN σ7 H7 n7
   refine ⟨m',hm,i+1,σ7,H7,I7.unpinned,T.keep _ _ _ st5 fun b hb o e=>(I7.pin (b,o) (List.mem_append_right _ (List.mem_append_right _ (mem_pinsAt hb e)))).1,fun b hb => ?_,w7⟩
   obtain ⟨o,e,d⟩:=T.obj _ _ st5 b hb
   exact (I7.pin (b,o) (List.mem_append_right _ (List.mem_append_right _ (mem_pinsAt hb e)))).2.1
  cases f with
  | next=>obtain ⟨σ7,H7,I7,n7⟩:=q7; exact again I7 n7
  | cont=>obtain ⟨σ7,H7,I7,n7⟩:=q7; exact again I7 n7
  | brk=>obtain ⟨σ7,H7,I7,q7⟩:=q7; exact ⟨σ7,H7,I7.unpinned,q7⟩
  | ret v=>obtain ⟨x7,σ7,H7,I7,r7,q7⟩:=q7; exact ⟨x7,σ7,H7,I7.unpinned,r7,q7⟩
end
end L2
namespace L2
open PySem PySem.Spec PyProof.Rows
noncomputable abbrev R2:=V→V→Hp→VK→Prop
noncomputable def OpR (X:Cx) (f:Value→Value→Sem Value) (r:R2):Prop :=
 ∀ (pins:List (Addr×Obj)) (s:Shared) (σ:St) (H:Hp) (x y:V) (v u:Value) (Q:VK),Inv X pins σ H s→RelV x v→RelV y u→r x y H Q →
  wpAny (model X.prog X.w) X.A (f v u) (EP X pins σ Q) X.xe s
noncomputable def UnR (X:Cx) (f:Value→Sem Value) (r:V→Hp→VK→Prop):Prop :=
 ∀ (pins:List (Addr×Obj)) (s:Shared) (σ:St) (H:Hp) (x:V) (v:Value) (Q:VK),Inv X pins σ H s→RelV x v→r x H Q →
  wpAny (model X.prog X.w) X.A (f v) (EP X pins σ Q) X.xe s
noncomputable def CallR (X:Cx) (f:Value) (r:List V→Hp→VK→Prop):Prop :=
 ∀ (pins:List (Addr×Obj)) (s:Shared) (σ:St) (H:Hp) (xs:List V) (us:List Value) (Q:VK),Inv X pins σ H s→Vals xs us→r xs H Q →
  wpAny (model X.prog X.w) X.A (call f us) (EP X pins σ Q) X.xe s
noncomputable def tOp (r:R2) (ta tb:TE):TE:=fun σ H Q=>ta σ H fun x H1=>tb σ H1 fun y H2=>r x y H2 Q
noncomputable def tUn (r:V→Hp→VK→Prop) (ta:TE):TE:=fun σ H Q=>ta σ H fun x H1=>r x H1 Q
noncomputable def rI (C:Int→Int→Prop) (g:Int→Int→V):R2:=fun x y H Q => ∃ i j,x = .int i∧y = .int j∧C i j∧Q (g i j) H
noncomputable def rI0 (g:Int→Int→V):R2:=fun x y H Q => ∃ i j,x = .int i∧y = .int j∧Q (g i j) H
noncomputable def rU (g:Int→V):V→Hp→VK→Prop:=fun x H Q => ∃ i,x = .int i∧Q (g i) H
section
variable {X:Cx} {a b c:Expr} {ta tb tc:TE} {pos:Pos}
theorem binT (ha:PE X a ta) (hb:PE X b tb) {pins:List (Addr×Obj)} {s:Shared} {σ:St} {H:Hp} {R:V→V→Hp→Prop} (I:Inv X pins σ H s)
  (h:ta σ H fun x H1=>tb σ H1 fun y H2=>R x y H2) {Q:Value→Shared→Prop} {f:Value→Value→Sem Value}
  (hf:∀ v u s2 x y H2,Inv X pins σ H2 s2→RelV x v→RelV y u→R x y H2→wpAny (model X.prog X.w) X.A (f v u) Q X.xe s2) :
  wpAny (model X.prog X.w) X.A (eval a X.env) (fun v s₁=>wpAny (model X.prog X.w) X.A (eval b X.env) (fun u s₂=>wpAny (model X.prog X.w) X.A (f v u) Q X.xe s₂) X.xe s₁) X.xe s:=by
 refine thn (ha pins s σ H _ I h) fun v s1 ⟨x,H1,I1,r1,q1⟩ => ?_
 refine thn (hb pins s1 σ H1 _ I1 q1) fun u s2 ⟨y,H2,I2,r2,q2⟩ => ?_
 exact hf v u s2 x y H2 I2 r1 r2 q2
theorem pe_op {op:Operator} {r:R2} (ho:OpR X (binaryOp op) r) (ha:PE X a ta) (hb:PE X b tb):PE X (.BinOp a op b pos) (tOp r ta tb):=by
 intro pins s σ H Q I h
 exact wpAny_BinOp (binT ha hb I h fun v u s2 x y H2 I2 rx ry q=>ho pins s2 σ H2 x y v u Q I2 rx ry q)
theorem pe_un {op:UnaryOp} {r:V→Hp→VK→Prop} (ho:UnR X (unaryOp op) r) (ha:PE X a ta):PE X (.UnaryOp op a pos) (tUn r ta):=by
 intro pins s σ H Q I h
 exact UnaryOp_ (thn (ha pins s σ H _ I h) fun v s1 ⟨x,H1,I1,r1,q1⟩=>ho pins s1 σ H1 x v Q I1 r1 q1)
theorem opI {f:Value→Value→Sem Value} {C:Int→Int→Prop} {g:Int→Int→Int}
  (rule:∀ (i j:Int) (t u:Tok) (s:Shared) (Q:Value→Shared→Prop) (E:Value→Shared→Prop),C i j→Q (.int (g i j) s.toks) { s with toks:=s.toks+1 }→wpAny (model X.prog X.w) X.A (f (.int i t) (.int j u)) Q E s) :
  OpR X f (rI C fun i j => .int (g i j)):=by
 intro pins s σ H x y v u Q I rx ry h
 obtain ⟨i,j,rfl,rfl,hc,q⟩:=h
 obtain ⟨t,rfl⟩:=rx
 obtain ⟨t',rfl⟩:=ry
 exact rule i j t t' s _ _ hc ⟨.int (g i j),H,I.tok _,⟨_,rfl⟩,q⟩
theorem opI0 {f:Value→Value→Sem Value} {g:Int→Int→Int}
  (rule:∀ (i j:Int) (t u:Tok) (s:Shared) (Q:Value→Shared→Prop) (E:Value→Shared→Prop),Q (.int (g i j) s.toks) { s with toks:=s.toks+1 }→wpAny (model X.prog X.w) X.A (f (.int i t) (.int j u)) Q E s) :
  OpR X f (rI0 fun i j => .int (g i j)):=by
 intro pins s σ H x y v u Q I rx ry h
 obtain ⟨i,j,rfl,rfl,q⟩:=h
 obtain ⟨t,rfl⟩:=rx
 obtain ⟨t',rfl⟩:=ry
 exact rule i j t t' s _ _ ⟨.int (g i j),H,I.tok _,⟨_,rfl⟩,q⟩
theorem opB0 {f:Value→Value→Sem Value} {g:Int→Int→Bool}
  (rule:∀ (i j:Int) (t u:Tok) (s:Shared) (Q:Value→Shared→Prop) (E:Value→Shared→Prop),Q (.bool (g i j)) s→wpAny (model X.prog X.w) X.A (f (.int i t) (.int j u)) Q E s) :
  OpR X f (rI0 fun i j => .bl (g i j)):=by
 intro pins s σ H x y v u Q I rx ry h
 obtain ⟨i,j,rfl,rfl,q⟩:=h
 obtain ⟨t,rfl⟩:=rx
 obtain ⟨t',rfl⟩:=ry
 exact rule i j t t' s _ _ ⟨.bl (g i j),H,I,rfl,q⟩
noncomputable def CDiv (i j:Int):Prop:=0<j∧j<1073741824
noncomputable def CMul (i j:Int):Prop:=(-(2 ^ 64)<i∧i<2 ^ 64)∨(-(2 ^ 64)<j∧j<2 ^ 64)
theorem CMul.ok {i j:Int} (h:CMul i j):IntMulOk i j:=by
 rcases h with ⟨h1,h2⟩ | ⟨h1,h2⟩
 ·exact .of_left (intBits_le_64 h1 h2)
 ·exact .of_right (intBits_le_64 h1 h2)
theorem op_add:OpR X (binaryOp .Add) (rI0 fun i j => .int (i+j)):=opI0 fun _ _ _ _ _ _ _ q=>add_int q
theorem op_mul:OpR X (binaryOp .Mult) (rI CMul fun i j => .int (i * j)):=opI fun _ _ _ _ _ _ _ hc q=>mul_int q hc.ok
theorem op_fdiv:OpR X (binaryOp .FloorDiv) (rI CDiv fun i j => .int (i / j)):=opI fun i j _ _ _ _ _ hc q=>by
 have h1:(0:Int)<j:=hc.1
 have h2:j<1073741824:=hc.2
 exact floordiv_int (by omega) (by rw [Int.fdiv_eq_ediv_of_nonneg i (by omega)]; exact q) (.inl (PyProof.noPylong_small (by omega)))
theorem op_mod:OpR X (binaryOp .Mod) (rI (fun _ j=>0<j) fun i j => .int (i % j)):=opI fun i j _ _ _ _ _ hc q=>by
 have h1:(0:Int)<j:=hc
 exact mod_int' (by omega) (by rw [Int.fmod_eq_emod_of_nonneg i (by omega)]; exact q)
theorem unI {f:Value→Sem Value} {g:Int→Int}
  (rule:∀ (i:Int) (t:Tok) (s:Shared) (Q:Value→Shared→Prop) (E:Value→Shared→Prop),Q (.int (g i) s.toks) { s with toks:=s.toks+1 }→wpAny (model X.prog X.w) X.A (f (.int i t)) Q E s) :
  UnR X f (rU fun i => .int (g i)):=by
 intro pins s σ H x v Q I rx h
 obtain ⟨i,rfl,q⟩:=h
 obtain ⟨t,rfl⟩:=rx
 exact rule i t s _ _ ⟨.int (g i),H,I.tok _,⟨_,rfl⟩,q⟩
theorem un_neg:UnR X (unaryOp .USub) (rU fun i => .int (-i)):=unI fun _ _ _ _ _ q=>neg_int q
end
section
variable {X:Cx} {a b c:Expr} {ta tb tc:TE} {pos:Pos}
theorem fin_bl {pins:List (Addr×Obj)} {σ:St} {H:Hp} {s:Shared} {Q:VK} {k k':Bool} (I:Inv X pins σ H s) (q:Q (.bl k) H) (e:k=k'):EP X pins σ Q (.bool k') s:=by
 subst e
 exact ⟨.bl k,H,I,rfl,q⟩
theorem op_le:OpR X (compareOp .LtE) (rI0 fun i j => .bl (decide (i≤j))):=opB0 fun _ _ _ _ _ _ _ q=>le_int q
theorem op_gt:OpR X (compareOp .Gt) (rI0 fun i j => .bl (decide (j<i))):=opB0 fun _ _ _ _ _ _ _ q=>gt_int q
theorem op_notN:OpR X (compareOp .IsNot) (fun x y H Q=>y = .non∧Q (.bl (!decide (x = .non))) H):=by
 intro pins s σ H x y v u Q I rx ry h
 obtain ⟨rfl,q⟩:=h
 cases ry
 refine isnot_none_gen (fin_bl I q ?_)
 cases x <;> first
  | (cases rx; rfl)
  | (obtain ⟨t,rfl⟩:=rx; rfl)
theorem nomark (b:Expr) {op:CmpOp} (h:op≠.In:=by decide) (h2:op≠.NotIn:=by decide):behindInMarks op b=false:=by
 have e1:(op == CmpOp.In)=false:=by cases op <;> first | rfl | exact absurd rfl h
 have e2:(op == CmpOp.NotIn)=false:=by cases op <;> first | rfl | exact absurd rfl h2
 cases b <;> simp [behindInMarks,e1,e2]
theorem pe_cmpR {op:CmpOp} {r:R2} (ho:OpR X (compareOp op) r) (ha:PE X a ta) (hb:PE X b tb) (hm:behindInMarks op b=false):PE X (.Compare a [op] [b] pos) (tOp r ta tb):=by
 intro pins s σ H Q I h
 exact wpAny_Compare1 (binT ha hb I h fun v u s2 x y H2 I2 rx ry q=>ho pins s2 σ H2 x y v u Q I2 rx ry q) hm
noncomputable def tTest (t:TE):TT:=fun σ H Q=>t σ H fun x H' => ∃ k,x = .bl k∧Q k H'
theorem pt_cmpR {op:CmpOp} {r:R2} (ho:OpR X (compareOp op) r) (ha:PE X a ta) (hb:PE X b tb) (hm:behindInMarks op b=false):PT X (.Compare a [op] [b] pos) (tTest (tOp r ta tb)):=by
 intro pins s σ H Q I h
 refine wpAny_isTrue_Compare1 (thn (ha pins s σ H _ I h) fun v s1 ⟨x,H1,I1,r1,q1⟩=>thn (hb pins s1 σ H1 _ I1 q1) fun u s2 ⟨y,H2,I2,r2,q2⟩ =>
  thn (ho pins s2 σ H2 x y v u _ I2 r1 r2 q2) fun c s3 ⟨z,H3,I3,r3,k,e,q3⟩ => ?_) hm
 subst e
 cases r3
 exact wpAny_truthy_bool ⟨H3,I3,q3⟩
theorem line63:(sizeLine:Nat)<2 ^ 63:=by rw [sizeLine_eq]; decide
theorem op_add_str:OpR X (binaryOp .Add) (fun x y H Q => ∃ i j,x = .str i∧y = .str j∧i.length+j.length≤sizeLine∧Q (.str (i++j)) H):=by
 intro pins s σ H x y v u Q I rx ry h
 obtain ⟨i,j,rfl,rfl,hz,q⟩:=h
 obtain ⟨t,rfl⟩:=rx
 obtain ⟨t',rfl⟩:=ry
 exact add_str (fun t' tk=>⟨.str (i++j),H,I.tok _,⟨_,rfl⟩,q⟩) hz
theorem vals1 {x:V} {us:List Value} (r:Vals [x] us):∃ u,us=[u]∧RelV x u:=by
 cases r with
 | cons r1 r2=>cases r2; exact ⟨_,rfl,r1⟩
theorem call_int1 : CallR X (.type "int") (fun xs H Q => (∃ i, xs = [.int i] ∧ Q (.int i) H) ∨ ∃ k, xs = [.bl k] ∧ Q (.int (if k then 1 else 0)) H) := by
 intro pins s σ H xs us Q I r h
 rcases h with ⟨i,rfl,q⟩ | ⟨k,rfl,q⟩
 ·obtain ⟨u,rfl,t,rfl⟩:=vals1 r
  exact call_int_int ⟨.int i,H,I,⟨_,rfl⟩,q⟩
 ·obtain ⟨u,rfl,r1⟩:=vals1 r
  cases r1
  exact call_int_bool ⟨.int (if k then 1 else 0),H,I.tok _,⟨_,rfl⟩,q⟩
end
end L2
namespace L2
open PySem PySem.Spec PyProof.Rows
structure ObjM (h:Heap) (x dx C:Addr) (mA:Str→Option Value):Prop where
 obj:h.get? x=some (PySem.W.instObj C dx)
 ns:h.Ns1 dx mA
 ne:dx≠x
section
variable {prog:Program} {w:World} {A:Around} {E:Value→Shared→Prop} {s:Shared} {K:PySem.W.Frag} {x dx C f:Addr} {mA:Str→Option Value} {name:Str} {v:Value}
end
noncomputable def putF (f:Str) (v:V):List (Str×V)→List (Str×V)
 | []=>[(f,v)]
 | (g,x) :: r=>if g=f then (g,v) :: r else (g,x) :: putF f v r
theorem RelO.some_of {v:V} {o:Option Value} (r:RelO (some v) o):∃ u,o=some u∧RelV v u:=by
 cases o with
 | none=>exact (show False from r).elim
 | some u=>exact ⟨u,rfl,r⟩
section
variable {P:Program} {w:World} {H H':Hp} {h h':Heap} {a C dx:Addr} {fs fs':List (Str×V)}
end
structure Cls (K:PySem.W.Frag) (C:Addr):Prop where
 pg:PySem.W.plainGet K C Str.empty=true
 hd:PySem.W.hasDictIn K C=true
 po:PySem.W.plainOver K C=true
 sa : PySem.W.findIn K (.ref C) "__setattr__" = some (some (.builtin "object.__setattr__"))
structure Con (K:PySem.W.Frag) (C:Addr) (f:Str) (v:V) (u:Value):Prop where
 at_:PySem.W.findIn K (.ref C) f=some (some u)
 rel:RelV v u
 get : PySem.W.specialIn K u "__get__" = some none
 cp:PySem.W.copiedNames.contains f=false
structure Meth (K:PySem.W.Frag) (C:Addr) (m:Str) (f:Addr):Prop where
 at_:PySem.W.findIn K (.ref C) m=some (some (.ref f))
 fn:PySem.W.isFn K (.ref f)=true
 kp:PySem.W.keepIn K (.ref f)=true
section
variable {X:Cx} {pins:List (Addr×Obj)} {σ:St} {H:Hp} {s:Shared} {a C dx:Addr} {fs:List (Str×V)} {f:Str} {v:V} {A:Around} {E:Value→Shared→Prop}
end
section
variable {X:Cx} {o e value:Expr} {f:Str} {pos pos' tpos:Pos} {ta tv:TE}
end
section
variable {X:Cx} {pins:List (Addr×Obj)} {σ:St} {H:Hp} {s:Shared} {A:Around} {E:Value→Shared→Prop} {Q:Value→Shared→Prop} {c:Value} {b:Bool}
inductive TyOf (K:PySem.W.Frag) (H:Hp):V→Value→Prop where
 | non : TyOf K H .non (.type "NoneType")
 | bl (x : Bool) : TyOf K H (.bl x) (.type "bool")
 | int (i : Int) : TyOf K H (.int i) (.type "int")
 | str (x : Str) : TyOf K H (.str x) (.type "str")
 | flt (x : UInt64) : TyOf K H (.flt x) (.type "float")
 | lst {a : Addr} {xs : List V} (e : H a = some (.lst xs)) : TyOf K H (.ref a) (.type "list")
 | frz {a : Addr} {o : Obj} {xs : List V} (e : H a = some (.frz o (.lst xs))) : TyOf K H (.ref a) (.type "list")
 | tup {a : Addr} {xs : List V} (e : H a = some (.tup xs)) : TyOf K H (.ref a) (.type "tuple")
 | dK {a : Addr} {kvs : List (Key × V)} (e : H a = some (.dK kvs)) : TyOf K H (.ref a) (.type "dict")
 | dT {a : Addr} {kvs : List (List Key × V)} (e : H a = some (.dT kvs)) : TyOf K H (.ref a) (.type "dict")
 | ins {a C dx : Addr} {fs : List (Str × V)} (e : H a = some (.ins C dx fs)) (cl : Cls K C) (ha : PySem.W.findIn K (.ref C) "__class__" = some (some (.builtin "object.__class__")))
   (hn : PySem.W.specialIn K (.builtin "object.__class__") "__get__" = some (some (.builtin "getset_descriptor.__get__"))) (htk : PySem.W.takesIn K (.builtin "object.__class__") = some true)
   (hm : PySem.W.mroIn K C (.type "object") = some true) : TyOf K H (.ref a) (.ref C)
end
end L2
namespace L2
open PySem PySem.Spec PyProof.Rows
structure Room (k:Nat) (A:Around):Prop where
 hd:A.handled=none
 dp:A.depth+3 * k+5<recursionLimit
 un:A.units+16 * k+200<cLine
theorem Room.mono {j k:Nat} {A:Around} (r:Room k A) (h:j≤k):Room j A:=⟨r.hd,by have:=r.dp; omega,by have:=r.un; omega⟩
theorem Room.deeper {k:Nat} {A:Around} (r:Room (k+1) A) (env:Env):Room k (A.deeper env) :=
 ⟨r.hd,by have:=r.dp; show A.depth+1+3 * k+5<_; omega,by have:=r.un; show A.units+3+16 * k+200<_; omega⟩
theorem Room.depth {k:Nat} {A:Around} (r:Room k A):A.depth<recursionLimit:=by have:=r.dp; omega
theorem Room.units {k:Nat} {A:Around} (r:Room k A):A.units+64<cLine:=by have:=r.un; omega
noncomputable def tNil:TA:=fun _ H Q=>Q [] H
noncomputable def tCons (ta:TE) (tr:TA):TA:=fun σ H Q=>ta σ H fun x H1=>tr σ H1 fun xs H2=>Q (x :: xs) H2
section
variable {X:Cx} {e:Expr} {es:List Expr} {te:TE} {t:TA} {pos:Pos}
theorem pa_nil:PA X [] tNil:=fun _ _ _ _ H Q I h=>Calls.spliced_nil ⟨[],H,I,.nil,h⟩
theorem pa_cons (ha:PE X e te) (hr:PA X es t) (hs:starEach (e :: es) X.env=(false,eval e X.env) :: starEach es X.env:=by rfl):PA X (e :: es) (tCons te t):=by
 intro pos pins s σ H Q I h
 rw [hs]
 show wpAny _ _ (spliced ((false,eval e X.env) :: backTo pos (starEach es X.env))) _ _ s
 refine Calls.spliced_cons (thn (ha pins s σ H _ I h) fun u s1 ⟨x,H1,I1,r1,q1⟩ => ?_)
 exact thn (hr pos pins s1 σ H1 _ I1 q1) fun us s2 ⟨xs,H2,I2,r2,q2⟩=>⟨x :: xs,H2,I2,.cons r1 r2,q2⟩
noncomputable def tTup (t:TA):TE:=fun σ H Q=>t σ H fun xs H1=>xs.length≤sizeLine∧∀ p,H1 p=none→Q (.ref p) (upd H1 p (.tup xs))
noncomputable def tLst (t:TA):TE:=fun σ H Q=>t σ H fun xs H1=>xs.length≤sizeLine∧∀ p,H1 p=none→Q (.ref p) (upd H1 p (.lst xs))
theorem pe_tup {x1} (h:PA X es t):PE X (.Tuple es x1 pos) (tTup t):=by
 intro pins s σ H Q I hq
 refine wpAny_Tuple_spliced (thn (h pos pins s σ H _ I hq) fun us s1 ⟨xs,H1,I1,r,z,q⟩=>⟨by rw [← r.length]; exact z,?_⟩)
 have hf:H1 s1.heap.objs.size=none:=I1.hok.fresh (Nat.le_refl _)
 refine ⟨.ref s1.heap.objs.size,upd H1 s1.heap.objs.size (.tup xs),I1.laid (t':=s1.toks) (fun b u e=>Heap.get?_push_of_some _ e) (Nat.le_refl _) ?_,rfl,q _ hf⟩
 exact ⟨z,us,r,⟨_,Heap.get?_push_size _ rfl,rfl,_,rfl⟩,fun o2 e2=>by rw [Heap.get?_push_size _ rfl] at e2; cases e2; rfl⟩
theorem pe_lst (h:PA X es t):PE X (.List es pos) (tLst t):=by
 intro pins s σ H Q I hq
 refine wpAny_List_spliced (thn (h pos pins s σ H _ I hq) fun us s1 ⟨xs,H1,I1,r,z,q⟩=>⟨by rw [← r.length]; exact z,?_⟩)
 have hf:H1 s1.heap.objs.size=none:=I1.hok.fresh (Nat.le_refl _)
 refine ⟨.ref s1.heap.objs.size,upd H1 s1.heap.objs.size (.lst xs),I1.laid (t':=s1.toks) (fun b u e=>Heap.get?_push_of_some _ e) (Nat.le_refl _) ?_,rfl,q _ hf⟩
 exact ⟨z,us,0,r,Heap.get?_push_size _ rfl⟩
end
noncomputable abbrev Sp:=List V→Hp→VK→XK→Prop
noncomputable abbrev CXT:=List Env→Hp→Shared→XK→Value→Shared→Prop
structure Env0 (P:Program) (w:World) (K:PySem.W.Frag) (mg:Str→Option Value) (base:Heap) (A:Around) (outer:List Env) (s:Shared) (H:Hp):Prop where
 frames:A.frames=some outer
 mod:Mod K mg base
 bs:∀ b o,base.get? b=some o→s.heap.get? b=some o∧H b=none
 bsz:base.objs.size≤s.heap.objs.size
 funs:s.heap.FunFrames base outer
 frf:∀ b∈frs outer,H b=none
 hok:HOk P w H s.heap
 bare:AllBare s.gens
noncomputable def CE (outer:List Env) (P:Program) (w:World) (H:Hp) (s:Shared) (Q:VK) (u:Value) (s':Shared):Prop :=
 ∃ v H',s'.os=s.os∧AllBare s'.gens∧Un (frs outer) [] H H' s.heap s'.heap∧HOk P w H' s'.heap∧RelV v u∧Q v H'
noncomputable def CR (CX:CXT) (outer:List Env) (P:Program) (w:World) (H:Hp) (s:Shared) (Q:VK) (E:XK) (r:Result) (s':Shared):Prop :=
 match r with
 | .ok (.ret u)=>CE outer P w H s Q u s'
 | .ok _=>False
 | .error e=>CX outer H s E e s'
structure FnOk (P:Program) (w:World) (K:PySem.W.Frag) (mg:Str→Option Value) (base:Heap) (CX:CXT) (k:Nat) (f:Addr) (fd:FuncData) (ps:List Str) (sp:Sp):Prop where
 len:∀ vs H Q E,sp vs H Q E→vs.length=ps.length
 run:∀ (A:Around) (outer:List Env) (s:Shared) (H:Hp) (args:Args) (us:List Value) (vs:List V) (Q:VK) (E:XK),Room k A→Env0 P w K mg base A outer s H→BindsTo s fd args (ps.zip us)→Vals vs us→sp vs H Q E →
  codeAny (model P w) A (.call (.ref f) args) (CR CX outer P w H s Q E) s
section
variable {X:Cx} {pins:List (Addr×Obj)} {σ:St} {H:Hp} {s s':Shared}
theorem Inv.env0 (I:Inv X pins σ H s):Env0 X.prog X.w X.K X.mg X.base X.A X.stack s H :=
 ⟨I.ok.frames,I.ok.mod,I.bs,Nat.le_trans I.ok.bsz I.sz,I.stack,I.stkFree,I.hok,I.bare⟩
theorem Inv.after {Q:VK} {u:Value} (I:Inv X pins σ H s) (h:CE X.stack X.prog X.w H s Q u s'):EP X pins σ Q u s':=by
 obtain ⟨v,H',os,bare,un,hok,r,q⟩:=h
 obtain ⟨hh,g,d,t,os'⟩:=s'
 obtain rfl:os'=s.os:=os
 exact ⟨v,H',I.call (h':=hh) (g':=g) (d':=d) (t':=t) (ch:=[]) un hok bare (fun b z=>absurd z (by simp)),r,q⟩
end
noncomputable def tCall (sp:Sp) (dvs:List V) (E:XK) (t:TA):TE:=fun σ H Q=>t σ H fun vs H1=>sp (vs++dvs) H1 Q E
noncomputable def Binds (K:PySem.W.Frag) (fd:FuncData) (ps:List Str) (ds:List Value):Prop :=
 ∀ (s:Shared) (us:List Value),K.In s.heap→(us++ds).length=ps.length→BindsTo s fd ⟨us,[]⟩ (ps.zip (us++ds))
theorem Binds.all {K:PySem.W.Frag} {fd:FuncData} {ps:List Str} (h:∀ us:List Value,us.length=ps.length→bindArgs fd ⟨us,[]⟩=pure (ps.zip us)):Binds K fd ps []:=fun s us _ hl=>by
 rw [List.append_nil] at hl ⊢
 exact .of_eq (h us hl)
noncomputable def Passes (CX:CXT) (X:Cx) (E:XK):Prop:=∀ (pins:List (Addr×Obj)) (σ:St) (H:Hp) (s:Shared) (e:Value) (s':Shared),Inv X pins σ H s→CX X.stack H s E e s'→X.xe e s'
section
variable {X:Cx} {CX:CXT} {k:Nat} {f C:Addr} {fd:FuncData} {ps:List Str} {sp:Sp} {dvs:List V} {ds:List Value} {E:XK} {x m:Str} {p pos apos:Pos} {e o:Expr} {es:List Expr} {ta:TE} {t:TA}
theorem run_fn {pins:List (Addr×Obj)} {σ:St} {H:Hp} {s:Shared} {Q:VK} {us:List Value} {vs:List V} (F:FnOk X.prog X.w X.K X.mg X.base CX k f fd ps sp) (hr:Room k X.A) (hb:Binds X.K fd ps ds) (hd:Vals dvs ds) (hx:Passes CX X E)
  (I:Inv X pins σ H s) (r:Vals vs us) (h:sp (vs++dvs) H Q E):wpAny (model X.prog X.w) X.A (call (.ref f) us) (EP X pins σ Q) X.xe s:=by
 have r2:Vals (vs++dvs) (us++ds):=r.append hd
 have hl:(us++ds).length=ps.length:=by rw [← r2.length]; exact F.len _ _ _ _ h
 refine wpAny_call (codeAny_mono (F.run X.A X.stack s H ⟨us,[]⟩ (us++ds) (vs++dvs) Q E hr I.env0 (hb s us I.kIn hl) r2 h) fun r s' hq => ?_)
 cases r with
 | error e=>exact hx pins σ H s e s' I hq
 | ok fl =>
  cases fl with
  | ret u=>exact I.after hq
  | next=>exact False.elim hq
  | brk=>exact False.elim hq
  | cont=>exact False.elim hq
theorem pe_call (F:FnOk X.prog X.w X.K X.mg X.base CX k f fd ps sp) (hr:Room k X.A) (hg:Gl X x) (hm:X.mg x=some (.ref f)) (hk:PySem.W.keepIn X.K (.ref f)=true) (hb:Binds X.K fd ps ds) (hd:Vals dvs ds) (hx:Passes CX X E)
  (ha : PA X (e :: es) t) (hdb : (x == ("__debug__" : Str)) = false := by decide) (he : starEach (e :: es) X.env = (false, eval e X.env) :: starEach es X.env := by rfl) (hpl : (backTo pos (starEach es X.env)).any (·.1) = false := by rfl) :
  PE X (.Call (.Name x p) (e :: es) [] pos) (tCall sp dvs E t):=by
 intro pins s σ H Q I h
 refine wpAny_Call_Name_kw (ld_glob I hg hm ?_ hdb)
 refine PySem.W.callWith_K (h₀:=X.base) I.ok.mod.kin hk (thn (ha pos pins s σ H _ I h) fun us s1 ⟨vs,H1,I1,r,q⟩=>⟨I1.kIn,?_⟩) he hpl
 exact run_fn F hr hb hd hx I1 r q
structure Mk (K:PySem.W.Frag) (C f:Addr):Prop where
 makes:PySem.W.makesIn K C=true
 init : PySem.W.findIn K (.ref C) "__init__" = some (some (.ref f))
 fn:PySem.W.isFn K (.ref f)=true
 kp:PySem.W.keepIn K (.ref C)=true
end
section
variable {X:Cx} {CX:CXT} {k:Nat} {f C:Addr} {fd:FuncData} {ps ks:List Str} {sp:Sp} {E:XK} {x m:Str} {p pos apos kpos:Pos} {e o:Expr} {es:List Expr} {kws:List Keyword} {te ta:TE} {t tk:TA} {nm:Option Str}
structure KBinds (K:PySem.W.Frag) (fd:FuncData) (ps ks:List Str) (g:List Value→List Value→List Value) (gV:List V→List V→List V):Prop where
 to:∀ (s:Shared) (us ws:List Value),K.In s.heap→(g us ws).length=ps.length→BindsTo s fd ⟨us,ks.zip ws⟩ (ps.zip (g us ws))
 rel:∀ {vs:List V} {us:List Value} {zs:List V} {ws:List Value},Vals vs us→Vals zs ws→Vals (gV vs zs) (g us ws)
variable {g:List Value→List Value→List Value} {gV:List V→List V→List V}
end
structure FnScope (N P:List Str) (sc:Scope):Prop where
 kind:sc.kind = .function
 co:sc.isCoroutine=false
 gen:sc.isGenerator=false
 nd:N.Nodup
 pre:N.take P.length=P
 par:∀ x∈P,sc.names.lookup x=some .local∨sc.names.lookup x=some .cell
 nofree:∀ y∈sc.names,y.2≠.free
theorem bindL_out {kindOf:Str→Option NameKind} {x:Str}:∀ {binds:List (Str×Value)} {m:Str→Option Value},(∀ v,(x,v) ∉ binds)→bindL kindOf binds m x=m x
 | [],_,_=>rfl
 | (n,v) :: r,m,h=>by
  unfold bindL
  rw [bindL_out fun w hw=>h w (List.mem_cons_of_mem _ hw)]
  split
  ·have:x≠n:=by rintro rfl; exact h v List.mem_cons_self
   simp [this]
  ·rfl
theorem bindC_out {kindOf:Str→Option NameKind} {x:Str}:∀ {binds:List (Str×Value)} {m:Str→Option Value},(∀ v,(x,v) ∉ binds)→bindC kindOf binds m x=m x
 | [],_,_=>rfl
 | (n,v) :: r,m,h=>by
  unfold bindC
  rw [bindC_out fun w hw=>h w (List.mem_cons_of_mem _ hw)]
  split
  ·rfl
  ·have:x≠n:=by rintro rfl; exact h v List.mem_cons_self
   simp [this]
theorem bindL_get {kindOf:Str→Option NameKind} {x:Str} {v:Value}:∀ {P:List Str} {vs:List Value} {i:Nat} {m:Str→Option Value},P.Nodup→P[i]?=some x→vs[i]?=some v→kindOf x=some .local →
  bindL kindOf (P.zip vs) m x=some v
 | [],_,_,_,_,h,_,_=>by simp at h
 | _ :: _,[],_,_,_,_,h,_=>by simp at h
 | p :: P,w :: vs,0,m,nd,h1,h2,hk=>by
  simp at h1 h2; subst h1; subst h2
  show bindL kindOf ((p,w) :: P.zip vs) m p=_
  unfold bindL
  rw [bindL_out fun v hv=>(List.nodup_cons.mp nd).1 (List.of_mem_zip hv).1,if_pos hk]
  simp
 | p :: P,w :: vs,i+1,m,nd,h1,h2,hk=>by
  show bindL kindOf ((p,w) :: P.zip vs) m x=_
  unfold bindL
  exact bindL_get (i:=i) (List.nodup_cons.mp nd).2 (by simpa using h1) (by simpa using h2) hk
theorem bindC_get {kindOf:Str→Option NameKind} {x:Str} {v:Value}:∀ {P:List Str} {vs:List Value} {i:Nat} {m:Str→Option Value},P.Nodup→P[i]?=some x→vs[i]?=some v→kindOf x≠some .local →
  bindC kindOf (P.zip vs) m x=some v
 | [],_,_,_,_,h,_,_=>by simp at h
 | _ :: _,[],_,_,_,_,h,_=>by simp at h
 | p :: P,w :: vs,0,m,nd,h1,h2,hk=>by
  simp at h1 h2; subst h1; subst h2
  show bindC kindOf ((p,w) :: P.zip vs) m p=_
  unfold bindC
  rw [bindC_out fun v hv=>(List.nodup_cons.mp nd).1 (List.of_mem_zip hv).1,if_neg hk]
  simp
 | p :: P,w :: vs,i+1,m,nd,h1,h2,hk=>by
  show bindC kindOf ((p,w) :: P.zip vs) m x=_
  unfold bindC
  exact bindC_get (i:=i) (List.nodup_cons.mp nd).2 (by simpa using h1) (by simpa using h2) hk
noncomputable def start (N:List Str) (vs:List V):St:=vs.map some++List.replicate (N.length - vs.length) none
noncomputable def cxOf (CX:CXT) (P:Program) (w:World) (K:PySem.W.Frag) (mg:Str→Option Value) (base:Heap) (N:List Str) (qual:Str) (scope:Scope) (f:Addr) (cd:Value) (A:Around) (outer:List Env) (s:Shared) (H:Hp) (E:XK):Cx where
 prog:=P
 w:=w
 K:=K
 mg:=mg
 base:=base
 A:=A.deeper (envOfC qual scope s.heap.objs.size f cd)
 N:=N
 s₀:=s
 H₀:=H
 env:=envOfC qual scope s.heap.objs.size f cd
 outer:=outer
 stack:=envOfC qual scope s.heap.objs.size f cd :: outer
 ex:=[]
 calm:=true
 fn:=fun _=>true
 pn:=[]
 xe:=fun e s'=>wpAny (model P w) (A.deeper (envOfC qual scope s.heap.objs.size f cd)) (leaving (envOfC qual scope s.heap.objs.size f cd) e) (fun _ s''=>CX outer H s E e s'') (fun e' s''=>CX outer H s E e' s'') s'
theorem cell_has {sc:Scope} {n:Nat} {x:Str} (h:sc.names.lookup x=some .cell):∃ c,(cellsFrom n sc.names []).lookup x=some c:=by
 have q:=PySem.W.cellsFrom_some sc.names n [] (.inl h)
 exact Option.isSome_iff_exists.mp q
theorem inv_start {CX:CXT} {P:Program} {w:World} {K:PySem.W.Frag} {mg:Str→Option Value} {base:Heap} {N ps:List Str} {qual:Str} {scope:Scope} {f:Addr} {cd:Value} {A:Around} {outer:List Env} {s s1:Shared} {H:Hp} {E:XK} {us:List Value} {vs:List V}
  (S:FnScope N ps scope) (hd:A.handled=none) (e0:Env0 P w K mg base A outer s H) (hl:vs.length=ps.length) (r:Vals vs us)
  (x:InCallC s s.heap.objs.size (bindL (envOfC qual scope s.heap.objs.size f cd).kindOf (ps.zip us) fun _=>none) (cellsFrom (s.heap.objs.size+1) scope.names []) (bindC (envOfC qual scope s.heap.objs.size f cd).kindOf (ps.zip us) fun _=>none) s1) :
  Inv (cxOf CX P w K mg base N qual scope f cd A outer s H E) [] (start N vs) H s1:=by
 have hpl:ps.length≤N.length:=by have:=congrArg List.length S.pre; rw [List.length_take] at this; omega
 obtain ⟨h1,tk,rfl,hk⟩:=x.done
 have noA:∀ b:Addr,b ∉ (cxOf CX P w K mg base N qual scope f cd A outer s H E).ex:=fun b z=>absurd (show b∈([]:List Addr) from z) (by simp)
 refine ⟨⟨e0.mod,S.kind,rfl,rfl,Nat.le_refl _,fun y z c h1 h2 => ?_,fun y hy => ?_,fun y c _ h => ?_,fun _=>hd,Around.frames_deeper e0.frames,.inr ⟨rfl,rfl⟩,fun b z=>absurd z (noA b),e0.bs,e0.bsz,fun b _ _=>noA b,fun b z=>absurd z (noA b),e0.funs,e0.frf⟩,
  rfl,e0.bare,Un.kept hk,⟨_,x.toInCall.ns,fun i y v h1 h2 h3 => ?_⟩,fun y c h=>⟨_,x.cell y c h⟩,e0.hok.fresh (Nat.le_refl _),fun y c h => ?_,fun p hp=>absurd (show p∈([]:List (Addr×Obj)) from hp) (by simp),e0.hok.kept hk,?_⟩
 ·exact name_of_addr x.apart (PySem.mem_of_lookup h1) (PySem.mem_of_lookup h2)
 ·have hy:scope.names.lookup y=some .cell∨scope.names.lookup y=some .free:=hy
  rcases hy with hy | hy
  ·exact cell_has hy
  ·exact absurd rfl (S.nofree _ (PySem.mem_of_lookup hy))
 ·exact Nat.le_of_lt (x.above y c (PySem.mem_of_lookup h))
 ·have hi:i<vs.length:=by
   unfold start at h2
   by_cases hi:i<vs.length
   ·exact hi
   ·rw [List.getElem?_append_right (by simpa using hi)] at h2
    rw [List.getElem?_replicate] at h2
    split at h2 <;> cases h2
  have ha:vs[i]?=some v:=by
   unfold start at h2
   rw [List.getElem?_append_left (by simpa using hi),List.getElem?_map] at h2
   cases e:vs[i]? with
   | none=>rw [e] at h2; cases h2
   | some a=>rw [e] at h2; cases h2; rfl
  obtain ⟨u,hu,rv⟩:=r.get ha
  have hp:ps[i]?=some y:=by
   rw [← S.pre,List.getElem?_take_of_lt (by omega)]; exact h1
  have ndP:ps.Nodup:=by rw [← S.pre]; exact S.nd.sublist (List.take_sublist _ _)
  refine ⟨u,rv,?_⟩
  rcases S.par y (List.mem_of_getElem? hp) with k | k
  ·exact .inl ⟨k,bindL_get ndP hp hu k⟩
  ·obtain ⟨c,e⟩:=cell_has (n:=s.heap.objs.size+1) k
   refine .inr ⟨.inl k,c,e,?_⟩
   have q:=x.cell y c e
   rw [bindC_get ndP hp hu (by show scope.names.lookup y≠_; rw [k]; decide)] at q
   exact q
 ·exact e0.hok.fresh (Nat.le_of_lt (x.above y c (PySem.mem_of_lookup h)))
 ·unfold start
  show _=N.length
  rw [List.length_append,List.length_map,List.length_replicate]
  omega
theorem fn_of {CX:CXT} {P:Program} {w:World} {K:PySem.W.Frag} {mg:Str→Option Value} {base:Heap} {k:Nat} {f:Addr} {name qual:Str} {params:Arguments} {body:List Stmt} {scope:Scope} {dV kV doc pm cdv ct oc:Value} {an od:Option Addr}
  {osl:Array (Option Value)} {N ps:List Str} {sp:Sp} (lk:K.lookup f=some ⟨oc,od,.func (PySem.W.fnOf name qual params body scope dV kV doc pm an cdv ct),osl⟩) (hcd:PySem.W.codeIn K cdv qual=true) (S:FnScope N ps scope)
  (len:∀ vs H Q E,sp vs H Q E→vs.length=ps.length)
  (hbody:∀ (A:Around) (outer:List Env) (s:Shared) (H:Hp) (vs:List V) (Q:VK) (E:XK),Room k (A.deeper (envOfC qual scope s.heap.objs.size f cdv))→sp vs H Q E →
   ∃ t,PSs (cxOf CX P w K mg base N qual scope f cdv A outer s H E) body t∧t { nx:=fun _ H'=>Q .non H',rt:=Q } (start N vs) H) :
  FnOk P w K mg base CX (k+1) f (PySem.W.fnOf name qual params body scope dV kV doc pm an cdv ct) ps sp:=by
 refine ⟨len,fun A outer s H args us vs Q E hr e0 hb r hsp => ?_⟩
 have hl:=len _ _ _ _ hsp
 have KX:K.In s.heap:=e0.mod.kin.keeps fun b o e=>(e0.bs b o e).1
 have lim:s.heap.NoLimit:=e0.mod.nolimit.keeps fun b o e=>(e0.bs b o e).1
 have hkind:∀ y∈ps.zip us,scope.names.lookup y.1=some .local∨(scope.names.lookup y.1=some .cell∧((cellsFrom (s.heap.objs.size+1) scope.names []).lookup y.1).isSome=true):=fun ⟨n,v⟩ hy=>by
  rcases S.par n (List.of_mem_zip hy).1 with q | q
  ·exact .inl q
  ·exact .inr ⟨q,PySem.W.cellsFrom_some _ _ _ (.inl q)⟩
 refine codeAny_call_function hr.depth (KX _ _ lk) rfl S.co S.gen rfl (PySem.W.codeRec_of KX hcd) (hb _ _ _ _ ?_)
 refine wpAny_newFunctionEnv_cells S.kind hkind fun env he s1 x => ?_
 subst he
 refine ⟨lim.keeps x.toInCall.keep,codeAny_func ?_⟩
 obtain ⟨t,ht,hq⟩:=hbody A outer s H vs Q E (hr.deeper _) hsp
 have I:Inv (cxOf CX P w K mg base N qual scope f cdv A outer s H E) [] (start N vs) H s1:=inv_start S hr.hd e0 hl r x
 refine wpAny_mono (ht [] s1 (start N vs) H _ I hq) (fun fl s' hs => ?_) fun e s' hs=>hs
 have fin:∀ {σ':St} {H':Hp} {v:V} {u:Value},Inv (cxOf CX P w K mg base N qual scope f cdv A outer s H E) [] σ' H' s'→RelV v u→Q v H'→CE outer P w H s Q u s' :=
  fun {σ' H' v u} J rv q=>⟨v,H',J.os,J.bare,J.base,J.hok,rv,q⟩
 cases fl with
 | ret u =>
  obtain ⟨v,σ',H',J,rv,q⟩:=hs
  exact fin J rv q
 | next =>
  obtain ⟨σ',H',J,q⟩:=hs
  exact fin (v:=V.non) (u:=Value.none) J rfl q
 | brk =>
  obtain ⟨_,_,_,q⟩:=hs
  exact False.elim q
 | cont =>
  obtain ⟨_,_,_,q⟩:=hs
  exact False.elim q
end L2
namespace L2
open PySem PySem.Spec PyProof.Rows
section
variable {X:Cx} {x:Str} {p pos:Pos} {e:Expr} {es:List Expr} {t:TA} {id T:String} {r:List V→Hp→VK→Prop}
noncomputable def tCB (r:List V→Hp→VK→Prop) (t:TA):TE:=fun σ H Q=>t σ H fun vs H1=>r vs H1 Q
theorem pe_callB (hc : CallR X (.builtin id) r) (hg : Gl X x) (hm : X.mg x = none) (hv : bootBuiltins x = some (.builtin id)) (ha : PA X (e :: es) t) (hn : x ≠ "__name__" := by decide) (hdb : (x == ("__debug__" : Str)) = false := by decide)
  (he:starEach (e :: es) X.env=(false,eval e X.env) :: starEach es X.env:=by rfl) (hpl:(backTo pos (starEach es X.env)).any (·.1)=false:=by rfl):PE X (.Call (.Name x p) (e :: es) [] pos) (tCB r t):=by
 intro pins s σ H Q I h
 refine wpAny_Call_Name_kw (ld_blt I hg hm hv ?_ hn hdb)
 exact PyProof.Rows.callWith_builtin1 (thn (ha pos pins s σ H _ I h) fun us s1 ⟨vs,H1,I1,r1,q1⟩=>hc pins s1 σ H1 vs us Q I1 r1 q1) he hpl
theorem pe_callTy (hc : CallR X (.type T) r) (hg : Gl X x) (hm : X.mg x = none) (hv : bootBuiltins x = some (.type T)) (ha : PA X (e :: es) t) (hn : x ≠ "__name__" := by decide) (hdb : (x == ("__debug__" : Str)) = false := by decide)
  (he:starEach (e :: es) X.env=(false,eval e X.env) :: starEach es X.env:=by rfl) (hpl:(backTo pos (starEach es X.env)).any (·.1)=false:=by rfl):PE X (.Call (.Name x p) (e :: es) [] pos) (tCB r t):=by
 intro pins s σ H Q I h
 refine wpAny_Call_Name_kw (ld_blt I hg hm hv ?_ hn hdb)
 exact PyProof.Rows.callWith_type1 (thn (ha pos pins s σ H _ I h) fun us s1 ⟨vs,H1,I1,r1,q1⟩=>hc pins s1 σ H1 vs us Q I1 r1 q1) he hpl
end
end L2
namespace HT
open PySem PyProof.Rows
section
open PySem.SeqAt
open PySem.AutoSeq1 (wpAny_loadPart')
open PySem.MeetsSeq PySem.MeetsSeq2 PySem.MeetsSeq3
end
section
variable {prog:Program} {w:World} {A:Around} {E:Value→Shared→Prop} {s:Shared}
theorem cat_tup {t b:Addr} {vs ws:List Value} {Q:Value→Shared→Prop} (ht:IsTup s.heap t vs.toArray) (hb:IsTup s.heap b ws.toArray) (hv:vs≠[])
  (h1 : ws = [] → Q (.ref t) s) (h2 : ws ≠ [] → Q (.ref s.heap.objs.size) { s with heap := s.heap.push { cls := .type "tuple", data := .seq (vs ++ ws).toArray } })
  (hsz:vs.length+ws.length≤sizeLine):wpAny (model prog w) A (binaryOp .Add (.ref t) (.ref b)) Q E s:=by
 obtain ⟨⟨cls,dd,data,sl⟩,ho,hc,n,hd⟩:=id ht
 obtain ⟨⟨cls2,dd2,data2,sl2⟩,ho2,hc2,n2,hd2⟩:=id hb
 simp only at hc hd hc2 hd2
 subst hc hd hc2 hd2
 have e:vs.toArray++ws.toArray=(vs++ws).toArray:=by simp
 by_cases hw:ws=[]
 ·exact concat_meets ⟨_,ho,rfl⟩ ⟨_,ho2,rfl⟩ noFill_tuple_add seq_tuple_add PySem.F.slot_tuple_add PySem.F.entry_tuple_add (PySem.F.args_tuple_add_2 _ _)
   (tuple_addW1 t b vs.toArray ws.toArray n n2 dd dd2 sl sl2 (by simpa using hv) (by simp [hw])) ⟨ho,ho2,h1 hw⟩
 ·refine concat_meets ⟨_,ho,rfl⟩ ⟨_,ho2,rfl⟩ noFill_tuple_add seq_tuple_add PySem.F.slot_tuple_add PySem.F.entry_tuple_add (PySem.F.args_tuple_add_2 _ _)
   (tuple_addW2 t b vs.toArray ws.toArray n n2 dd dd2 sl sl2 (by simpa using hv) (by simpa using hw) (by rw [List.size_toArray,List.size_toArray]; exact hsz)) ⟨ho,ho2,?_⟩
  rw [e]
  exact h2 hw
noncomputable def sIx (n d:Nat):Option Int→Nat
 | none=>d
 | some v=>if v<0 then (v+(n:Int)).toNat else min v.toNat n
theorem sIx_none (n d:Nat):sIx n d none=d:=rfl
theorem sIx_nat (n d k:Nat):sIx n d (some (k:Int))=min k n:=by
 show (if (k:Int)<0 then ((k:Int)+(n:Int)).toNat else min (k:Int).toNat n)=min k n
 rw [if_neg (by omega),Int.toNat_natCast]
theorem sIx_le (n d:Nat) (hd:d≤n) (o:Option Int):sIx n d o≤n:=by
 cases o with
 | none=>exact hd
 | some v =>
  show (if v<0 then (v+(n:Int)).toNat else min v.toNat n)≤n
  by_cases hv:v<0
  ·rw [if_pos hv]; omega
  ·rw [if_neg hv]; exact Nat.min_le_right _ _
theorem clip_eq (v:Int) (n d:Nat):(if v<0 then max (v+(n:Int)) 0 else min v (n:Int))=((sIx n d (some v):Nat):Int):=by
 show (if v<0 then max (v+(n:Int)) 0 else min v (n:Int))=(((if v<0 then (v+(n:Int)).toNat else min v.toNat n):Nat):Int)
 by_cases hv:v<0
 ·simp only [if_pos hv]; omega
 ·simp only [if_neg hv]; omega
theorem adjust_gen (lo hi:Option Int) (n:Nat):Builtin.Slice.sliceAdjust lo hi 1 (n:Int)=(((sIx n 0 lo:Nat):Int),((sIx n n hi:Nat):Int)):=by
 have h1:¬ ((1:Int)<0):=by omega
 unfold Builtin.Slice.sliceAdjust
 simp only [h1,if_false]
 refine Prod.ext ?_ ?_
 ·cases lo with
  | none=>rfl
  | some v=>exact clip_eq v n 0
 ·cases hi with
  | none=>rfl
  | some v=>exact clip_eq v n n
theorem places_gen (i j:Nat):Builtin.Slice.slicePlaces (i:Int) (j:Int) 1=j - i:=by
 unfold Builtin.Slice.slicePlaces
 have h1:(1:Int) > 0:=by omega
 simp only [h1,if_true,Int.ediv_one]
 split <;> omega
theorem slicePart_ {v:Value} {o:Option Int} {Q:Option Int→Shared→Prop} (p:IsPart v o) (h:Q o s):wpAny (model prog w) A (Builtin.Slice.slicePartIndex v) Q E s:=by
 cases p with
 | none=>exact slicePart_none h
 | int i t=>exact slicePart_int h
theorem sliceApplied_gen {sl:Addr} {vl vu:Value} {lo hi:Option Int} {n:Nat} {Q:Int×Int×Nat→Shared→Prop} (hs:s.heap.IsSliceOf sl vl vu .none) (pl:IsPart vl lo) (pu:IsPart vu hi)
  (h:Q (((sIx n 0 lo:Nat):Int),1,sIx n n hi - sIx n 0 lo) s):wpAny (model prog w) A (Builtin.Slice.sliceApplied (.ref sl) (pure (n:Int))) Q E s:=by
 obtain ⟨os,hos,hcs,hds⟩:=id hs
 unfold Builtin.Slice.sliceApplied Builtin.Slice.sliceFields
 refine wpAny_bind (wpAny_bind (wpAny_field hos hds (x:=vl) rfl (wpAny_bind (wpAny_field hos hds (x:=vu) rfl (wpAny_bind (wpAny_field hos hds (x:=.none) rfl (wpAny_pure ?_)))))))
 refine wpAny_bind (slicePart_none ?_)
 show wpAny _ _ (if ((1:Int) == 0)=true then _ else _) _ _ s
 rw [if_neg (by decide)]
 refine wpAny_bind (slicePart_ pl (wpAny_bind (slicePart_ pu (wpAny_bind (wpAny_pure ?_)))))
 show wpAny _ _ (match Builtin.Slice.sliceAdjust lo hi 1 (n:Int) with | (lo,hi)=>pure (lo,(1:Int),Builtin.Slice.slicePlaces lo hi 1)) _ _ s
 rw [adjust_gen lo hi n]
 show wpAny _ _ (pure (((sIx n 0 lo:Nat):Int),(1:Int),Builtin.Slice.slicePlaces ((sIx n 0 lo:Nat):Int) ((sIx n n hi:Nat):Int) 1)) _ _ s
 rw [places_gen]
 exact wpAny_pure h
theorem pick_gen (xs:Array Value) (i k:Nat):((List.range k).filterMap fun (m:Nat)=>xs[((i:Int)+(m:Int) * 1).toNat]?).toArray=((xs.toList.drop i).take k).toArray:=by
 have e:(fun (m:Nat)=>xs[((i:Int)+(m:Int) * 1).toNat]?)=fun m=>xs[i+m]?:=by
  funext m
  have:((i:Int)+(m:Int) * 1).toNat=i+m:=by omega
  rw [this]
 rw [e]
 have:=pick_run xs i k
 rw [List.filterMap_map] at this
 have e2:((fun x=>xs[x]?) ∘ fun x=>i+x)=fun m=>xs[i+m]?:=rfl
 rw [e2] at this
 rw [this]
theorem getItem_tuple_cut {t sl:Addr} {items:Array Value} {vl vu:Value} {lo hi:Option Int} {Q:Value→Shared→Prop} (ht:IsTup s.heap t items) (hs:s.heap.IsSliceOf sl vl vu .none) (pl:IsPart vl lo) (pu:IsPart vu hi)
  (hw:¬ (sIx items.size 0 lo=0∧sIx items.size items.size hi=items.size))
  (h : Q (.ref s.heap.objs.size) { s with heap := s.heap.push { cls := .type "tuple", data := .seq ((items.toList.drop (sIx items.size 0 lo)).take (sIx items.size items.size hi - sIx items.size 0 lo)).toArray } })
  (hsz:items.size≤sizeLine):wpAny (model prog w) A (getItem (.ref t) (.ref sl)) Q E s:=by
 have htake:sizeOk (.seq ((items.toList.drop (sIx items.size 0 lo)).take (sIx items.size items.size hi - sIx items.size 0 lo)).toArray):=by
  show ((items.toList.drop (sIx items.size 0 lo)).take (sIx items.size items.size hi - sIx items.size 0 lo)).toArray.size≤sizeLine
  rw [List.size_toArray,List.length_take,List.length_drop,Array.length_toList]
  omega
 have hj:sIx items.size items.size hi≤items.size:=sIx_le _ _ (Nat.le_refl _) hi
 obtain ⟨os,hos,hcs,hds⟩:=id hs
 have hTs : s.TypeIs (.ref sl) "slice" := ⟨os, hos, hcs⟩
 unfold getItem
 try with_reducible refine wpAny_holding ?_
 first | refine wpAny_bind (wpAny_pure ?_) | skip
 refine wpAny_bind (wpAny_sequenceKey ht.typeIs (by decide) ?_)
 refine wpAny_bind (wpAny_callSpecial?_slot (name := Str.ofString "__getitem__") ht.typeIs PyProof.Rows.slot_tuple_getitem
  (wpAny_call_entry PyProof.Rows.slot_tuple_getitem ht.typeIs entry_tuple_getitem ?_ (args_tuple_getitem _ _)))
 show wpAny _ _ (Builtin.Tuple.tupleItemsOf (.ref t) >>= _) _ _ s
 refine wpAny_bind (tupleItemsOf_ ht ?_)
 refine wpAny_bind (wpAny_typeOf hTs ?_)
 rw [if_pos (by decide)]
 refine wpAny_bind (sliceApplied_gen hs pl pu ?_)
 have hno:¬ ((((sIx items.size 0 lo:Nat):Int) == 0 && (1:Int) == 1 && (sIx items.size items.size hi - sIx items.size 0 lo) == items.size)=true):=by
  intro q
  rw [Bool.and_eq_true,Bool.and_eq_true] at q
  have q1:((sIx items.size 0 lo:Nat):Int)=0:=eq_of_beq q.1.1
  have q2:sIx items.size items.size hi - sIx items.size 0 lo=items.size:=eq_of_beq q.2
  exact hw ⟨by omega,by omega⟩
 show wpAny _ _ (if (((sIx items.size 0 lo:Nat):Int) == 0 && (1:Int) == 1 && (sIx items.size items.size hi - sIx items.size 0 lo) == items.size)=true then _ else _) _ _ s
 rw [if_neg hno,pick_gen]
 first
  | exact wpAny_bind (m:=Builtin.Tuple.tupleExact _) (wpAny_newObj_type (wpAny_pure ⟨_,rfl,wpAny_pure h⟩) htake)
  | exact wpAny_bind (m:=Builtin.Tuple.tupleExact _) (wpAny_newObj_type (wpAny_bind (wpAny_pure (wpAny_pure ⟨_,rfl,wpAny_pure h⟩))) htake)
  | exact wpAny_bind (wpAny_bind (m:=Builtin.Tuple.tupleExact _) (wpAny_newObj_type (wpAny_pure (wpAny_pure ⟨_,rfl,wpAny_pure h⟩)) htake))
  | exact wpAny_bind (wpAny_bind (m:=Builtin.Tuple.tupleExact _) (wpAny_newObj_type (wpAny_pure ⟨_,rfl,wpAny_pure h⟩) htake))
end
end HT
namespace L2
open PySem PySem.Spec PyProof.Rows
noncomputable abbrev TO:=St→Hp→(Option Int→Hp→Prop)→Prop
noncomputable def PO (X:Cx) (e:Option Expr) (t:TO):Prop :=
 ∀ (pins:List (Addr×Obj)) (s:Shared) (σ:St) (H:Hp) (Q:Option Int→Hp→Prop),Inv X pins σ H s→t σ H Q →
  wpAny (model X.prog X.w) X.A (evalPart e X.env) (fun u s' => ∃ o H',Inv X pins σ H' s'∧IsPart u o∧Q o H') X.xe s
noncomputable def tNoPart:TO:=fun _ H Q=>Q none H
noncomputable def tPart (t:TE):TO:=fun σ H Q=>t σ H fun x H1 => ∃ i,x = .int i∧Q (some i) H1
section
variable {X:Cx} {e:Expr} {te:TE} {lo hi:Option Expr} {tl th:TO} {pos p2:Pos}
theorem po_none:PO X none tNoPart:=by
 intro pins s σ H Q I h
 rw [evalPart_none]
 exact wpAny_pure ⟨none,H,I,.none,h⟩
theorem po_some (h:PE X e te):PO X (some e) (tPart te):=by
 intro pins s σ H Q I hw
 rw [evalPart_some]
 refine thn (h pins s σ H _ I hw) fun u s1 ⟨x,H1,I1,r1,q1⟩ => ?_
 obtain ⟨i,rfl,q⟩:=q1
 obtain ⟨t,rfl⟩:=r1
 exact ⟨some i,H1,I1,.int i t,q⟩
noncomputable def SlR (X:Cx) (r:V→Option Int→Option Int→Hp→VK→Prop):Prop :=
 ∀ (pins:List (Addr×Obj)) (s:Shared) (σ:St) (H:Hp) (x:V) (v vl vu:Value) (lo hi:Option Int) (sl:Addr) (Q:VK),Inv X pins σ H s→RelV x v→s.heap.IsSliceOf sl vl vu .none→IsPart vl lo→IsPart vu hi→r x lo hi H Q →
  ∃ T id, typeLookup (.type T) "__getitem__" = pure (some (.builtin id)) ∧ s.TypeIs v T ∧ wpAny (model X.prog X.w) X.A (getItem v (.ref sl)) (EP X pins σ Q) X.xe s
noncomputable def tSl (r:V→Option Int→Option Int→Hp→VK→Prop) (te:TE) (tl th:TO):TE:=fun σ H Q=>te σ H fun x H1=>tl σ H1 fun l H2=>th σ H2 fun u H3=>r x l u H3 Q
theorem pe_slice {r:V→Option Int→Option Int→Hp→VK→Prop} (hr:SlR X r) (he:PE X e te) (hl:PO X lo tl) (hu:PO X hi th):PE X (.Subscript e (.Slice lo hi none p2) pos) (tSl r te tl th):=by
 intro pins s σ H Q I h
 refine Subscript_ (thn (he pins s σ H _ I h) fun v s1 ⟨x,H1,I1,r1,q1⟩ => ?_)
 refine wpAny_Slice (thn (hl pins s1 σ H1 _ I1 q1) fun vl s2 ⟨l,H2,I2,pl,q2⟩=>thn (hu pins s2 σ H2 _ I2 q2) fun vu s3 ⟨u,H3,I3,pu,q3⟩ => ?_)
 rw [evalPart_none]
 refine wpAny_pure ?_
 have I4 : Inv X pins σ H3 { s3 with heap := s3.heap.push { cls := .type "slice", data := .fields #[vl, vu, .none] } } := I3.kept (t' := s3.toks) fun b ob q => Heap.get?_push_of_some _ q
 obtain ⟨T, id, hT, ht, hg⟩ := hr pins { s3 with heap := s3.heap.push { cls := .type "slice", data := .fields #[vl, vu, .none] } } σ H3 x v vl vu l u s3.heap.objs.size Q I4 r1 (Heap.IsSliceOf.new ..) pl pu q3
 show wpAny (model X.prog X.w) X.A (subscriptTail e (.Slice lo hi none p2) v (.ref s3.heap.objs.size)) (EP X pins σ Q) X.xe { s3 with heap := s3.heap.push { cls := .type "slice", data := .fields #[vl, vu, .none] } }
 exact tail_any (ops:=[.ref s3.heap.objs.size,v]) ht hT hg (by with_unfolding_all rfl)
noncomputable def cutV (xs:List V) (lo hi:Option Int):List V:=(xs.drop (HT.sIx xs.length 0 lo)).take (HT.sIx xs.length xs.length hi - HT.sIx xs.length 0 lo)
theorem cutV_length (xs:List V) (lo hi:Option Int):(cutV xs lo hi).length≤xs.length:=by
 unfold cutV
 rw [List.length_take,List.length_drop]
 omega
noncomputable def rSlT (K:PySem.W.Frag):V→Option Int→Option Int→Hp→VK→Prop:=fun x lo hi H Q => ∃ a xs,x = .ref a∧SqT K H a xs ∧
 ¬ (HT.sIx xs.length 0 lo=0∧HT.sIx xs.length xs.length hi=xs.length)∧∀ p,H p=none→Q (.ref p) (upd H p (.tup (cutV xs lo hi)))
theorem sl_tup:SlR X (rSlT X.K):=by
 intro pins s σ H x v vl vu lo hi sl Q I rx hs pl pu h
 obtain ⟨a,xs,rfl,hx,hw,q⟩:=h
 cases rx
 obtain ⟨its,r,ht,hz⟩:=I.tuple hx
 have hlen:its.toArray.size=xs.length:=by rw [List.size_toArray]; exact r.length.symm
 refine ⟨"tuple", _, PyProof.Rows.slot_tuple_getitem.lookup, ht.typeIs, ?_⟩
 refine HT.getItem_tuple_cut ht hs pl pu (by rw [hlen]; exact hw) ?_ (by rw [hlen]; exact hz)
 rw [hlen]
 refine ⟨.ref s.heap.objs.size,_,I.laid (t':=s.toks) (o:=.tup (cutV xs lo hi)) (fun b ob q=>Heap.get?_push_of_some _ q) (Nat.le_refl _) ?_,rfl,q _ (I.hok.fresh (Nat.le_refl _))⟩
 exact ⟨Nat.le_trans (cutV_length xs lo hi) hz,_,(r.drop (HT.sIx xs.length 0 lo)).take (HT.sIx xs.length xs.length hi - HT.sIx xs.length 0 lo),IsTup.new _ _,fun o2 e2=>by rw [Heap.get?_push_size _ rfl] at e2; cases e2; rfl⟩
noncomputable def rCatT (K:PySem.W.Frag):R2:=fun x y H Q => ∃ a b xs ys,x = .ref a∧y = .ref b∧SqT K H a xs∧SqT K H b ys∧xs≠[]∧xs.length+ys.length≤sizeLine ∧
 (ys=[]→Q (.ref a) H)∧(ys≠[]→∀ p,H p=none→Q (.ref p) (upd H p (.tup (xs++ys))))
theorem Vals.nil_iff {xs:List V} {us:List Value} (r:Vals xs us):us=[] ↔ xs=[]:=by
 cases r with
 | nil=>simp
 | cons _ _=>simp
theorem op_catT:OpR X (binaryOp .Add) (rCatT X.K):=by
 intro pins s σ H x y v u Q I rx ry h
 obtain ⟨a,b,xs,ys,rfl,rfl,ha,hb,hx,hz,q1,q2⟩:=h
 cases rx
 cases ry
 obtain ⟨its,r1,p1,_⟩:=I.tuple ha
 obtain ⟨its2,r2,p2,_⟩:=I.tuple hb
 refine HT.cat_tup p1 p2 (fun z=>hx (r1.nil_iff.mp z)) (fun z=>⟨.ref a,H,I,rfl,q1 (r2.nil_iff.mp z)⟩) (fun z => ?_) (by rw [← r1.length,← r2.length]; exact hz)
 refine ⟨.ref s.heap.objs.size,_,I.laid (t':=s.toks) (o:=.tup (xs++ys)) (fun b ob q=>Heap.get?_push_of_some _ q) (Nat.le_refl _) ?_,rfl,q2 (fun w=>z (r2.nil_iff.mpr w)) _ (I.hok.fresh (Nat.le_refl _))⟩
 exact ⟨by rw [List.length_append]; exact hz,_,r1.append r2,IsTup.new _ _,fun o2 e2=>by rw [Heap.get?_push_size _ rfl] at e2; cases e2; rfl⟩
end
end L2
namespace L2
open PySem PySem.Spec PyProof.Rows
noncomputable def ixN (n:Nat) (i:Int):Option Nat:=if 0≤i then (if i<n then some i.toNat else none) else if -(n:Int)≤i then some (i+n).toNat else none
noncomputable def atI {α:Type} (xs:List α) (i:Int):Option α:=(ixN xs.length i).bind fun j=>xs[j]?
theorem ixN_seq {n:Nat} {i:Int} {j:Nat} (h:ixN n i=some j):seqIndex? i n=some j∧j<n∧-(n:Int)≤i∧i<n:=by
 unfold ixN at h
 by_cases h0:0≤i
 ·rw [if_pos h0] at h
  by_cases h1:i<n
  ·rw [if_pos h1] at h
   have e:i.toNat=j:=Option.some.inj h
   exact ⟨by rw [seqIndex_of h0 h1,e],by omega,by omega,h1⟩
  ·rw [if_neg h1] at h; cases h
 ·rw [if_neg h0] at h
  by_cases h1 : -(n:Int)≤i
  ·rw [if_pos h1] at h
   have e:(i+n).toNat=j:=Option.some.inj h
   exact ⟨by rw [seqIndex_neg (by omega) h1,e],by omega,h1,by omega⟩
  ·rw [if_neg h1] at h; cases h
theorem atI_get {α:Type} {xs:List α} {i:Int} {v:α} (h:atI xs i=some v):∃ j,seqIndex? i xs.length=some j∧xs[j]?=some v∧j<xs.length∧-(xs.length:Int)≤i∧i<xs.length:=by
 unfold atI at h
 cases e:ixN xs.length i with
 | none=>rw [e] at h; cases h
 | some j =>
  rw [e] at h
  obtain ⟨h1,h2,h3,h4⟩:=ixN_seq e
  exact ⟨j,h1,h,h2,h3,h4⟩
noncomputable def PlainIx (b:Expr):Prop:=∀ o i,subscripted b false o i=operate [o,i] (getItem o i)
noncomputable def IxR (X:Cx) (r:R2):Prop :=
 ∀ (value slice:Expr) (pins:List (Addr×Obj)) (s:Shared) (σ:St) (H:Hp) (x y:V) (v u:Value) (Q:VK),Inv X pins σ H s→RelV x v→RelV y u→r x y H Q →
  subscripted slice false v u=operate [v,u] (getItem v u)→wpAny (model X.prog X.w) X.A (subscriptTail value slice v u) (EP X pins σ Q) X.xe s
noncomputable def MtR (X:Cx) (id:String) (r:V→List V→Hp→VK→Prop):Prop :=
 ∀ (pins:List (Addr×Obj)) (s:Shared) (σ:St) (H:Hp) (x:V) (xs:List V) (v:Value) (us:List Value) (Q:VK),Inv X pins σ H s→RelV x v→Vals xs us→r x xs H Q →
  wpAny (model X.prog X.w) X.A (call (.builtin id) (v :: us)) (EP X pins σ Q) X.xe s
section
variable {X:Cx} {a b:Expr} {ta tb:TE} {pos:Pos}
theorem pe_ix {r:R2} (hr:IxR X r) (ha:PE X a ta) (hb:PE X b tb) (hs:PlainIx b):PE X (.Subscript a b pos) (tOp r ta tb):=by
 intro pins s σ H Q I h
 exact Subscript_ (binT ha hb I h fun v u s2 x y H2 I2 rx ry q=>hr a b pins s2 σ H2 x y v u Q I2 rx ry q (hs _ _))
noncomputable def rIxL (K:PySem.W.Frag):R2:=fun x y H Q => ∃ p xs i v,x = .ref p∧y = .int i∧SqL K H p xs∧atI xs i=some v∧Q v H
noncomputable def rIxT (K:PySem.W.Frag):R2:=fun x y H Q => ∃ p xs i v,x = .ref p∧y = .int i∧SqT K H p xs∧atI xs i=some v∧Q v H
noncomputable def rIxS:R2:=fun x y H Q => ∃ z i c,x = .str z∧y = .int i∧z.length≤sizeLine∧atI z.cps.toList i=some c∧Q (.str ⟨#[c]⟩) H
theorem ix_list:IxR X (rIxL X.K):=by
 intro value slice pins s σ H x y v u Q I rx ry h hs
 obtain ⟨p,xs,i,z,rfl,rfl,hq,he,q⟩:=h
 cases rx
 obtain ⟨t,rfl⟩:=ry
 obtain ⟨its,r,pl,hz⟩:=I.list hq
 obtain ⟨j,h1,h2,h3,h4,h5⟩:=atI_get he
 obtain ⟨w,ew,rw'⟩:=r.get h2
 have hl:=r.length
 have hn:=line63
 have fin:EP X pins σ Q w s:=⟨z,H,I,rw',q⟩
 by_cases h0:0≤i
 ·have hj:i.toNat=j:=by
   rw [seqIndex_of h0 h5] at h1
   exact Option.some.inj h1
  exact item_listR pl.isList h0 (by omega) (by rw [hj]; simpa using ew) fin hs
 ·have hj:(i+(its.toArray.size:Int)).toNat=j:=by
   rw [seqIndex_neg (by omega) h4] at h1
   rw [List.size_toArray,← hl]
   exact Option.some.inj h1
  exact subscriptTail_builtinR (x:=w) pl.isList.typeIs slot_list_getitem.lookup
   (wpAny_getItem_list_neg (Q:=fun r s'=>r=w∧EP X pins σ Q r s') pl.isList (by omega) (by rw [List.size_toArray] <;> omega) (by omega) (by rw [hj]; simpa using ew) ⟨rfl,fin⟩) hs
theorem ix_tup:IxR X (rIxT X.K):=by
 intro value slice pins s σ H x y v u Q I rx ry h hs
 obtain ⟨p,xs,i,z,rfl,rfl,hq,he,q⟩:=h
 cases rx
 obtain ⟨t,rfl⟩:=ry
 obtain ⟨its,r,pl,hz⟩:=I.tuple hq
 obtain ⟨j,h1,h2,h3,h4,h5⟩:=atI_get he
 obtain ⟨w,ew,rw'⟩:=r.get h2
 have hl:=r.length
 have hn:=line63
 have fin:EP X pins σ Q w s:=⟨z,H,I,rw',q⟩
 exact subscriptTail_builtinR (x:=w) pl.typeIs slot_tuple_getitem.lookup
  (getItem_tuple (j:=j) (Q:=fun r s'=>r=w∧EP X pins σ Q r s') pl (by omega) (by omega) (by rw [List.size_toArray,← hl]; exact h1) (by simpa using ew) ⟨rfl,fin⟩) hs
theorem ix_str:IxR X rIxS:=by
 intro value slice pins s σ H x y v u Q I rx ry h hs
 obtain ⟨z,i,c,rfl,rfl,hz,he,q⟩:=h
 obtain ⟨t,rfl⟩:=rx
 obtain ⟨t',rfl⟩:=ry
 obtain ⟨j,h1,h2,h3,h4,h5⟩:=atI_get he
 have hl:z.cps.toList.length=z.length:=by simp [Str.length]
 rw [hl] at h1 h4 h5
 have hn:=line63
 exact tail_any (typeIs_str s z t) slot_str_getitem.lookup (getItem_str (c:=c) (by
  have e1:decide (i < -(2 ^ 63:Int))=false:=decide_eq_false (by omega)
  have e2:decide (i ≥ 2 ^ 63)=false:=decide_eq_false (by omega)
  rw [e1,e2,Bool.or_false]) (by rw [h1]; simpa using h2) ⟨.str ⟨#[c]⟩,H,I.tok _,⟨_,rfl⟩,q⟩) hs
theorem call_len_seq : CallR X (.builtin "len") (fun xs H Q => ∃ p ys, xs = [.ref p] ∧ (SqL X.K H p ys ∨ SqT X.K H p ys) ∧ Q (.int ys.length) H) := by
 intro pins s σ H xs us Q I r h
 obtain ⟨p,ys,rfl,hq,q⟩:=h
 obtain ⟨u,rfl,rx⟩:=vals1 r
 cases rx
 have hn:=line63
 rcases hq with hq | hq
 ·obtain ⟨its,r',pl,hz⟩:=I.list hq
  have hlen:=r'.length
  exact Calls.call_len_list pl.isList (by simp only [List.size_toArray] <;> omega) ⟨.int ys.length,H,I.tok _,⟨s.toks+1,by rw [List.size_toArray,hlen]⟩,q⟩
 ·obtain ⟨its,r',pl,hz⟩:=I.tuple hq
  have hlen:=r'.length
  exact len_tuple pl (by simp only [List.size_toArray] <;> omega) ⟨.int ys.length,H,I.tok _,⟨s.toks+1,by rw [List.size_toArray,hlen]⟩,q⟩
theorem call_len_str : CallR X (.builtin "len") (fun xs H Q => ∃ z, xs = [.str z] ∧ z.length ≤ sizeLine ∧ Q (.int z.length) H) := by
 intro pins s σ H xs us Q I r h
 obtain ⟨z,rfl,hz,q⟩:=h
 obtain ⟨u,rfl,t,rfl⟩:=vals1 r
 have hn:=line63
 exact len_str (by omega) ⟨.int z.length,H,I.tok _,⟨_,rfl⟩,q⟩
theorem call_list_of : CallR X (.type "list") (fun xs H Q => ∃ p ys, xs = [.ref p] ∧ (SqL X.K H p ys ∨ SqT X.K H p ys) ∧ ∀ l, H l = none → Q (.ref l) (upd H l (.lst ys))) := by
 intro pins s σ H xs us Q I r h
 obtain ⟨p,ys,rfl,hq,q⟩:=h
 obtain ⟨u,rfl,rx⟩:=vals1 r
 cases rx
 have fin:∀ (its:List Value),Vals ys its→ys.length≤sizeLine→∀ (h':Heap) (c':Nat),(∀ b o',s.heap.get? b=some o'→h'.get? b=some o') →
   h'.get? s.heap.objs.size = some { cls := .type "list", dict := none, data := .seq its.toArray c', slots := #[] } → EP X pins σ Q (.ref s.heap.objs.size) { s with heap := h' } := fun its r' hz h' c' kp e =>
  ⟨.ref s.heap.objs.size,_,I.laid (t':=s.toks) kp (Nat.le_refl _) (show ObjOk X.prog X.w _ h' _ (.lst ys) from ⟨hz,its,c',r',e⟩),rfl,q _ (I.hok.fresh (Nat.le_refl _))⟩
 rcases hq with hq | hq
 ·obtain ⟨its,r',pl,hz⟩:=I.list hq
  have hlen:=r'.length
  obtain ⟨o,ho,hc,n,hd⟩:=pl.isList
  exact call_list_seq p (.inl rfl) ho hc hd (fun h' c' kp e=>fin its r' hz h' c' kp e) (by simp only [List.size_toArray] <;> omega)
 ·obtain ⟨its,r',pl,hz⟩:=I.tuple hq
  have hlen:=r'.length
  obtain ⟨o,ho,hc,n,hd⟩:=pl
  exact call_list_seq p (.inr rfl) ho hc hd (fun h' c' kp e=>fin its r' hz h' c' kp e) (by simp only [List.size_toArray] <;> omega)
theorem call_tuple_of : CallR X (.type "tuple") (fun xs H Q => ∃ p ys, xs = [.ref p] ∧ ((SqL X.K H p ys ∧ ∀ l, H l = none → Q (.ref l) (upd H l (.tup ys))) ∨ (SqT X.K H p ys ∧ Q (.ref p) H))) := by
 intro pins s σ H xs us Q I r h
 obtain ⟨p,ys,rfl,h⟩:=h
 obtain ⟨u,rfl,rx⟩:=vals1 r
 cases rx
 rcases h with ⟨hq,q⟩ | ⟨hq,q⟩
 ·obtain ⟨its,r',pl,hz⟩:=I.list hq
  have hlen:=r'.length
  refine call_tuple_list pl.isList (fun h' kp => ?_) (by simp only [List.size_toArray] <;> omega)
  have I1:Inv X pins σ H { s with heap:=h' }:=I.kept (t':=s.toks) kp
  have I2 : Inv X pins σ (upd H h'.objs.size (.tup ys)) { s with heap := h'.push { cls := .type "tuple", data := .seq its.toArray } } :=
   I1.laid (t':=s.toks) (fun b o e=>Heap.get?_push_of_some _ e) (Nat.le_refl _) (show ObjOk X.prog X.w _ _ _ (.tup ys) from ⟨hz,its,r',IsTup.new _ _,fun o2 e2=>by rw [Heap.get?_push_size _ rfl] at e2; cases e2; rfl⟩)
  exact ⟨.ref h'.objs.size,_,I2,rfl,q _ (I1.hok.fresh (Nat.le_refl _))⟩
 ·obtain ⟨its,r',pl,hz⟩:=I.tuple hq
  exact call_tuple_same pl ⟨.ref p,H,I,rfl,q⟩
noncomputable def tyV (K:PySem.W.Frag) (T:String) (x:V) (H:Hp):Prop:=match x with
 | .str _ => T = "str"
 | .int _ => T = "int"
 | .ref p => (T = "list" ∧ ∃ xs, SqL K H p xs) ∨ (T = "tuple" ∧ ∃ o, K.lookup p = some o ∧ o.cls = .type "tuple" ∧ o.dict = none) ∨
   (T = "dict" ∧ ((∃ kvs, H p = some (.dK kvs)) ∨ ∃ kvs, H p = some (.dT kvs))) ∨ (T = "set" ∧ ∃ S n, H p = some (.set S n))
 | _=>False
theorem tyV_is {pins:List (Addr×Obj)} {σ:St} {H:Hp} {s:Shared} {T:String} {x:V} {v:Value} (I:Inv X pins σ H s) (r:RelV x v) (ty:tyV X.K T x H) :
  s.TypeIs v T∧∀ a,v = .ref a→∃ ob,s.heap.get? a=some ob∧ob.dict=none:=by
 cases x with
 | str z =>
  obtain ⟨t,rfl⟩:=r
  cases (show T = "str" from ty)
  exact ⟨typeIs_str s z t,fun _ e=>nomatch e⟩
 | int i =>
  obtain ⟨t,rfl⟩:=r
  cases (show T = "int" from ty)
  exact ⟨typeIs_int s i t,fun _ e=>nomatch e⟩
 | ref p =>
  cases r
  rcases ty with ⟨rfl,xs,hq⟩ | ⟨rfl,o,hk,hc,hd⟩ | ⟨rfl,hk⟩ | ⟨rfl,S,n,hk⟩
  ·obtain ⟨its,_,pl,_⟩:=I.list hq
   refine ⟨pl.isList.typeIs,fun a e => ?_⟩
   cases e
   obtain ⟨o,n,e,c,hd,_⟩:=pl
   exact ⟨o,e,hd⟩
  ·refine ⟨⟨o,I.kIn p o hk,hc⟩,fun a e => ?_⟩
   cases e
   exact ⟨o,I.kIn _ o hk,hd⟩
  ·have z:∃ o,s.heap.get? p=some o∧o.ExactDict:=by
    rcases hk with ⟨kvs,hk⟩ | ⟨kvs,hk⟩
    ·obtain ⟨_,_,_,_,o,_,_,e,ex,_⟩:=I.hok p _ hk
     exact ⟨o,e,ex⟩
    ·obtain ⟨_,_,_,_,o,_,_,e,ex,_⟩:=I.hok p _ hk
     exact ⟨o,e,ex⟩
   obtain ⟨o,e,ex⟩:=z
   refine ⟨⟨o,e,ex.1⟩,fun a e2 => ?_⟩
   cases e2
   exact ⟨o,e,ex.2.1⟩
  ·obtain ⟨o,_,_,_,e,ex,_⟩:=I.hok p _ hk
   refine ⟨⟨o,e,ex.1⟩,fun a e2 => ?_⟩
   cases e2
   exact ⟨o,e,ex.2.1⟩
 | _=>exact False.elim ty
noncomputable def tBM0 (K:PySem.W.Frag) (T:String) (r:V→List V→Hp→VK→Prop) (to:TE):TE:=fun σ H Q=>to σ H fun x H1=>tyV K T x H1∧r x [] H1 Q
noncomputable def tBM (K:PySem.W.Frag) (T:String) (r:V→List V→Hp→VK→Prop) (to:TE) (t:TA):TE:=fun σ H Q=>to σ H fun x H1=>tyV K T x H1∧t σ H1 fun xs H2=>r x xs H2 Q
variable {o e:Expr} {es:List Expr} {to:TE} {t:TA} {name:Str} {apos cpos:Pos} {T id:String} {r:V→List V→Hp→VK→Prop}
theorem pe_bm0 (pa : PlainAttrs T) (slot : Slot T name id) (hty : typeOf (.builtin id) = pure (.type "method_descriptor")) (hm : MtR X id r) (ho : PE X o to)
  (hbase:attributeBase o name X.env (eval o X.env)=eval o X.env:=by rfl) (hline:(apos.endLine == cpos.line)=true:=by rfl):PE X (.Call (.Attribute o name apos) [] [] cpos) (tBM0 X.K T r to):=by
 intro pins s σ H Q I h
 refine wpAny_Call_method0_late hbase hline (thn (ho pins s σ H _ I h) fun v s1 ⟨x,H1,I1,r1,ty,q1⟩ => ?_)
 obtain ⟨h1,h2⟩:=tyV_is I1 r1 ty
 exact ⟨T,id,pa,slot,hty,h1,h2,Calls.callWith_builtin rfl (PySem.evalArgs_none (hm pins s1 σ H1 x [] v [] Q I1 r1 .nil q1))⟩
theorem pe_bm (pa : PlainAttrs T) (slot : Slot T name id) (hty : typeOf (.builtin id) = pure (.type "method_descriptor")) (hm : MtR X id r) (ho : PE X o to) (ha : PA X (e :: es) t)
  (hbase:attributeBase o name X.env (eval o X.env)=eval o X.env:=by rfl)
  (hfew:((backTo cpos (starEach (e :: es) X.env)).all (fun x => !x.1) && (backToKw cpos (keywordEach [] X.env)).all (fun x=>x.1.isSome)
   && decide ((e :: es).length+([]:List Keyword).length+(if ([]:List Keyword).isEmpty then 0 else 1)<30))=true:=by rfl)
  (hline:(apos.endLine == cpos.line)=true:=by rfl) (hs:starEach (e :: es) X.env=(false,eval e X.env) :: starEach es X.env:=by rfl) (hplain:(backTo cpos (starEach es X.env)).any (·.1)=false:=by rfl) :
  PE X (.Call (.Attribute o name apos) (e :: es) [] cpos) (tBM X.K T r to t):=by
 intro pins s σ H Q I h
 refine wpAny_Call_method_late hbase hfew hline rfl (thn (ho pins s σ H _ I h) fun v s1 ⟨x,H1,I1,r1,ty,q1⟩ => ?_)
 obtain ⟨h1,h2⟩:=tyV_is I1 r1 ty
 refine ⟨T,id,pa,slot,hty,h1,h2,?_⟩
 have hA:=ha cpos pins s1 σ H1 _ I1 q1
 rw [hs] at hA ⊢
 refine Calls.callWith_builtin (by show (false || (backTo cpos (starEach es X.env)).any (·.1))=false; rw [hplain] <;> rfl) (Calls.evalArgs_plain ?_)
 exact thn hA fun us s2 ⟨vs,H2,I2,r2,q2⟩=>hm pins s2 σ H2 x vs v us Q I2 r1 r2 q2
/- xs.append(e), list.index on a module's tuple .. are MtR facts of 06m -/
end
end L2
namespace L2
open PySem PySem.Spec PyProof.Rows
noncomputable def MtM (X:Cx) (id:String) (r:V→List V→Hp→VK→Prop):Prop :=
 ∀ (pins:List (Addr×Obj)) (s:Shared) (σ:St) (H:Hp) (x:V) (xs:List V) (v:Value) (us:List Value) (Q:VK),Inv X pins σ H s→RelV x v→Vals xs us→r x xs H Q →
  wpAny (model X.prog X.w) X.A (call (.builtin id) (v :: us)) (EP X pins σ Q) X.xe s
theorem Vals.one:∀ {x:V} {us:List Value},Vals [x] us→∃ u,us=[u]∧RelV x u
 | _,_,.cons r .nil=>⟨_,rfl,r⟩
theorem Vals.zero:∀ {us:List Value},Vals [] us→us=[]
 | _,.nil=>rfl
theorem Vals.dropLast {xs:List V} {us:List Value} (h:Vals xs us):Vals xs.dropLast us.dropLast:=by
 induction h with
 | nil=>exact .nil
 | cons r t ih =>
  cases t with
  | nil=>exact .nil
  | cons q t'=>exact .cons r ih
theorem Vals.rep {xs:List V} {us:List Value} (h:Vals xs us):∀ k:Nat,Vals (List.replicate k xs).flatten (List.replicate k us).flatten
 | 0 => .nil
 | k+1=>by
  rw [List.replicate_succ,List.replicate_succ,List.flatten_cons,List.flatten_cons]
  exact Vals.append h (Vals.rep h k)
theorem erase_last {α:Type} (l:List α):l.eraseIdx (l.length - 1)=l.dropLast:=by
 induction l with
 | nil=>rfl
 | cons a r ih =>
  cases r with
  | nil=>rfl
  | cons b r =>
   have e:(a :: b :: r).length - 1=((b :: r).length - 1)+1:=by
    have h1:(a :: b :: r).length=r.length+2:=rfl
    have h2:(b :: r).length=r.length+1:=rfl
    omega
   rw [e,List.eraseIdx_cons_succ,ih]
   all_goals rfl
theorem foldl_rep (its:List Value):∀ (k:Nat) (acc:List Value),
  List.foldl (fun x1 x2=>x1++x2) acc.toArray (List.replicate k its.toArray)=(acc++(List.replicate k its).flatten).toArray
 | 0,acc=>by simp
 | k+1,acc=>by
  have e:acc.toArray++its.toArray=(acc++its).toArray:=by simp
  have e2:(acc++its)++(List.replicate k its).flatten=acc++(List.replicate (k+1) its).flatten:=by
   rw [List.replicate_succ,List.flatten_cons,List.append_assoc]
  rw [← e2,← foldl_rep its k (acc++its),← e,List.replicate_succ,List.foldl_cons]
section
variable {X:Cx} {pins:List (Addr×Obj)} {σ:St} {H:Hp} {s:Shared} {l b:Addr} {xs ys zs:List V}
theorem Inv.lset {its its':List Value} {n:Nat} {f:Array Value→Array Value} {t':Nat} (I:Inv X pins σ H s) (hH:H l=some (.lst xs))
  (e : s.heap.get? l = some { cls := .type "list", data := .seq its.toArray n }) (hf : f its.toArray = its'.toArray) (hv : Vals ys its') (hz : ys.length ≤ sizeLine) :
  Inv X pins σ (upd H l (.lst ys)) { s with heap:=s.heap.update l (Obj.mapSeq f),toks:=t' }:=by
 have q:=PySem.IsL.update e f
 rw [hf] at q
 refine I.write (x:=l) (e:=l) (by rw [hH]; exact trivial) (.inl rfl) (fun b' u hb hu=>(Heap.get?_update_other s.heap (Obj.mapSeq f) (Ne.symm hb)).trans hu) ⟨_,q⟩ ?_
 exact ⟨hz,its',_,hv,q⟩
theorem Inv.lnew {its:List Value} {t':Nat} (I:Inv X pins σ H s) (hv:Vals ys its) (hz:ys.length≤sizeLine) :
  Inv X pins σ (upd H s.heap.objs.size (.lst ys)) { s with heap := s.heap.push { cls := .type "list", data := .seq its.toArray }, toks := t' } :=
 I.laid (fun _ _ q=>Heap.get?_push_of_some _ q) (Nat.le_refl _) ⟨hz,its,0,hv,Heap.get?_push_size _ rfl⟩
theorem Inv.fresh (I:Inv X pins σ H s):H s.heap.objs.size=none:=I.hok.fresh (Nat.le_refl _)
theorem Inv.lstM (I : Inv X pins σ H s) (hH : H l = some (.lst xs)) : xs.length ≤ sizeLine ∧ ∃ (its : List Value) (n : Nat), Vals xs its ∧ xs.length = its.length ∧ s.heap.get? l = some { cls := .type "list", data := .seq its.toArray n } := by
 obtain ⟨z,its,n,r,e⟩:=I.hok l _ hH
 exact ⟨z,its,n,r,r.length,e⟩
end
section
variable {X:Cx}
noncomputable def rAppend:V→List V→Hp→VK→Prop:=fun x vs H Q => ∃ l xs y,x = .ref l∧vs=[y]∧H l=some (.lst xs)∧xs.length<sizeLine∧Q .non (upd H l (.lst (xs++[y])))
theorem mt_append : MtM X "list.append" rAppend := by
 intro pins s σ H x vs v us Q I rx rv h
 obtain ⟨l,xs,y,rfl,rfl,hH,hz,q⟩:=h
 cases rx
 obtain ⟨u,rfl,ru⟩:=rv.one
 obtain ⟨z,its,n,r,hl,e⟩:=I.lstM hH
 refine call_meets F.slot_list_append ⟨_,e,rfl⟩ F.entry_list_append (F.args_list_append_2 _ _) (PySem.list_append l its.toArray n u (by rw [List.size_toArray]; omega)) ⟨e,?_⟩
 refine ⟨.non,_,I.lset (its':=its++[u]) hH e (by simp) (r.append (.cons ru .nil)) ?_,rfl,q⟩
 rw [List.length_append,List.length_singleton]
 omega
noncomputable def rPop:V→List V→Hp→VK→Prop:=fun x vs H Q => ∃ l xs y,x = .ref l∧vs=[]∧H l=some (.lst xs)∧xs[xs.length - 1]?=some y∧Q y (upd H l (.lst xs.dropLast))
theorem mt_pop : MtM X "list.pop" rPop := by
 intro pins s σ H x vs v us Q I rx rv h
 obtain ⟨l,xs,y,rfl,rfl,hH,hy,q⟩:=h
 cases rx
 have hus:=rv.zero
 subst hus
 obtain ⟨z,its,n,r,hl,e⟩:=I.lstM hH
 obtain ⟨u,hu,ru⟩:=r.get hy
 have hy':its.toArray[its.toArray.size - 1]?=some u:=by
  show its.toArray[its.length - 1]?=some u
  rw [← Array.getElem?_toList,← hl]
  exact hu
 refine call_meets F.slot_list_pop ⟨_,e,rfl⟩ F.entry_list_pop (F.args_list_pop_1 _) (MeetsSeq.list_pop_last l its.toArray n u hy' (by rw [List.size_toArray]; omega)) ⟨e,?_⟩
 refine ⟨y,_,I.lset (its':=its.dropLast) hH e ?_ r.dropLast ?_,ru,q⟩
 ·show its.toArray.eraseIdxIfInBounds (its.toArray.size - 1)=its.dropLast.toArray
  rw [List.size_toArray,List.eraseIdxIfInBounds_toArray,erase_last]
 ·rw [List.length_dropLast]
  omega
noncomputable def rCat:R2:=fun x y H Q => ∃ l b xs zs,x = .ref l∧y = .ref b∧H l=some (.lst xs)∧H b=some (.lst zs)∧xs.length+zs.length≤sizeLine∧∀ p,H p=none→Q (.ref p) (upd H p (.lst (xs++zs)))
theorem op_cat:OpR X (binaryOp .Add) rCat:=by
 intro pins s σ H x y v u Q I rx ry h
 obtain ⟨l,b,xs,zs,rfl,rfl,hH,hB,hz,q⟩:=h
 cases rx
 cases ry
 obtain ⟨z,its,n,r,hl,e⟩:=I.lstM hH
 obtain ⟨z2,its2,n2,r2,hl2,e2⟩:=I.lstM hB
 refine PySem.P.add_list e e2 ?_ (by rw [List.size_toArray,List.size_toArray]; omega)
 have ea:its.toArray++its2.toArray=(its++its2).toArray:=by simp
 rw [ea]
 exact ⟨.ref _,_,I.lnew (t':=s.toks) (r.append r2) (by rw [List.length_append]; omega),rfl,q _ I.fresh⟩
theorem len_rep {α:Type} (xs:List α) (k:Nat):(List.replicate k xs).flatten.length=k * xs.length:=by
 induction k with
 | zero=>simp
 | succ k ih=>rw [List.replicate_succ,List.flatten_cons,List.length_append,ih,Nat.succ_mul,Nat.add_comm]
end
section
variable {prog:Program} {w:World} {A:Around} {E:Value→Shared→Prop} {s:Shared}
end
section
variable {X:Cx}
end
end L2
namespace Att
open PySem PySem.W PySem.Calls PyProof.Rows
theorem ints_of_wellAll {P:Params} {h:Heap}:∀ (ns:List Int) (vs:List Value),WellAll P h vs (ns.map WData.int)→IntsAre vs ns:=by
 intro ns
 induction ns with
 | nil =>
  intro vs w
  rw [List.map_nil] at w
  cases w
  exact .nil
 | cons n ns ih =>
  intro vs w
  rw [List.map_cons] at w
  cases w with
  | cons a b =>
   cases a
   exact .cons _ _ (ih _ b)
theorem script_of {l:OpenLaw} {n:Nat} (hn:l.most=some n) {P:Params} {h:Heap} {args:List WData} {vals:List Value}
  (hpre:l.row.toRowW.claim.pre args=true) (hwl:WellAll P h vals args) :
  ∃ a vs ns, vals = [Value.ref a] ∧ args = [WData.list (ns.map WData.int)] ∧ h.get? a = some { cls := .type "list", data := .seq vs.toArray } ∧ IntsAre vs ns ∧ ns.length ≤ n := by
 have hsh:WShape.hasAll [] args [.list .int]=true:=(pre_splitW hpre).1
 have hc:l.pre.holds [] { args:=args }=true:=(pre_splitW hpre).2
 obtain ⟨d,r,rfl,h1,h2⟩:=hasAllW_cons hsh
 obtain rfl:=hasAllW_nil h2
 obtain ⟨xs,rfl,h3⟩:=hasW_list h1
 obtain ⟨ns,rfl⟩:=items_int h3
 have hlen:ns.length≤n:=by
  unfold OpenLaw.pre at hc
  have h4:(WTm.not (.lt (.lit (.int (n:Int))) (.len (.arg 0)))).holds [] { args:=[.list (ns.map .int)] }=true:=by
   have h4:=(holds_andW hc).1
   rw [hn] at h4
   exact h4
  have h5:=condW_of h4 (w_not (w_lt w_lit (w_len_list (w_arg rfl))))
  rw [List.length_map] at h5
  refine Nat.le_of_not_lt fun q => ?_
  have q':(n:Int)<((ns.length:Nat):Int):=by omega
  first
   | (rw [decide_eq_true q'] at h5; exact absurd h5 (by decide))
   | (simp at h5; omega)
 cases hwl with
 | cons w1 w2 =>
  cases w2
  cases w1 with
  | list ho hall=>exact ⟨_,_,ns,rfl,rfl,ho,ints_of_wellAll ns _ hall,hlen⟩
theorem post_true (l:OpenLaw) (args:List WData):l.row.toRowW.claim.post args (.bool true) args=true :=
 postW_of (r:=l.row.toRowW) (X:=(true == true))
  (show WShape.has [] (.bool true) .bool=true by first | rfl | decide | simp [WShape.has,WShape.arms,WShape.armsAll])
  (show (WTm.eq .res (.lit (.bool true))).value [] { args:=args,res:=some (.bool true),after:=args }=some (.bool (true == true)) from w_eq_bool (w_res rfl) w_lit) rfl
theorem attach_call {l:OpenLaw} {n:Nat} {q:Program} {loose:List Str} {XP:(Str→Option Value)→Heap→Prop} {YP:World→Heap→Prop} {d:DefRec}
  (hn:l.most=some n) (hdf:d.params.defaults=[])
  (call:∀ (w:World) (s₀ s₁:Shared) (mg mb:Str→Option Value) (fa:Addr) (o:Obj) (pm cd doc:Value) (a:Addr) (vs:List Value) (ns:List Int),
   Ground q loose [] XP w s₀ mg mb s₁.heap→YP w s₁.heap →
   s₁.heap.get? fa=some o→o.data = .func (docDef d.name d.params d.body d.scope pm cd doc)→s₁.heap.CodeRec cd d.name→mg d.name=some (.ref fa) →
   s₁.heap.get? a = some { cls := .type "list", data := .seq vs.toArray } → IntsAre vs ns → ns.length ≤ n → s₁.gens = #[] →
   codeAny (model l.prog w) callerA (.call (.ref fa) ⟨[.ref a],[]⟩) (fun r s'=>r = .ok (.ret (.bool true))∧OldK s₁.heap s'.heap∧s'.os=s₁.os∧AllBare s'.gens) s₁) :
  WalkO q loose XP YP l.row.toRowW d [] (fun f vs=>PySem.call f vs):=by
 intro w s₀ s₁ mg mb G Y fa o pm cd doc dV kV ho hd hcd hD hmg hg args vals as hpre hlay hrd hwl hlo
 obtain rfl:dV = .none:=Dflts.none hD hdf
 obtain rfl:kV = .none:=Dflts.noKw hD
 obtain ⟨a,vs,ns,rfl,rfl,hobj,hints,hlen⟩:=script_of hn hpre hwl
 refine enter_call (codeAny_mono (call w s₀ s₁ mg mb fa o pm cd doc a vs ns G Y ho (fd_plain hd) hcd hmg hobj hints hlen hg) fun r s' hq => ?_)
 obtain ⟨rfl,h2,h3,h4⟩:=hq
 exact ⟨.inl ⟨.bool true,.bool true,[],rfl,fun _=>rfl,.bool true,post_true l _,fun _=>⟨List.Pairwise.nil,fun _ hm=>(nomatch hm)⟩⟩,h2,h3,h4⟩
section
variable {prog:Program} {w:World} {A:Around} {E:Value→Shared→Prop} {s:Shared} {K:Frag}
end
end Att
namespace L2
open PySem PySem.Spec PyProof.Rows
theorem vals_ints:∀ {vs:List Value} {ns:List Int},IntsAre vs ns→Vals (ns.map V.int) vs
 | _,_,.nil => .nil
 | _,_,.cons n t h => .cons ⟨t,rfl⟩ (vals_ints h)
noncomputable def Only (H:Hp):Prop:=∀ b,H b=none∨∃ o xs,H b=some (.frz o (.lst xs))
theorem law_call {P:Program} {w:World} {K:PySem.W.Frag} {mg mb:Str→Option Value} {CX:CXT} {k:Nat} {fa a:Addr} {fd:FuncData} {x:Str} {sp:Sp} {s₁:Shared} {vs:List Value} {ns:List Int}
  (KX : K.In s₁.heap) (hns : s₁.heap.Ns mainGlobals mg) (hb : s₁.heap.Ns builtinsNs mb) (hbb : ∀ x : Str, x ≠ "__name__" → mb x = bootBuiltins x) (hlim : s₁.heap.NoLimit) (hg : s₁.gens = #[])
  (ha : s₁.heap.get? a = some { cls := .type "list", data := .seq vs.toArray }) (hi : IntsAre vs ns) (hl : ns.length ≤ sizeLine) (hr : Room k callerA)
  (F:∀ base:Heap,K.In base→base.Ns mainGlobals mg→FnOk P w K mg base CX k fa fd [x] sp) (hbind:∀ (s:Shared) (u:Value),BindsTo s fd ⟨[u],[]⟩ [(x,u)])
  (hsp:∀ H:Hp,Only H→SqL K H a (ns.map V.int)→sp [.ref a] H (fun v _=>v = .bl true) fun _ _ _=>False)
  (hCX:∀ H e s',CX [] H s₁ (fun _ _ _=>False) e s'→False) :
  codeAny (model P w) callerA (.call (.ref fa) ⟨[.ref a],[]⟩) (fun r s'=>r = .ok (.ret (.bool true))∧OldK s₁.heap s'.heap∧s'.os=s₁.os∧AllBare s'.gens) s₁:=by
 have rv:=vals_ints hi
 have lenV:=hi.length
 have core:∀ H:Hp,Only H→SqL K H a (ns.map V.int)→HOk P w H s₁.heap→(∀ b,H b≠none→b=a)→(H a≠none→K.lookup a=none) →
   codeAny (model P w) callerA (.call (.ref fa) ⟨[.ref a],[]⟩) (fun r s'=>r = .ok (.ret (.bool true))∧OldK s₁.heap s'.heap∧s'.os=s₁.os∧AllBare s'.gens) s₁:=by
  intro H hO hS hok hA hK
  have base_of:∀ {b:Addr} {o:Obj},s₁.heap.get? b=some o→H b=none→(hidT s₁.heap H).get? b=some o:=fun e n=>hidT_get e n
  have noA:∀ {b:Addr} {o:Obj} {es:Array DictEntry} {ep:Nat},s₁.heap.get? b=some o→o.data = .dict es ep→H b=none:=fun {b o es ep} e d=>by
   cases q:H b with
   | none=>rfl
   | some u =>
    have e':b=a:=hA b (by rw [q]; simp)
    subst e'
    rw [ha] at e; cases e
    have d':Data.seq vs.toArray _=Data.dict es ep:=d
    cases d'
  have nsK:∀ {b:Addr} {m:Str→Option Value},s₁.heap.Ns b m→(hidT s₁.heap H).Ns b m:=fun {b m} ⟨o,es,ep,e,d,r⟩=>⟨o,es,ep,base_of e (noA e d),d,r⟩
  have hKb:K.In (hidT s₁.heap H):=fun b o e=>base_of (KX b o e) (by
   cases q:H b with
   | none=>rfl
   | some u =>
    have e':b=a:=hA b (by rw [q]; simp)
    subst e'
    rw [hK (by rw [q]; simp)] at e; cases e)
  have hM:Mod K mg (hidT s₁.heap H):=⟨hKb,nsK hns,⟨mb,nsK hb,hbb⟩,let ⟨mc,h1,h2⟩:=hlim; ⟨mc,nsK h1,h2⟩⟩
  have e0:Env0 P w K mg (hidT s₁.heap H) callerA [] s₁ H:=⟨rfl,hM,fun b o e=>of_hidT e,Nat.le_of_eq (hidT_size _ _),trivial,fun b hb=>absurd (show b∈([]:List Addr) from hb) (by simp),hok,.of_eq hg⟩
  refine codeAny_mono ((F _ hKb (nsK hns)).run callerA [] s₁ H ⟨[.ref a],[]⟩ [.ref a] [.ref a] _ _ hr e0 (hbind s₁ (.ref a)) (.cons rfl .nil) (hsp H hO hS)) fun r s' h => ?_
  cases r with
  | error e=>exact (hCX H e s' h).elim
  | ok fl =>
   cases fl with
   | next=>exact False.elim h
   | brk=>exact False.elim h
   | cont=>exact False.elim h
   | ret u =>
    obtain ⟨v,H',os,bare,un,hok',r',q⟩:=h
    have q':v = .bl true:=q
    subst q'
    obtain rfl:u=Value.bool true:=r'
    refine ⟨rfl,OldK.of_keep fun b o e => ?_,os,bare⟩
    cases q:H b with
    | none=>exact un.keep b o e q (by intro z; exact absurd (show b∈([]:List Addr) from z) (by simp)) (by simp)
    | some u =>
     rcases hO b with z | ⟨ob,xs,z⟩
     ·rw [q] at z; cases z
     ·have z2:=un.frzs b ob _ z
      obtain ⟨e1,_⟩:=hok b _ z
      obtain ⟨e2,_⟩:=hok' b _ z2
      rw [e] at e1; cases e1
      exact e2
 cases hk:K.lookup a with
 | some o =>
  have e:=KX a o hk
  rw [ha] at e
  cases e
  refine core (fun _=>none) (fun _ => .inl rfl) (.inr ⟨_,vs.toArray,_,hk,rfl,rfl,rfl,by rw [List.size_toArray,lenV]; exact hl,by simpa using rv⟩) (fun b u z=>by have z':(none:Option HO)=some u:=z; cases z') (fun b z=>absurd rfl z) fun z=>absurd rfl z
 | none =>
  refine core (fun b => if b = a then some (.frz { cls := .type "list", data := .seq vs.toArray } (.lst (ns.map V.int))) else none) (fun b => ?_) (.inl (.inr ⟨{ cls := .type "list", data := .seq vs.toArray }, if_pos rfl⟩)) (fun b u z => ?_) (fun b z => ?_) fun _ => hk
  ·by_cases hb:b=a
   ·exact .inr ⟨_,_,if_pos hb⟩
   ·exact .inl (if_neg hb)
  ·by_cases hb:b=a
   ·have z':=(if_pos hb).symm.trans z
    cases z'
    subst hb
    exact ⟨ha,by rw [List.length_map]; exact hl,vs,_,rv,ha⟩
   ·have z':=(if_neg hb).symm.trans z
    cases z'
  ·by_cases hb:b=a
   ·exact hb
   ·exact absurd (if_neg hb) z
end L2
namespace L2
open PySem PySem.Spec PyProof.Rows
theorem walk_of {l:PySem.W.OpenLaw} {n k:Nat} {q:Program} {loose:List Str} {XP:(Str→Option Value)→Heap→Prop} {YP:World→Heap→Prop} {d:DefRec} {K:Params→PySem.W.Frag} {CX:World→CXT} {sp:World→Sp} {x:Str}
  (hn:l.most=some n) (hn2:n≤sizeLine) (hdf:d.params.defaults=[]) (hr:Room k callerA)
  (hY:∀ (w:World) (h:Heap),YP w h→(K w.params).In h)
  (F:∀ (w:World) (mg:Str→Option Value) (fa:Addr) (h:Heap),(K w.params).In h→h.Ns mainGlobals mg→mg d.name=some (.ref fa) →
   ∃ fd:FuncData,(∀ (s:Shared) (u:Value),BindsTo s fd ⟨[u],[]⟩ [(x,u)]) ∧
    ∀ base:Heap,(K w.params).In base→base.Ns mainGlobals mg→FnOk l.prog w (K w.params) mg base (CX w) k fa fd [x] (sp w))
  (hsp:∀ (w:World) (H:Hp) (a:Addr) (ns:List Int),ns.length≤n→Only H→SqL (K w.params) H a (ns.map V.int)→sp w [.ref a] H (fun v _=>v = .bl true) fun _ _ _=>False)
  (hCX:∀ (w:World) (H:Hp) (s:Shared) (e:Value) (s':Shared),CX w [] H s (fun _ _ _=>False) e s'→False) :
  PySem.W.WalkO q loose XP YP l.row.toRowW d [] (fun f vs=>PySem.call f vs):=by
 refine Att.attach_call hn hdf fun w s₀ s₁ mg mb fa o pm cd doc a vs ns G Y ho hd hcd hmg hobj hints hlen hg => ?_
 have KX:=hY w _ Y
 obtain ⟨fd,hb,hF⟩:=F w mg fa _ KX G.T.g hmg
 exact law_call KX G.T.g G.T.b G.T.builtins G.T.nolimit hg hobj hints (Nat.le_trans hlen hn2) hr hF hb (fun H hO hS=>hsp w H a ns hlen hO hS) fun H e s'=>hCX w H s₁ e s'
end L2
/- THE LAST THEOREM (shape; LID, My.* are yours):
   My.Adr: a structure of the addresses that your layer names (classes,functions); My.Txt K t: a structure (Prop) of the equations over K;
   My.txt_mk : {K} {implicit addresses ..} (e1 : nsIn K mainGlobals "law" = some (some (.ref f))) (e2 : K.lookup f = some ⟨oc, od, .func (fnOf "law" "law" params body scope dV kV doc pm an cdv ct), sl⟩) (e3 : codeIn K cdv "law" = true) .. : ∃ t, My.Txt K t
set_option maxRecDepth 100000 in
set_option maxHeartbeats 0 in
theorem PySem.Challenge.cw_LID_holds : PySem.Challenge.rw_LID.Holds := by
 w_on; o_law; k_head; (case hw=>w_witness2)
 k_fill
 refine L2.walk_of (l := PySem.Challenge.rw_LID) (n := 63) (k := 40) (x := "script") (CX := fun w => ..) (sp := fun _ => My.sp_law) rfl (by decide) rfl ⟨rfl, by decide, by decide⟩ (fun w h Y => PySem.W.kIn_of Y) ?F ?S ?C
 case F =>
  intro w mg fa h KX G hmg
  have T:∃ t,My.Txt (L2.KOf KX) t:=by
   dsimp only [L2.KOf]                          -- K must stand as «<heap const> w.params» for k_is
   refine' My.txt_mk ?e1 ?e2 ?e3 ..
   (case e1 => PySem.W.k_is)                    -- in the order: a name -> its address -> its object -> its parts
   (case e2=>PySem.W.k_is)
   ..
  obtain ⟨t,T⟩:=T
  have e0:=hmg.symm.trans (PySem.W.mg_of KX G T.law)
  cases e0                                       -- fa is the law's own address
  exact ⟨_, fun s u => .of_eq rfl, fun base kb nb => My.law_fn T kb nb⟩     -- if «.of_eq rfl» comes too early: refine' ⟨_, ?b, fun base kb nb => My.law_fn T kb nb⟩; exact fun s u => .of_eq rfl
 case S=>exact fun w H a ns hl hO hS => ..
 case C=>exact ..
(the tactic k_is has no namespace: write k_is) -/
namespace L2
open PySem PySem.Spec PyProof.Rows
noncomputable def defArgs (s:Stmt):Arguments:=match s with
 | .FunctionDef _ a _ _ _ _ _ _ _ _=>a
 | _ => { posonlyargs:=[],args:=[],vararg:=none,kwonlyargs:=[],kw_defaults:=[],kwarg:=none,defaults:=[] }
noncomputable def defBody (s:Stmt):List Stmt:=match s with
 | .FunctionDef _ _ b _ _ _ _ _ _ _=>b
 | _=>[]
noncomputable def defScope (s:Stmt):Scope:=match s with
 | .FunctionDef _ _ _ _ _ _ sc _ _ _=>sc
 | _ => { kind:=.function,names:=[],isGenerator:=false,isCoroutine:=false }
noncomputable abbrev CX0:CXT:=fun _ _ _ _ _ _=>False
structure Fun (K:PySem.W.Frag) (x qual:Str) (st:Stmt) (f:Addr) (fd:FuncData):Prop where
 ex:∃ (oc:Value) (od:Option Addr) (kV doc pm:Value) (an:Option Addr) (cdv ct:Value) (osl:Array (Option Value)),
  fd=PySem.W.fnOf x qual (defArgs st) (defBody st) (defScope st) .none kV doc pm an cdv ct∧K.lookup f=some ⟨oc,od,.func fd,osl⟩∧PySem.W.codeIn K cdv qual=true
 kp:PySem.W.keepIn K (.ref f)=true
section
variable {P:Program} {w:World} {K:PySem.W.Frag} {mg:Str→Option Value} {base:Heap}
theorem Fun.ok {x qual:Str} {st:Stmt} {f:Addr} {fd:FuncData} {N ps:List Str} {k:Nat} {sp:Sp} (F:Fun K x qual st f fd) (S:FnScope N ps (defScope st)) (len:∀ vs H Q E,sp vs H Q E→vs.length=ps.length)
  (hbody:∀ (cdv:Value) (A:Around) (outer:List Env) (s:Shared) (H:Hp) (vs:List V) (Q:VK) (E:XK),Room k (A.deeper (envOfC qual (defScope st) s.heap.objs.size f cdv))→sp vs H Q E →
   ∃ t,PSs (cxOf CX0 P w K mg base N qual (defScope st) f cdv A outer s H E).nox (defBody st) t∧t { nx:=fun _ H'=>Q .non H',rt:=Q } (start N vs) H):FnOk P w K mg base CX0 (k+1) f fd ps sp:=by
 obtain ⟨oc,od,kV,doc,pm,an,cdv,ct,osl,rfl,lk,hcd⟩:=F.ex
 refine fn_of lk hcd S len fun A outer s H vs Q E hr hsp => ?_
 obtain ⟨t,h,q⟩:=hbody cdv A outer s H vs Q E hr hsp
 exact ⟨t,h.nox,q⟩
theorem Fun.binds {x qual:Str} {st:Stmt} {f:Addr} {fd:FuncData} {ps:List Str} (F:Fun K x qual st f fd)
  (h:∀ (kV doc pm:Value) (an:Option Addr) (cdv ct:Value) (us:List Value),us.length=ps.length→bindArgs (PySem.W.fnOf x qual (defArgs st) (defBody st) (defScope st) .none kV doc pm an cdv ct) ⟨us,[]⟩=pure (ps.zip us)):Binds K fd ps []:=by
 obtain ⟨oc,od,kV,doc,pm,an,cdv,ct,osl,rfl,lk,hcd⟩:=F.ex
 exact .all (h kV doc pm an cdv ct)
theorem fun_mk {x qual:Str} {st:Stmt} {f:Addr} {oc:Value} {od an:Option Addr} {osl:Array (Option Value)} {kV doc pm cdv ct:Value} (l:K.lookup f=some ⟨oc,od,.func (PySem.W.fnOf x qual (defArgs st) (defBody st) (defScope st) .none kV doc pm an cdv ct),osl⟩)
  (c:PySem.W.codeIn K cdv qual=true) (k:PySem.W.keepIn K (.ref f)=true):Fun K x qual st f (PySem.W.fnOf x qual (defArgs st) (defBody st) (defScope st) .none kV doc pm an cdv ct):=⟨⟨oc,od,kV,doc,pm,an,cdv,ct,osl,rfl,l,c⟩,k⟩
end
section
variable {X:Cx}
end
end L2
section
namespace DL
open PySem PySem.Spec PyProof.Rows L2
inductive D where
 | non | bl (b:Bool) | int (i:Int) | str (x:Str) | tup (xs:List D) | lst (xs:List D) | scr (xs:List D) | res (i:Nat) | exv (C:Addr)
inductive S where
 | lst (xs:List D)
 | ins (C:Addr) (fs:List (Str×D))
 | dct (kvs:List (D×D))
 | dtt (kvs:List (D×D))
 | fdc (kvs:List (D×D))
noncomputable abbrev Sto:=List S
noncomputable abbrev Ev:=List (Option D)
inductive Out (α:Type) where
 | ok (a:α) (st:Sto)
 | exc (c:Addr) (st:Sto)
 | bad
noncomputable def Out.bind {α β:Type} (r:Out α) (k:α→Sto→Out β):Out β:=match r with
 | .ok a st=>k a st
 | .exc c st => .exc c st
 | .bad => .bad
theorem nodup_at {α:Type} {l:List α} (hl:l.Nodup) {i j:Nat} {x:α} (a:l[i]?=some x) (b:l[j]?=some x):i=j:=by
 obtain ⟨h1,e1⟩:=List.getElem?_eq_some_iff.mp a
 obtain ⟨h2,e2⟩:=List.getElem?_eq_some_iff.mp b
 have hp:=List.pairwise_iff_getElem.mp hl
 rcases Nat.lt_trichotomy i j with h | h | h
 ·exact absurd (e1.trans e2.symm) (hp i j h1 h2 h)
 ·exact h
 ·exact absurd (e2.trans e1.symm) (hp j i h2 h1 h)
noncomputable def ExcO (a C:Addr):Heap→Prop:=fun h => ∃ o vs,h.get? a=some o∧o.cls = .ref C∧o.data = .fields vs
theorem ExcO.inj {a C C':Addr} {h:Heap} (x:ExcO a C h) (y:ExcO a C' h):C=C':=by
 obtain ⟨o,_,e,c,_⟩:=x
 obtain ⟨o',_,e',c',_⟩:=y
 rw [e] at e'
 cases e'
 rw [c] at c'
 exact Value.ref.inj c'
section
variable (K:PySem.W.Frag)
noncomputable def SqF (H:Hp) (a:Addr) (vs:List V):Prop :=
 (∃ o, H a = some (.frz o (.lst vs))) ∨ ∃ (o : Obj) (its : Array Value) (n : Nat), K.lookup a = some o ∧ o.cls = .type "list" ∧ o.dict = none ∧ o.data = .seq its n ∧ its.size ≤ sizeLine ∧ Vals vs its.toList
mutual
noncomputable def Rep (O:List Addr) (H:Hp):D→V→Prop
 | .non,v=>v = .non
 | .bl b,v=>v = .bl b
 | .int i,v=>v = .int i
 | .str x,v=>v = .str x
 | .tup ds,v => ∃ a vs,v = .ref a∧H a=some (.tup vs)∧Reps O H ds vs
 | .lst ds,v => ∃ a vs,v = .ref a∧a ∉ O∧H a=some (.lst vs)∧Reps O H ds vs
 | .scr ds,v => ∃ a vs,v = .ref a∧SqF K H a vs∧Reps O H ds vs
 | .res i,v => ∃ a,v = .ref a∧O[i]?=some a
 | .exv C,v => ∃ a,v = .ref a∧H a=some (.ext (ExcO a C))
noncomputable def Reps (O:List Addr) (H:Hp):List D→List V→Prop
 | [],vs=>vs=[]
 | d :: ds,vs => ∃ v r,vs=v :: r∧Rep O H d v∧Reps O H ds r
end
noncomputable def Flds (O:List Addr) (H:Hp):List (Str×D)→List (Str×V)→Prop
 | [],vs=>vs=[]
 | (x,d) :: ds,vs => ∃ v r,vs=(x,v) :: r∧Rep K O H d v∧Flds O H ds r
noncomputable def keyD:D→Option Key
 | .int i=>some (.inl i)
 | .str x=>some (.inr x)
 | _=>none
noncomputable def keyDs:List D→Option (List Key)
 | []=>some []
 | d :: ds=>match keyD d,keyDs ds with
  | some k,some ks=>some (k :: ks)
  | _,_=>none
noncomputable def keyT:D→Option (List Key)
 | .tup ds=>keyDs ds
 | _=>none
noncomputable def Kvs {κ:Type} (f:D→Option κ) (O:List Addr) (H:Hp):List (D×D)→List (κ×V)→Prop
 | [],vs=>vs=[]
 | (k,d) :: ds,vs => ∃ q v r,vs=(q,v) :: r∧f k=some q∧Rep K O H d v∧Kvs f O H ds r
noncomputable def RepS (O:List Addr) (H:Hp) (a:Addr):S→Prop
 | .dct ds => ∃ vs,H a=some (.dK vs)∧Kvs K keyD O H ds vs
 | .dtt ds => ∃ vs,H a=some (.dT vs)∧Kvs K keyT O H ds vs
 | .fdc ds => ∃ o vs,H a=some (.frz o (.dK vs))∧Kvs K keyD O H ds vs
 | .lst ds => ∃ vs,H a=some (.lst vs)∧Reps K O H ds vs
 | .ins C fs => ∃ dx vfs,H a=some (.ins C dx vfs)∧Flds K O H fs vfs
structure WR (O:List Addr) (H:Hp) (st:Sto):Prop where
 len:O.length=st.length
 nd:O.Nodup
 at_:∀ (i:Nat) (a:Addr) (s:S),O[i]?=some a→st[i]?=some s→RepS K O H a s
structure Keep (O:List Addr) (H:Hp) (O':List Addr) (H':Hp):Prop where
 tup:∀ a vs,H a=some (.tup vs)→H' a=some (.tup vs)
 lst:∀ a vs,a ∉ O→H a=some (.lst vs)→a ∉ O'∧H' a=some (.lst vs)
 frz:∀ a vs,SqF K H a vs→SqF K H' a vs
 pre:∀ (i:Nat) (a:Addr),O[i]?=some a→O'[i]?=some a
 exv:∀ a C,H a=some (.ext (ExcO a C))→H' a=some (.ext (ExcO a C))
end
section
variable {K:PySem.W.Frag} {O O1 O2 O':List Addr} {H H1 H2 H':Hp} {st st':Sto}
theorem SqF.sq {a:Addr} {vs:List V} (h:SqF K H a vs):SqL K H a vs:=by
 rcases h with ⟨o,h⟩ | h
 ·exact .inl (.inr ⟨o,h⟩)
 ·exact .inr h
theorem SqF.of {a:Addr} {vs:List V} (h:SqL K H a vs) (hn:H a≠some (.lst vs)):SqF K H a vs:=by
 rcases h with (h | ⟨o,h⟩) | h
 ·exact absurd h hn
 ·exact .inl ⟨o,h⟩
 ·exact .inr h
theorem Keep.refl:Keep K O H O H:=⟨fun _ _ h=>h,fun _ _ n h=>⟨n,h⟩,fun _ _ h=>h,fun _ _ h=>h,fun _ _ h=>h⟩
theorem Keep.trans (a:Keep K O H O1 H1) (b:Keep K O1 H1 O2 H2):Keep K O H O2 H2 :=
 ⟨fun x vs h=>b.tup x vs (a.tup x vs h),fun x vs n h=>let ⟨n1,h1⟩:=a.lst x vs n h; b.lst x vs n1 h1,fun x vs h=>b.frz x vs (a.frz x vs h),fun i x h=>b.pre i x (a.pre i x h),fun x C h=>b.exv x C (a.exv x C h)⟩
mutual
theorem Rep.mono (k:Keep K O H O' H'):∀ (d:D) (v:V),Rep K O H d v→Rep K O' H' d v
 | .non,_,h=>by unfold Rep at h ⊢; exact h
 | .bl _,_,h=>by unfold Rep at h ⊢; exact h
 | .int _,_,h=>by unfold Rep at h ⊢; exact h
 | .str _,_,h=>by unfold Rep at h ⊢; exact h
 | .tup ds,v,h=>by
  unfold Rep at h ⊢
  obtain ⟨a,vs,e,q,r⟩:=h
  exact ⟨a,vs,e,k.tup _ _ q,Reps.mono k ds vs r⟩
 | .lst ds,v,h=>by
  unfold Rep at h ⊢
  obtain ⟨a,vs,e,n,q,r⟩:=h
  exact ⟨a,vs,e,(k.lst _ _ n q).1,(k.lst _ _ n q).2,Reps.mono k ds vs r⟩
 | .scr ds,v,h=>by
  unfold Rep at h ⊢
  obtain ⟨a,vs,e,q,r⟩:=h
  exact ⟨a,vs,e,k.frz _ _ q,Reps.mono k ds vs r⟩
 | .res i,v,h=>by
  unfold Rep at h ⊢
  obtain ⟨a,e,q⟩:=h
  exact ⟨a,e,k.pre _ _ q⟩
 | .exv C,v,h=>by
  unfold Rep at h ⊢
  obtain ⟨a,e,q⟩:=h
  exact ⟨a,e,k.exv _ _ q⟩
theorem Reps.mono (k:Keep K O H O' H'):∀ (ds:List D) (vs:List V),Reps K O H ds vs→Reps K O' H' ds vs
 | [],_,h=>by unfold Reps at h ⊢; exact h
 | d :: ds,vs,h=>by
  unfold Reps at h ⊢
  obtain ⟨v,r,e,q,t⟩:=h
  exact ⟨v,r,e,Rep.mono k d v q,Reps.mono k ds r t⟩
end
theorem Kvs.mono {κ:Type} {f:D→Option κ} (k:Keep K O H O' H'):∀ (ds:List (D×D)) (vs:List (κ×V)),Kvs K f O H ds vs→Kvs K f O' H' ds vs
 | [],_,h=>by unfold Kvs at h ⊢; exact h
 | (x,d) :: ds,vs,h=>by
  unfold Kvs at h ⊢
  obtain ⟨q,v,r,e,z,y,t⟩:=h
  exact ⟨q,v,r,e,z,Rep.mono k d v y,Kvs.mono k ds r t⟩
theorem Flds.mono (k:Keep K O H O' H'):∀ (ds:List (Str×D)) (vs:List (Str×V)),Flds K O H ds vs→Flds K O' H' ds vs
 | [],_,h=>by unfold Flds at h ⊢; exact h
 | (x,d) :: ds,vs,h=>by
  unfold Flds at h ⊢
  obtain ⟨v,r,e,q,t⟩:=h
  exact ⟨v,r,e,Rep.mono k d v q,Flds.mono k ds r t⟩
theorem Rep.non_i {v:V}:Rep K O H .non v ↔ v = .non:=by unfold Rep; exact Iff.rfl
theorem Rep.bl_i {b:Bool} {v:V}:Rep K O H (.bl b) v ↔ v = .bl b:=by unfold Rep; exact Iff.rfl
theorem Rep.int_i {i:Int} {v:V}:Rep K O H (.int i) v ↔ v = .int i:=by unfold Rep; exact Iff.rfl
theorem Rep.str_i {x:Str} {v:V}:Rep K O H (.str x) v ↔ v = .str x:=by unfold Rep; exact Iff.rfl
theorem Rep.tup_i {ds:List D} {v:V}:Rep K O H (.tup ds) v ↔ ∃ a vs,v = .ref a∧H a=some (.tup vs)∧Reps K O H ds vs:=by unfold Rep; exact Iff.rfl
theorem Rep.lst_i {ds:List D} {v:V}:Rep K O H (.lst ds) v ↔ ∃ a vs,v = .ref a∧a ∉ O∧H a=some (.lst vs)∧Reps K O H ds vs:=by unfold Rep; exact Iff.rfl
theorem Rep.scr_i {ds:List D} {v:V}:Rep K O H (.scr ds) v ↔ ∃ a vs,v = .ref a∧SqF K H a vs∧Reps K O H ds vs:=by unfold Rep; exact Iff.rfl
theorem Rep.res_i {i:Nat} {v:V}:Rep K O H (.res i) v ↔ ∃ a,v = .ref a∧O[i]?=some a:=by unfold Rep; exact Iff.rfl
theorem Rep.exv_i {C:Addr} {v:V}:Rep K O H (.exv C) v ↔ ∃ a,v = .ref a∧H a=some (.ext (ExcO a C)):=by unfold Rep; exact Iff.rfl
theorem Reps.nil_i {vs:List V}:Reps K O H [] vs ↔ vs=[]:=by unfold Reps; exact Iff.rfl
theorem Reps.cons_i {d:D} {ds:List D} {vs:List V}:Reps K O H (d :: ds) vs ↔ ∃ v r,vs=v :: r∧Rep K O H d v∧Reps K O H ds r:=by
 constructor
 ·intro h; unfold Reps at h; exact h
 ·intro h; unfold Reps; exact h
theorem Reps.length:∀ {ds:List D} {vs:List V},Reps K O H ds vs→ds.length=vs.length
 | [],_,h=>by rw [Reps.nil_i] at h; subst h; rfl
 | d :: ds,vs,h=>by
  obtain ⟨v,r,rfl,_,t⟩:=Reps.cons_i.mp h
  rw [List.length_cons,List.length_cons,Reps.length t]
theorem Reps.get:∀ {ds:List D} {vs:List V} {i:Nat} {d:D},Reps K O H ds vs→ds[i]?=some d→∃ v,vs[i]?=some v∧Rep K O H d v
 | [],_,i,d,_,e=>by simp at e
 | x :: ds,vs,0,d,h,e=>by
  obtain ⟨v,r,rfl,q,_⟩:=Reps.cons_i.mp h
  simp at e; subst e
  exact ⟨v,rfl,q⟩
 | x :: ds,vs,i+1,d,h,e=>by
  obtain ⟨v,r,rfl,_,t⟩:=Reps.cons_i.mp h
  obtain ⟨u,e1,q⟩:=Reps.get (i:=i) (d:=d) t (by simpa using e)
  exact ⟨u,by simpa using e1,q⟩
theorem Reps.append:∀ {ds es:List D} {vs us:List V},Reps K O H ds vs→Reps K O H es us→Reps K O H (ds++es) (vs++us)
 | [],_,_,_,h,k=>by rw [Reps.nil_i] at h; subst h; exact k
 | d :: ds,es,vs,us,h,k=>by
  obtain ⟨v,r,rfl,q,t⟩:=Reps.cons_i.mp h
  exact Reps.cons_i.mpr ⟨v,r++us,rfl,q,Reps.append t k⟩
theorem Reps.take:∀ {ds:List D} {vs:List V} (n:Nat),Reps K O H ds vs→Reps K O H (ds.take n) (vs.take n)
 | ds,vs,0,_=>by rw [List.take_zero,List.take_zero]; exact Reps.nil_i.mpr rfl
 | [],vs,n+1,h=>by rw [Reps.nil_i] at h; subst h; exact Reps.nil_i.mpr rfl
 | d :: ds,vs,n+1,h=>by
  obtain ⟨v,r,rfl,q,t⟩:=Reps.cons_i.mp h
  exact Reps.cons_i.mpr ⟨v,r.take n,rfl,q,Reps.take n t⟩
theorem Reps.drop:∀ {ds:List D} {vs:List V} (n:Nat),Reps K O H ds vs→Reps K O H (ds.drop n) (vs.drop n)
 | ds,vs,0,h=>by rw [List.drop_zero,List.drop_zero]; exact h
 | [],vs,n+1,h=>by rw [Reps.nil_i] at h; subst h; exact Reps.nil_i.mpr rfl
 | d :: ds,vs,n+1,h=>by
  obtain ⟨v,r,rfl,q,t⟩:=Reps.cons_i.mp h
  exact Reps.drop n t
theorem Reps.set {d:D} {v:V} (q:Rep K O H d v):∀ {ds:List D} {vs:List V} (n:Nat),Reps K O H ds vs→Reps K O H (ds.set n d) (vs.set n v)
 | [],vs,n,h=>by rw [Reps.nil_i] at h; subst h; exact Reps.nil_i.mpr rfl
 | x :: ds,vs,0,h=>by
  obtain ⟨u,r,rfl,_,t⟩:=Reps.cons_i.mp h
  exact Reps.cons_i.mpr ⟨v,r,rfl,q,t⟩
 | x :: ds,vs,n+1,h=>by
  obtain ⟨u,r,rfl,q',t⟩:=Reps.cons_i.mp h
  exact Reps.cons_i.mpr ⟨u,r.set n v,rfl,q',Reps.set q n t⟩
theorem Reps.one {d:D} {v:V} (q:Rep K O H d v):Reps K O H [d] [v]:=Reps.cons_i.mpr ⟨v,[],rfl,q,Reps.nil_i.mpr rfl⟩
theorem Reps.rep {ds:List D} {vs:List V} (h:Reps K O H ds vs):∀ k:Nat,Reps K O H (List.replicate k ds).flatten (List.replicate k vs).flatten
 | 0=>by simp only [List.replicate_zero,List.flatten_nil]; exact Reps.nil_i.mpr rfl
 | k+1=>by simp only [List.replicate_succ,List.flatten_cons]; exact Reps.append h (Reps.rep h k)
noncomputable def isS:HO→Bool
 | .lst _=>true
 | .ins _ _ _=>true
 | .dK _=>true
 | .dT _=>true
 | .frz _ (.dK _)=>true
 | _=>false
theorem tup_upd {a p:Addr} {o:HO} {vs:List V} (h:H a=some (.tup vs)) (hp:H p=none∨∃ o,H p=some o∧isS o=true):upd H p o a=some (.tup vs):=by
 rw [upd_ne]
 ·exact h
 ·rintro rfl
  rcases hp with q | ⟨u,q,z⟩
  ·rw [q] at h; cases h
  ·rw [q] at h; cases h; cases z
theorem sqF_upd {a p:Addr} {o:HO} {vs:List V} (h:SqF K H a vs) (hp:H p=none∨∃ o,H p=some o∧isS o=true):SqF K (upd H p o) a vs:=by
 rcases h with ⟨ob,h⟩ | h
 ·refine .inl ⟨ob,?_⟩
  rw [upd_ne]
  ·exact h
  ·rintro rfl
   rcases hp with q | ⟨u,q,z⟩
   ·rw [q] at h; cases h
   ·rw [q] at h; cases h; cases z
 ·exact .inr h
theorem Keep.laid {p:Addr} {o:HO} (hp:H p=none):Keep K O H O (upd H p o) :=
 ⟨fun _ _ h=>tup_upd h (.inl hp),fun a vs n h=>⟨n,by rw [upd_ne (ne_of_none h hp)]; exact h⟩,fun _ _ h=>sqF_upd h (.inl hp),fun _ _ h=>h,fun a C h=>by rw [upd_ne (ne_of_none h hp)]; exact h⟩
theorem RepS.mono' (k:Keep K O H O' H') {a:Addr} (e:H' a=H a):∀ {s:S},RepS K O H a s→RepS K O' H' a s
 | .lst ds,h=>by
  obtain ⟨vs,q,r⟩:=h
  exact ⟨vs,by rw [e]; exact q,Reps.mono k _ _ r⟩
 | .ins C fs,h=>by
  obtain ⟨dx,vs,q,r⟩:=h
  exact ⟨dx,vs,by rw [e]; exact q,Flds.mono k _ _ r⟩
 | .dct ds,h=>by
  obtain ⟨vs,q,r⟩:=h
  exact ⟨vs,by rw [e]; exact q,Kvs.mono k _ _ r⟩
 | .dtt ds,h=>by
  obtain ⟨vs,q,r⟩:=h
  exact ⟨vs,by rw [e]; exact q,Kvs.mono k _ _ r⟩
 | .fdc ds,h=>by
  obtain ⟨o,vs,q,r⟩:=h
  exact ⟨o,vs,by rw [e]; exact q,Kvs.mono k _ _ r⟩
theorem RepS.some_of {a:Addr}:∀ {s:S},RepS K O H a s→∃ o,H a=some o∧isS o=true
 | .lst ds,⟨vs,q,_⟩=>⟨_,q,rfl⟩
 | .ins C fs,⟨dx,vs,q,_⟩=>⟨_,q,rfl⟩
 | .dct ds,⟨vs,q,_⟩=>⟨_,q,rfl⟩
 | .dtt ds,⟨vs,q,_⟩=>⟨_,q,rfl⟩
 | .fdc ds,⟨_,vs,q,_⟩=>⟨_,q,rfl⟩
theorem WR.some_of (W:WR K O H st) {i:Nat} {a:Addr} (h:O[i]?=some a):∃ o,H a=some o∧isS o=true:=by
 have hi:i<st.length:=by rw [← W.len]; exact (List.getElem?_eq_some_iff.mp h).1
 exact (W.at_ i a st[i] h (List.getElem?_eq_getElem hi)).some_of
theorem WR.ne (W:WR K O H st) {i:Nat} {a p:Addr} (h:O[i]?=some a) (hp:H p=none):a≠p:=by
 rintro rfl
 obtain ⟨_,q,_⟩:=W.some_of h
 rw [hp] at q
 cases q
theorem WR.laid (W:WR K O H st) {p:Addr} {o:HO} (hp:H p=none):WR K O (upd H p o) st :=
 ⟨W.len,W.nd,fun i a s h1 h2=>(W.at_ i a s h1 h2).mono' (Keep.laid hp) (by rw [upd_ne (W.ne h1 hp)])⟩
theorem Keep.push {p:Addr} {o:HO} (hp:H p=none):Keep K O H (O++[p]) (upd H p o) :=
 ⟨fun _ _ h=>tup_upd h (.inl hp),fun a vs n h=>⟨fun hm=>by
   rcases List.mem_append.mp hm with q | q
   ·exact n q
   ·rw [List.mem_singleton] at q; exact ne_of_none h hp q,by rw [upd_ne (ne_of_none h hp)]; exact h⟩,
  fun _ _ h=>sqF_upd h (.inl hp),fun i a h=>by rw [List.getElem?_append_left (List.getElem?_eq_some_iff.mp h).1]; exact h,fun a C h=>by rw [upd_ne (ne_of_none h hp)]; exact h⟩
theorem WR.push' (W:WR K O H st) {p:Addr} {o:HO} {s:S} (hp:H p=none) (hs:RepS K (O++[p]) (upd H p o) p s):WR K (O++[p]) (upd H p o) (st++[s]):=by
 refine ⟨by simp [W.len],?_,fun i a s' h1 h2 => ?_⟩
 ·refine List.nodup_append.mpr ⟨W.nd,by simp,fun a ha b hb => ?_⟩
  rw [List.mem_singleton] at hb
  subst hb
  obtain ⟨i,hi⟩:=List.mem_iff_getElem?.mp ha
  exact W.ne hi hp
 ·by_cases hi:i<O.length
  ·rw [List.getElem?_append_left hi] at h1
   rw [List.getElem?_append_left (by rw [← W.len]; exact hi)] at h2
   exact (W.at_ i a s' h1 h2).mono' (Keep.push hp) (by rw [upd_ne (W.ne h1 hp)])
  ·rw [List.getElem?_append_right (by omega)] at h1
   rw [List.getElem?_append_right (by rw [← W.len]; omega)] at h2
   rw [← W.len] at h2
   have e0:i - O.length=0:=by
    have:=(List.getElem?_eq_some_iff.mp h1).1
    simp at this
    omega
   rw [e0] at h1 h2
   simp at h1 h2
   subst h1 h2
   exact hs
theorem WR.push (W:WR K O H st) {p:Addr} {ds:List D} {vs:List V} (hp:H p=none) (r:Reps K O H ds vs):WR K (O++[p]) (upd H p (.lst vs)) (st++[.lst ds]) :=
 W.push' hp ⟨vs,upd_same,Reps.mono (Keep.push hp) _ _ r⟩
theorem rep_last {p:Addr} {st:Sto} (e:O.length=st.length):Rep K (O++[p]) H' (.res st.length) (.ref p):=by
 rw [Rep.res_i]
 exact ⟨p,rfl,by rw [← e,List.getElem?_append_right (Nat.le_refl _)]; simp⟩
theorem Keep.write (W:WR K O H st) {i:Nat} {a:Addr} {o:HO} (h:O[i]?=some a):Keep K O H O (upd H a o):=by
 have q:=W.some_of h
 refine ⟨fun _ _ z=>tup_upd z (.inr q),fun b vs n z=>⟨n,?_⟩,fun _ _ z=>sqF_upd z (.inr q),fun _ _ z=>z,fun b C z => ?_⟩
 ·rw [upd_ne]
  ·exact z
  ·rintro rfl
   exact n (List.mem_of_getElem? h)
 ·rw [upd_ne]
  ·exact z
  ·rintro rfl
   obtain ⟨_,q,y⟩:=q
   rw [z] at q
   cases q
   cases y
theorem WR.write (W:WR K O H st) {i:Nat} {a:Addr} {o:HO} {s:S} (h:O[i]?=some a) (hs:RepS K O (upd H a o) a s):WR K O (upd H a o) (st.set i s):=by
 refine ⟨by rw [List.length_set]; exact W.len,W.nd,fun j b s' h1 h2 => ?_⟩
 by_cases hj:i=j
 ·subst hj
  rw [h] at h1
  cases h1
  have hi:i<st.length:=by rw [← W.len]; exact (List.getElem?_eq_some_iff.mp h).1
  rw [List.getElem?_set_self hi] at h2
  cases h2
  exact hs
 ·rw [List.getElem?_set_ne hj] at h2
  refine (W.at_ j b s' h1 h2).mono' (Keep.write W h) ?_
  rw [upd_ne]
  rintro rfl
  exact hj (nodup_at W.nd h h1)
theorem WR.writeL (W:WR K O H st) {i:Nat} {a:Addr} {ds:List D} {vs:List V} (h:O[i]?=some a) (r:Reps K O H ds vs):WR K O (upd H a (.lst vs)) (st.set i (.lst ds)) :=
 W.write h ⟨vs,upd_same,Reps.mono (Keep.write W h) _ _ r⟩
noncomputable def seqL (st:Sto):D→Option (List D)
 | .lst xs=>some xs
 | .scr xs=>some xs
 | .res i=>match st[i]? with
  | some (.lst xs)=>some xs
  | _=>none
 | _=>none
noncomputable def ownL (st:Sto):D→Option (List D)
 | .lst xs=>some xs
 | .res i=>match st[i]? with
  | some (.lst xs)=>some xs
  | _=>none
 | _=>none
theorem rdO (W:WR K O H st) {d:D} {v:V} {ds:List D} (r:Rep K O H d v) (e:ownL st d=some ds):∃ a vs,v = .ref a∧H a=some (.lst vs)∧Reps K O H ds vs:=by
 cases d with
 | lst xs =>
  rw [Rep.lst_i] at r
  obtain ⟨a,vs,rfl,_,q,t⟩:=r
  simp only [ownL,Option.some.injEq] at e
  subst e
  exact ⟨a,vs,rfl,q,t⟩
 | res i =>
  rw [Rep.res_i] at r
  obtain ⟨a,rfl,q⟩:=r
  have hi:i<st.length:=by rw [← W.len]; exact (List.getElem?_eq_some_iff.mp q).1
  have z:=W.at_ i a st[i] q (List.getElem?_eq_getElem hi)
  simp only [ownL,List.getElem?_eq_getElem hi] at e
  cases hs:st[i] with
  | lst xs =>
   rw [hs] at e z
   simp only [Option.some.injEq] at e
   subst e
   obtain ⟨vs,z1,z2⟩:=z
   exact ⟨a,vs,rfl,z1,z2⟩
  | _=>rw [hs] at e; cases e
 | _=>cases e
theorem rdL (W:WR K O H st) {d:D} {v:V} {ds:List D} (r:Rep K O H d v) (e:seqL st d=some ds):∃ a vs,v = .ref a∧SqL K H a vs∧Reps K O H ds vs:=by
 cases d with
 | scr xs =>
  rw [Rep.scr_i] at r
  obtain ⟨a,vs,rfl,q,t⟩:=r
  simp only [seqL,Option.some.injEq] at e
  subst e
  exact ⟨a,vs,rfl,q.sq,t⟩
 | lst xs =>
  obtain ⟨a,vs,h1,h2,h3⟩:=rdO W r (show ownL st (.lst xs)=some ds from e)
  exact ⟨a,vs,h1,SqL.of h2,h3⟩
 | res i =>
  obtain ⟨a,vs,h1,h2,h3⟩:=rdO W r (show ownL st (.res i)=some ds from e)
  exact ⟨a,vs,h1,SqL.of h2,h3⟩
 | _=>cases e
section
variable {X:Cx} {pins:List (Addr×Obj)} {σ:L2.St} {s:Shared}
theorem K_none (I:Inv X pins σ H s) {a:Addr} {o:Obj} (h:X.K.lookup a=some o):H a=none:=(I.bs a o (I.ok.mod.kin a o h)).2
end
end
end DL
end
section
namespace DL
open PySem PySem.Spec PyProof.Rows L2
noncomputable def Ans (A:Around) (s:Shared) (u w:Value) (k:Bool):Prop:=SeqAt.EqAt A s u w k∧SeqAt.RcAt A s u w k∧SeqAt.RcNeAt A s u w (!k)
section
variable {A:Around} {s:Shared}
theorem eqc_non_non:Ans A s .none .none true:=⟨SeqAt.EqAt.same _,SeqAt.RcAt.none_none,SeqAt.RcNeAt.none_none⟩
theorem eqc_non_bl {b2:Bool}:Ans A s .none (.bool b2) false:=⟨SeqAt.EqAt.none_bool _,SeqAt.RcAt.none_bool _,SeqAt.RcNeAt.none_bool _⟩
theorem eqc_non_int {i2:Int} {t2:Tok}:Ans A s .none (.int i2 t2) false:=⟨SeqAt.EqAt.none_int _ _,SeqAt.RcAt.none_int _ _,SeqAt.RcNeAt.none_int _ _⟩
theorem eqc_non_str {x2:Str} {t2:Tok}:Ans A s .none (.str x2 t2) false:=⟨SeqAt.EqAt.none_str _ _,SeqAt.RcAt.none_str _ _,SeqAt.RcNeAt.none_str _ _⟩
theorem eqc_non_tup {a2:Addr} {its2:Array Value} (z2:s.heap.IsTuple a2 its2) (hu:A.units<cLine):Ans A s .none (.ref a2) false:=⟨SeqAt.EqAt.none_tuple z2 hu,SeqAt.RcAt.none_tuple z2 hu,SeqAt.RcNeAt.none_tuple z2 hu⟩
theorem eqc_non_lst {a2:Addr} {its2:Array Value} (z2:s.heap.IsList a2 its2) (hu:A.units<cLine):Ans A s .none (.ref a2) false:=⟨SeqAt.EqAt.none_list z2 hu,SeqAt.RcAt.none_list z2 hu,SeqAt.RcNeAt.none_list z2 hu⟩
theorem eqc_bl_non {b1:Bool}:Ans A s (.bool b1) .none false:=⟨SeqAt.EqAt.bool_none _,SeqAt.RcAt.bool_none _,SeqAt.RcNeAt.bool_none _⟩
theorem eqc_bl_bl {b1:Bool} {b2:Bool}:Ans A s (.bool b1) (.bool b2) (b1 == b2):=⟨SeqAt.EqAt.bool_bool _ _,SeqAt.RcAt.bool_bool _ _,SeqAt.RcNeAt.bool_bool _ _⟩
theorem eqc_bl_int {b1:Bool} {i2:Int} {t2:Tok}:Ans A s (.bool b1) (.int i2 t2) ((if b1 then 1 else 0) == i2):=⟨SeqAt.EqAt.bool_int _ _ _,SeqAt.RcAt.bool_int _ _ _,SeqAt.RcNeAt.bool_int _ _ _⟩
theorem eqc_bl_str {b1:Bool} {x2:Str} {t2:Tok}:Ans A s (.bool b1) (.str x2 t2) false:=⟨SeqAt.EqAt.bool_str _ _ _,SeqAt.RcAt.bool_str _ _ _,SeqAt.RcNeAt.bool_str _ _ _⟩
theorem eqc_bl_tup {b1:Bool} {a2:Addr} {its2:Array Value} (z2:s.heap.IsTuple a2 its2) (hu:A.units<cLine):Ans A s (.bool b1) (.ref a2) false:=⟨SeqAt.EqAt.bool_tuple _ z2 hu,SeqAt.RcAt.bool_tuple _ z2 hu,SeqAt.RcNeAt.bool_tuple _ z2 hu⟩
theorem eqc_bl_lst {b1:Bool} {a2:Addr} {its2:Array Value} (z2:s.heap.IsList a2 its2) (hu:A.units<cLine):Ans A s (.bool b1) (.ref a2) false:=⟨SeqAt.EqAt.bool_list _ z2 hu,SeqAt.RcAt.bool_list _ z2 hu,SeqAt.RcNeAt.bool_list _ z2 hu⟩
theorem eqc_int_non {i1:Int} {t1:Tok}:Ans A s (.int i1 t1) .none false:=⟨SeqAt.EqAt.int_none _ _,SeqAt.RcAt.int_none _ _,SeqAt.RcNeAt.int_none _ _⟩
theorem eqc_int_bl {i1:Int} {t1:Tok} {b2:Bool}:Ans A s (.int i1 t1) (.bool b2) (i1 == (if b2 then 1 else 0)):=⟨SeqAt.EqAt.int_bool _ _ _,SeqAt.RcAt.int_bool _ _ _,SeqAt.RcNeAt.int_bool _ _ _⟩
theorem eqc_int_int {i1:Int} {t1:Tok} {i2:Int} {t2:Tok}:Ans A s (.int i1 t1) (.int i2 t2) (i1 == i2):=⟨SeqAt.EqAt.int_int _ _ _ _,SeqAt.RcAt.int_int _ _ _ _,SeqAt.RcNeAt.int_int _ _ _ _⟩
theorem eqc_int_str {i1:Int} {t1:Tok} {x2:Str} {t2:Tok}:Ans A s (.int i1 t1) (.str x2 t2) false:=⟨SeqAt.EqAt.int_str _ _ _ _,SeqAt.RcAt.int_str _ _ _ _,SeqAt.RcNeAt.int_str _ _ _ _⟩
theorem eqc_int_tup {i1:Int} {t1:Tok} {a2:Addr} {its2:Array Value} (z2:s.heap.IsTuple a2 its2) (hu:A.units<cLine):Ans A s (.int i1 t1) (.ref a2) false:=⟨SeqAt.EqAt.int_tuple _ _ z2 hu,SeqAt.RcAt.int_tuple _ _ z2 hu,SeqAt.RcNeAt.int_tuple _ _ z2 hu⟩
theorem eqc_int_lst {i1:Int} {t1:Tok} {a2:Addr} {its2:Array Value} (z2:s.heap.IsList a2 its2) (hu:A.units<cLine):Ans A s (.int i1 t1) (.ref a2) false:=⟨SeqAt.EqAt.int_list _ _ z2 hu,SeqAt.RcAt.int_list _ _ z2 hu,SeqAt.RcNeAt.int_list _ _ z2 hu⟩
theorem eqc_str_non {x1:Str} {t1:Tok}:Ans A s (.str x1 t1) .none false:=⟨SeqAt.EqAt.str_none _ _,SeqAt.RcAt.str_none _ _,SeqAt.RcNeAt.str_none _ _⟩
theorem eqc_str_bl {x1:Str} {t1:Tok} {b2:Bool}:Ans A s (.str x1 t1) (.bool b2) false:=⟨SeqAt.EqAt.str_bool _ _ _,SeqAt.RcAt.str_bool _ _ _,SeqAt.RcNeAt.str_bool _ _ _⟩
theorem eqc_str_int {x1:Str} {t1:Tok} {i2:Int} {t2:Tok}:Ans A s (.str x1 t1) (.int i2 t2) false:=⟨SeqAt.EqAt.str_int _ _ _ _,SeqAt.RcAt.str_int _ _ _ _,SeqAt.RcNeAt.str_int _ _ _ _⟩
theorem eqc_str_str {x1:Str} {t1:Tok} {x2:Str} {t2:Tok}:Ans A s (.str x1 t1) (.str x2 t2) (x1 == x2):=⟨SeqAt.EqAt.str_str _ _ _ _,SeqAt.RcAt.str_str _ _ _ _,SeqAt.RcNeAt.str_str _ _ _ _⟩
theorem eqc_str_tup {x1:Str} {t1:Tok} {a2:Addr} {its2:Array Value} (z2:s.heap.IsTuple a2 its2) (hu:A.units<cLine):Ans A s (.str x1 t1) (.ref a2) false:=⟨SeqAt.EqAt.str_tuple _ _ z2 hu,SeqAt.RcAt.str_tuple _ _ z2 hu,SeqAt.RcNeAt.str_tuple _ _ z2 hu⟩
theorem eqc_str_lst {x1:Str} {t1:Tok} {a2:Addr} {its2:Array Value} (z2:s.heap.IsList a2 its2) (hu:A.units<cLine):Ans A s (.str x1 t1) (.ref a2) false:=⟨SeqAt.EqAt.str_list _ _ z2 hu,SeqAt.RcAt.str_list _ _ z2 hu,SeqAt.RcNeAt.str_list _ _ z2 hu⟩
theorem eqc_tup_non {a1:Addr} {its1:Array Value} (z1:s.heap.IsTuple a1 its1) (hu:A.units<cLine):Ans A s (.ref a1) .none false:=⟨SeqAt.EqAt.tuple_none z1 hu,SeqAt.RcAt.tuple_none z1 hu,SeqAt.RcNeAt.tuple_none z1 hu⟩
theorem eqc_tup_bl {a1:Addr} {its1:Array Value} (z1:s.heap.IsTuple a1 its1) {b2:Bool} (hu:A.units<cLine):Ans A s (.ref a1) (.bool b2) false:=⟨SeqAt.EqAt.tuple_bool _ z1 hu,SeqAt.RcAt.tuple_bool _ z1 hu,SeqAt.RcNeAt.tuple_bool _ z1 hu⟩
theorem eqc_tup_int {a1:Addr} {its1:Array Value} (z1:s.heap.IsTuple a1 its1) {i2:Int} {t2:Tok} (hu:A.units<cLine):Ans A s (.ref a1) (.int i2 t2) false:=⟨SeqAt.EqAt.tuple_int _ _ z1 hu,SeqAt.RcAt.tuple_int _ _ z1 hu,SeqAt.RcNeAt.tuple_int _ _ z1 hu⟩
theorem eqc_tup_str {a1:Addr} {its1:Array Value} (z1:s.heap.IsTuple a1 its1) {x2:Str} {t2:Tok} (hu:A.units<cLine):Ans A s (.ref a1) (.str x2 t2) false:=⟨SeqAt.EqAt.tuple_str _ _ z1 hu,SeqAt.RcAt.tuple_str _ _ z1 hu,SeqAt.RcNeAt.tuple_str _ _ z1 hu⟩
theorem eqc_tup_lst {a1:Addr} {its1:Array Value} (z1:s.heap.IsTuple a1 its1) {a2:Addr} {its2:Array Value} (z2:s.heap.IsList a2 its2) (hu:A.units<cLine):Ans A s (.ref a1) (.ref a2) false:=⟨SeqAt.EqAt.tuple_list z1 z2 hu,SeqAt.RcAt.tuple_list z1 z2 hu,SeqAt.RcNeAt.tuple_list z1 z2 hu⟩
theorem eqc_lst_non {a1:Addr} {its1:Array Value} (z1:s.heap.IsList a1 its1) (hu:A.units<cLine):Ans A s (.ref a1) .none false:=⟨SeqAt.EqAt.list_none z1 hu,SeqAt.RcAt.list_none z1 hu,SeqAt.RcNeAt.list_none z1 hu⟩
theorem eqc_lst_bl {a1:Addr} {its1:Array Value} (z1:s.heap.IsList a1 its1) {b2:Bool} (hu:A.units<cLine):Ans A s (.ref a1) (.bool b2) false:=⟨SeqAt.EqAt.list_bool _ z1 hu,SeqAt.RcAt.list_bool _ z1 hu,SeqAt.RcNeAt.list_bool _ z1 hu⟩
theorem eqc_lst_int {a1:Addr} {its1:Array Value} (z1:s.heap.IsList a1 its1) {i2:Int} {t2:Tok} (hu:A.units<cLine):Ans A s (.ref a1) (.int i2 t2) false:=⟨SeqAt.EqAt.list_int _ _ z1 hu,SeqAt.RcAt.list_int _ _ z1 hu,SeqAt.RcNeAt.list_int _ _ z1 hu⟩
theorem eqc_lst_str {a1:Addr} {its1:Array Value} (z1:s.heap.IsList a1 its1) {x2:Str} {t2:Tok} (hu:A.units<cLine):Ans A s (.ref a1) (.str x2 t2) false:=⟨SeqAt.EqAt.list_str _ _ z1 hu,SeqAt.RcAt.list_str _ _ z1 hu,SeqAt.RcNeAt.list_str _ _ z1 hu⟩
theorem eqc_lst_tup {a1:Addr} {its1:Array Value} (z1:s.heap.IsList a1 its1) {a2:Addr} {its2:Array Value} (z2:s.heap.IsTuple a2 its2) (hu:A.units<cLine):Ans A s (.ref a1) (.ref a2) false:=⟨SeqAt.EqAt.list_tuple z1 z2 hu,SeqAt.RcAt.list_tuple z1 z2 hu,SeqAt.RcNeAt.list_tuple z1 z2 hu⟩
end
inductive Kd where
 | non | bl (b:Bool) | int (i:Int) | str (x:Str) | tup (xs:List D) | lst (xs:List D) | no
noncomputable def kd (st:Sto):D→Kd
 | .non => .non
 | .bl b => .bl b
 | .int i => .int i
 | .str x => .str x
 | .tup xs => .tup xs
 | .lst xs => .lst xs
 | .scr xs => .lst xs
 | .res i=>match st[i]? with
  | some (.lst xs) => .lst xs
  | _ => .no
 | .exv _ => .no
noncomputable def eqItems (f:D→D→Option Bool):List D→List D→Option Bool
 | [],[]=>some true
 | [],_ :: _=>some false
 | _ :: _,[]=>some false
 | x :: xs,y :: ys=>match f x y,eqItems f xs ys with
  | some a,some b=>some (a && b)
  | _,_=>none
noncomputable def eqN (st:Sto):Nat→D→D→Option Bool
 | 0,_,_=>none
 | n+1,a,b=>match kd st a,kd st b with
  | .tup xs,.tup ys=>eqItems (eqN st n) xs ys
  | .lst xs,.lst ys=>eqItems (eqN st n) xs ys
  | .non,.non=>some true
  | .bl x,.bl y=>some (x == y)
  | .int x,.int y=>some (x == y)
  | .str x,.str y=>some (x == y)
  | .bl x,.int y=>some ((if x then 1 else 0) == y)
  | .int x,.bl y=>some (x == (if y then 1 else 0))
  | .no,_=>none
  | _,.no=>none
  | _,_=>some false
section
variable {X:Cx} {pins:List (Addr×Obj)} {σ:L2.St} {s:Shared} {O:List Addr} {H:Hp} {st:Sto}
theorem sqT_lst (I:Inv X pins σ H s) {a:Addr} {vs xs:List V} (h:SqT X.K H a vs) (q:H a=some (.lst xs)):False:=by
 rcases h with (h | ⟨ob,h⟩) | ⟨o,_,_,h,_⟩
 ·rw [h] at q; cases q
 ·rw [h] at q; cases q
 ·rw [K_none I h] at q; cases q
theorem sqF_lst (I:Inv X pins σ H s) {a:Addr} {vs xs:List V} (h:SqF X.K H a vs) (q:H a=some (.lst xs)):False:=by
 rcases h with ⟨ob,h⟩ | ⟨o,_,_,h,_⟩
 ·rw [h] at q; cases q
 ·rw [K_none I h] at q; cases q
theorem sqT_sqF (I:Inv X pins σ H s) {a:Addr} {vs xs:List V} (h:SqT X.K H a vs) (q:SqF X.K H a xs):False:=by
 rcases h with (h | ⟨ob,h⟩) | ⟨o,_,_,h,c,_⟩ <;> rcases q with ⟨ob',q⟩ | ⟨o',_,_,q,c',_⟩
 ·rw [h] at q; cases q
 ·rw [K_none I q] at h; cases h
 ·rw [h] at q; cases q
 ·rw [K_none I q] at h; cases h
 ·rw [K_none I h] at q; cases q
 ·rw [h] at q; cases q; rw [c] at c'; exact absurd (Value.type.inj c') (by decide)
theorem sqT_S (I:Inv X pins σ H s) {a:Addr} {vs:List V} {o:HO} (h:SqT X.K H a vs) (q:H a=some o) (z:isS o=true):False:=by
 rcases h with (h | ⟨ob,h⟩) | ⟨_,_,_,h,_⟩
 ·rw [h] at q; cases q; cases z
 ·rw [h] at q; cases q; cases z
 ·rw [K_none I h] at q; cases q
theorem sqF_S (I:Inv X pins σ H s) {a:Addr} {vs:List V} {o:HO} (h:SqF X.K H a vs) (q:H a=some o) (z:isS o=true):False:=by
 rcases h with ⟨ob,h⟩ | ⟨_,_,_,h,_⟩
 ·rw [h] at q; cases q; cases z
 ·rw [K_none I h] at q; cases q
theorem sqT_ext (I:Inv X pins σ H s) {a:Addr} {vs:List V} {φ:Heap→Prop} (h:SqT X.K H a vs) (q:H a=some (.ext φ)):False:=by
 rcases h with (h | ⟨ob,h⟩) | ⟨_,_,_,h,_⟩
 ·rw [h] at q; cases q
 ·rw [h] at q; cases q
 ·rw [K_none I h] at q; cases q
theorem sqF_ext (I:Inv X pins σ H s) {a:Addr} {vs:List V} {φ:Heap→Prop} (h:SqF X.K H a vs) (q:H a=some (.ext φ)):False:=by
 rcases h with ⟨ob,h⟩ | ⟨_,_,_,h,_⟩
 ·rw [h] at q; cases q
 ·rw [K_none I h] at q; cases q
theorem res_T (I:Inv X pins σ H s) (W:WR X.K O H st) {i:Nat} {a:Addr} {vs:List V} (h:O[i]?=some a) (q:SqT X.K H a vs):False:=by
 obtain ⟨o,z,y⟩:=W.some_of h
 exact sqT_S I q z y
theorem res_F (I:Inv X pins σ H s) (W:WR X.K O H st) {i:Nat} {a:Addr} {vs:List V} (h:O[i]?=some a) (q:SqF X.K H a vs):False:=by
 obtain ⟨o,z,y⟩:=W.some_of h
 exact sqF_S I q z y
theorem res_ext (W:WR X.K O H st) {i:Nat} {a:Addr} {φ:Heap→Prop} (h:O[i]?=some a) (q:H a=some (.ext φ)):False:=by
 obtain ⟨o,z,y⟩:=W.some_of h
 rw [q] at z
 cases z
 cases y
mutual
theorem Rep.inj (I:Inv X pins σ H s) (W:WR X.K O H st):∀ (d d':D) (v:V),Rep X.K O H d v→Rep X.K O H d' v→d=d'
 | .non,d',v,h,h'=>by
  rw [Rep.non_i] at h; subst h
  cases d' <;> unfold Rep at h' <;> first | rfl | (cases h'; done) | (obtain ⟨_,_,e,_⟩:=h'; cases e) | (obtain ⟨_,e,_⟩:=h'; cases e)
 | .bl b,d',v,h,h'=>by
  rw [Rep.bl_i] at h; subst h
  cases d' <;> unfold Rep at h' <;> first | (cases h'; rfl) | (cases h'; done) | (obtain ⟨_,_,e,_⟩:=h'; cases e) | (obtain ⟨_,e,_⟩:=h'; cases e)
 | .int b,d',v,h,h'=>by
  rw [Rep.int_i] at h; subst h
  cases d' <;> unfold Rep at h' <;> first | (cases h'; rfl) | (cases h'; done) | (obtain ⟨_,_,e,_⟩:=h'; cases e) | (obtain ⟨_,e,_⟩:=h'; cases e)
 | .str b,d',v,h,h'=>by
  rw [Rep.str_i] at h; subst h
  cases d' <;> unfold Rep at h' <;> first | (cases h'; rfl) | (cases h'; done) | (obtain ⟨_,_,e,_⟩:=h'; cases e) | (obtain ⟨_,e,_⟩:=h'; cases e)
 | .tup ds,d',v,h,h'=>by
  rw [Rep.tup_i] at h
  obtain ⟨a,vs,rfl,q,r⟩:=h
  cases d' with
  | tup ds' =>
   rw [Rep.tup_i] at h'
   obtain ⟨a',vs',e,q',r'⟩:=h'
   cases e
   have ev:vs=vs':=I.tuple_inj (SqT.of q) (SqT.of q')
   subst ev
   rw [Reps.inj I W ds ds' vs r r']
  | lst ds'=>rw [Rep.lst_i] at h'; obtain ⟨a',vs',e,_,q',_⟩:=h'; cases e; exact (sqT_lst I (SqT.of q) q').elim
  | scr ds'=>rw [Rep.scr_i] at h'; obtain ⟨a',vs',e,q',_⟩:=h'; cases e; exact (sqT_sqF I (SqT.of q) q').elim
  | res i=>rw [Rep.res_i] at h'; obtain ⟨a',e,q'⟩:=h'; cases e; exact (res_T I W q' (SqT.of q)).elim
  | exv C=>rw [Rep.exv_i] at h'; obtain ⟨a',e,q'⟩:=h'; cases e; exact (sqT_ext I (SqT.of q) q').elim
  | _=>unfold Rep at h'; cases h'
 | .lst ds,d',v,h,h'=>by
  rw [Rep.lst_i] at h
  obtain ⟨a,vs,rfl,n,q,r⟩:=h
  cases d' with
  | tup ds'=>rw [Rep.tup_i] at h'; obtain ⟨a',vs',e,q',_⟩:=h'; cases e; exact (sqT_lst I (SqT.of q') q).elim
  | lst ds' =>
   rw [Rep.lst_i] at h'
   obtain ⟨a',vs',e,_,q',r'⟩:=h'
   cases e
   rw [q] at q'
   cases q'
   rw [Reps.inj I W ds ds' vs r r']
  | scr ds'=>rw [Rep.scr_i] at h'; obtain ⟨a',vs',e,q',_⟩:=h'; cases e; exact (sqF_lst I q' q).elim
  | res i=>rw [Rep.res_i] at h'; obtain ⟨a',e,q'⟩:=h'; cases e; exact (n (List.mem_of_getElem? q')).elim
  | exv C=>rw [Rep.exv_i] at h'; obtain ⟨a',e,q'⟩:=h'; cases e; rw [q] at q'; cases q'
  | _=>unfold Rep at h'; cases h'
 | .scr ds,d',v,h,h'=>by
  rw [Rep.scr_i] at h
  obtain ⟨a,vs,rfl,q,r⟩:=h
  cases d' with
  | tup ds'=>rw [Rep.tup_i] at h'; obtain ⟨a',vs',e,q',_⟩:=h'; cases e; exact (sqT_sqF I (SqT.of q') q).elim
  | lst ds'=>rw [Rep.lst_i] at h'; obtain ⟨a',vs',e,_,q',_⟩:=h'; cases e; exact (sqF_lst I q q').elim
  | scr ds' =>
   rw [Rep.scr_i] at h'
   obtain ⟨a',vs',e,q',r'⟩:=h'
   cases e
   have ev:vs=vs':=I.list_inj q.sq q'.sq
   subst ev
   rw [Reps.inj I W ds ds' vs r r']
  | res i=>rw [Rep.res_i] at h'; obtain ⟨a',e,q'⟩:=h'; cases e; exact (res_F I W q' q).elim
  | exv C=>rw [Rep.exv_i] at h'; obtain ⟨a',e,q'⟩:=h'; cases e; exact (sqF_ext I q q').elim
  | _=>unfold Rep at h'; cases h'
 | .res i,d',v,h,h'=>by
  rw [Rep.res_i] at h
  obtain ⟨a,rfl,q⟩:=h
  cases d' with
  | tup ds'=>rw [Rep.tup_i] at h'; obtain ⟨a',vs',e,q',_⟩:=h'; cases e; exact (res_T I W q (SqT.of q')).elim
  | lst ds'=>rw [Rep.lst_i] at h'; obtain ⟨a',vs',e,n,_,_⟩:=h'; cases e; exact (n (List.mem_of_getElem? q)).elim
  | scr ds'=>rw [Rep.scr_i] at h'; obtain ⟨a',vs',e,q',_⟩:=h'; cases e; exact (res_F I W q q').elim
  | res j =>
   rw [Rep.res_i] at h'
   obtain ⟨a',e,q'⟩:=h'
   cases e
   rw [nodup_at W.nd q q']
  | exv C=>rw [Rep.exv_i] at h'; obtain ⟨a',e,q'⟩:=h'; cases e; exact (res_ext W q q').elim
  | _=>unfold Rep at h'; cases h'
 | .exv C,d',v,h,h'=>by
  rw [Rep.exv_i] at h
  obtain ⟨a,rfl,q⟩:=h
  cases d' with
  | tup ds'=>rw [Rep.tup_i] at h'; obtain ⟨a',vs',e,q',_⟩:=h'; cases e; exact (sqT_ext I (SqT.of q') q).elim
  | lst ds'=>rw [Rep.lst_i] at h'; obtain ⟨a',vs',e,n,q',_⟩:=h'; cases e; rw [q] at q'; cases q'
  | scr ds'=>rw [Rep.scr_i] at h'; obtain ⟨a',vs',e,q',_⟩:=h'; cases e; exact (sqF_ext I q' q).elim
  | res j=>rw [Rep.res_i] at h'; obtain ⟨a',e,q'⟩:=h'; cases e; exact (res_ext W q' q).elim
  | exv C' =>
   rw [Rep.exv_i] at h'
   obtain ⟨a',e,q'⟩:=h'
   cases e
   rw [(I.hok _ _ q).1.inj (I.hok _ _ q').1]
  | _=>unfold Rep at h'; cases h'
theorem Reps.inj (I:Inv X pins σ H s) (W:WR X.K O H st):∀ (ds ds':List D) (vs:List V),Reps X.K O H ds vs→Reps X.K O H ds' vs→ds=ds'
 | [],ds',vs,h,h'=>by
  rw [Reps.nil_i] at h; subst h
  cases ds' with
  | nil=>rfl
  | cons d r=>obtain ⟨_,_,e,_⟩:=Reps.cons_i.mp h'; cases e
 | d :: ds,ds',vs,h,h'=>by
  obtain ⟨v,r,rfl,q,t⟩:=Reps.cons_i.mp h
  cases ds' with
  | nil=>rw [Reps.nil_i] at h'; cases h'
  | cons d' r' =>
   obtain ⟨v',r2,e,q',t'⟩:=Reps.cons_i.mp h'
   cases e
   rw [Rep.inj I W d d' v q q',Reps.inj I W ds r' r t t']
end
theorem eqItems_refl {f:D→D→Option Bool} (hf:∀ d k,f d d=some k→k=true):∀ (xs:List D) (k:Bool),eqItems f xs xs=some k→k=true
 | [],k,h=>by simp only [eqItems,Option.some.injEq] at h; exact h.symm
 | x :: xs,k,h=>by
  unfold eqItems at h
  cases e1:f x x with
  | none=>rw [e1] at h; cases h
  | some a =>
   cases e2:eqItems f xs xs with
   | none=>rw [e1,e2] at h; cases h
   | some b =>
    rw [e1,e2] at h
    simp only [Option.some.injEq] at h
    rw [← h,hf x a e1,eqItems_refl hf xs b e2]
    rfl
theorem eqN_refl:∀ (n:Nat) (d:D) (k:Bool),eqN st n d d=some k→k=true
 | 0,d,k,h=>by cases h
 | n+1,d,k,h=>by
  unfold eqN at h
  cases e:kd st d <;> rw [e] at h <;> simp only [beq_self_eq_true,Option.some.injEq] at h
  case tup xs=>exact eqItems_refl (eqN_refl n) xs k h
  case lst xs=>exact eqItems_refl (eqN_refl n) xs k h
  case no=>cases h
  all_goals exact h.symm
theorem eqItems_len {f:D→D→Option Bool}:∀ (xs ys:List D) (k:Bool),eqItems f xs ys=some k →
  (∀ (j:Nat) (x y:D),xs[j]?=some x→ys[j]?=some y→∃ kj,f x y=some kj) ∧
  k=((List.range (min xs.length ys.length)).all (fun j=>((xs[j]?.bind fun x=>ys[j]?.bind fun y=>f x y).getD false)) && xs.length == ys.length)
 | [],[],k,h=>by
  simp only [eqItems,Option.some.injEq] at h
  subst h
  exact ⟨fun j x y e=>by simp at e,rfl⟩
 | [],y :: ys,k,h=>by
  simp only [eqItems,Option.some.injEq] at h
  subst h
  exact ⟨fun j x y e=>by simp at e,by simp⟩
 | x :: xs,[],k,h=>by
  simp only [eqItems,Option.some.injEq] at h
  subst h
  exact ⟨fun j x y _ e=>by simp at e,by simp⟩
 | x :: xs,y :: ys,k,h=>by
  unfold eqItems at h
  cases e1:f x y with
  | none=>rw [e1] at h; cases h
  | some a =>
   cases e2:eqItems f xs ys with
   | none=>rw [e1,e2] at h; cases h
   | some b =>
    rw [e1,e2] at h
    simp only [Option.some.injEq] at h
    obtain ⟨h1,h2⟩:=eqItems_len xs ys b e2
    refine ⟨fun j u w eu ew => ?_,?_⟩
    ·cases j with
     | zero=>simp at eu ew; subst eu ew; exact ⟨a,e1⟩
     | succ j=>exact h1 j u w (by simpa using eu) (by simpa using ew)
    ·rw [← h,h2]
     have em:min (x :: xs).length (y :: ys).length=min xs.length ys.length+1:=by simp only [List.length_cons]; omega
     rw [em,List.range_succ_eq_map]
     simp only [List.all_cons,List.all_map,List.getElem?_cons_zero,Option.bind_some,e1,Option.getD_some,List.length_cons,Function.comp_def,List.getElem?_cons_succ,Nat.succ_eq_add_one,Bool.and_assoc]
     congr 2
     by_cases hl:xs.length=ys.length
     ·simp [hl]
     ·have:¬ (xs.length+1=ys.length+1):=by omega
      simp [hl]
noncomputable def KdV (K:PySem.W.Frag) (O:List Addr) (H:Hp) (s:Shared):Kd→Value→Prop
 | .non,u=>u = .none
 | .bl b,u=>u = .bool b
 | .int i,u => ∃ t,u = .int i t
 | .str x,u => ∃ t,u = .str x t
 | .tup xs,u => ∃ a vs its,u = .ref a∧Reps K O H xs vs∧Vals vs its∧s.heap.IsTuple a its.toArray
 | .lst xs,u => ∃ a vs its,u = .ref a∧Reps K O H xs vs∧Vals vs its∧s.heap.IsList a its.toArray
 | .no,_=>True
theorem kdV_lst (I:Inv X pins σ H s) (W:WR X.K O H st) {d:D} {v:V} {u:Value} {xs:List D} (r:Rep X.K O H d v) (q:RelV v u) (e:seqL st d=some xs):KdV X.K O H s (.lst xs) u:=by
 obtain ⟨a,vs,rfl,z,t⟩:=rdL W r e
 obtain ⟨its,hv,hp,_⟩:=I.list z
 have q':u=Value.ref a:=q
 subst q'
 exact ⟨a,vs,its,rfl,t,hv,hp.isList⟩
theorem kdV (I:Inv X pins σ H s) (W:WR X.K O H st):∀ {d:D} {v:V} {u:Value},Rep X.K O H d v→RelV v u→KdV X.K O H s (kd st d) u
 | .non,v,u,r,q=>by rw [Rep.non_i] at r; subst r; exact q
 | .bl b,v,u,r,q=>by rw [Rep.bl_i] at r; subst r; exact q
 | .int b,v,u,r,q=>by rw [Rep.int_i] at r; subst r; exact q
 | .str b,v,u,r,q=>by rw [Rep.str_i] at r; subst r; exact q
 | .tup ds,v,u,r,q=>by
  rw [Rep.tup_i] at r
  obtain ⟨a,vs,rfl,z,t⟩:=r
  obtain ⟨its,hv,hp,_⟩:=I.tuple (SqT.of z)
  have q':u=Value.ref a:=q
  subst q'
  exact ⟨a,vs,its,rfl,t,hv,hp⟩
 | .lst ds,v,u,r,q=>kdV_lst I W r q rfl
 | .scr ds,v,u,r,q=>kdV_lst I W r q rfl
 | .res i,v,u,r,q=>by
  have e:seqL st (.res i)=match st[i]? with
   | some (.lst xs)=>some xs
   | _=>none:=rfl
  have e':kd st (.res i)=match st[i]? with
   | some (.lst xs) => .lst xs
   | _ => .no:=rfl
  rw [e']
  cases hs:st[i]? with
  | none=>exact trivial
  | some so =>
   cases so with
   | ins C fs=>exact trivial
   | dct kvs=>exact trivial
   | dtt kvs=>exact trivial
   | fdc kvs=>exact trivial
   | lst xs =>
    rw [hs] at e
    exact kdV_lst I W r q e
 | .exv C,v,u,r,q=>trivial
theorem in1_units (A:Around):A.in1.units=A.units+1:=rfl
theorem eq_sound (I:Inv X pins σ H s) (W:WR X.K O H st):∀ (n:Nat) (a b:D) (k:Bool),eqN st n a b=some k→∀ (A:Around) (x y:V) (u w:Value),
  Rep X.K O H a x→Rep X.K O H b y→RelV x u→RelV y w→A.units+n<cLine→Ans A s u w k
 | 0,a,b,k,h=>by cases h
 | n+1,a,b,k,h=>by
  intro A x y u w ra rb qa qb hn
  have hu:A.units<cLine:=by omega
  have same:u=w→k=true:=by
   intro e
   subst e
   have e2:x=y:=qa.inj qb
   subst e2
   have e3:=Rep.inj I W a b x ra rb
   subst e3
   exact eqN_refl (n+1) a k h
  have ka:=kdV I W ra qa
  have kb:=kdV I W rb qb
  have items:∀ {xs ys:List D} {vs ws:List V} {its its2:List Value},eqItems (eqN st n) xs ys=some k→Reps X.K O H xs vs→Reps X.K O H ys ws→Vals vs its→Vals ws its2 →
    (∀ j (h1:j<its.toArray.size) (h2:j<its2.toArray.size),SeqAt.EqAt A.in1 s its.toArray[j] its2.toArray[j] ((xs[j]?.bind fun x=>ys[j]?.bind fun y=>eqN st n x y).getD false)) ∧
    k=((List.range (min its.toArray.size its2.toArray.size)).all (fun j=>((xs[j]?.bind fun x=>ys[j]?.bind fun y=>eqN st n x y).getD false)) && its.toArray.size == its2.toArray.size):=by
   intro xs ys vs ws its its2 he r1 r2 v1 v2
   obtain ⟨h1,h2⟩:=eqItems_len xs ys k he
   have l1:its.toArray.size=xs.length:=by rw [List.size_toArray,← v1.length,r1.length]
   have l2:its2.toArray.size=ys.length:=by rw [List.size_toArray,← v2.length,r2.length]
   refine ⟨fun j j1 j2 => ?_,by rw [l1,l2]; exact h2⟩
   have j1':j<xs.length:=by rw [← l1]; exact j1
   have j2':j<ys.length:=by rw [← l2]; exact j2
   have ex:xs[j]?=some xs[j]:=List.getElem?_eq_getElem j1'
   have ey:ys[j]?=some ys[j]:=List.getElem?_eq_getElem j2'
   obtain ⟨kj,ek⟩:=h1 j xs[j] ys[j] ex ey
   obtain ⟨vx,e3,rx⟩:=r1.get ex
   obtain ⟨vy,e4,ry⟩:=r2.get ey
   obtain ⟨ux,e5,qx⟩:=v1.get e3
   obtain ⟨uy,e6,qy⟩:=v2.get e4
   have e7:its.toArray[j]=ux:=by
    have:=(List.getElem?_eq_some_iff.mp e5).2
    simpa using this
   have e8:its2.toArray[j]=uy:=by
    have:=(List.getElem?_eq_some_iff.mp e6).2
    simpa using this
   rw [ex,ey,e7,e8]
   simp only [Option.bind_some,ek,Option.getD_some]
   exact (eq_sound I W n xs[j] ys[j] kj ek A.in1 vx vy ux uy rx ry qx qy (by rw [in1_units]; omega)).1
  unfold eqN at h
  generalize kd st a=da at h ka
  generalize kd st b=db at h kb
  cases da with
  | no=>cases db <;> cases h
  | non =>
   cases db with
   | no=>cases h
   | non =>
    have e1:u=_:=ka
    subst e1
    have e2:w=_:=kb
    subst e2
    cases h
    exact eqc_non_non
   | bl b2 =>
    have e1:u=_:=ka
    subst e1
    have e2:w=_:=kb
    subst e2
    cases h
    exact eqc_non_bl
   | int i2 =>
    have e1:u=_:=ka
    subst e1
    obtain ⟨t2,rfl⟩:=kb
    cases h
    exact eqc_non_int
   | str x2 =>
    have e1:u=_:=ka
    subst e1
    obtain ⟨t2,rfl⟩:=kb
    cases h
    exact eqc_non_str
   | tup ys =>
    have e1:u=_:=ka
    subst e1
    obtain ⟨a2,vs2,its2,rfl,r2,q2,z2⟩:=kb
    cases h
    exact eqc_non_tup z2 hu
   | lst ys =>
    have e1:u=_:=ka
    subst e1
    obtain ⟨a2,vs2,its2,rfl,r2,q2,z2⟩:=kb
    cases h
    exact eqc_non_lst z2 hu
  | bl b1 =>
   cases db with
   | no=>cases h
   | non =>
    have e1:u=_:=ka
    subst e1
    have e2:w=_:=kb
    subst e2
    cases h
    exact eqc_bl_non
   | bl b2 =>
    have e1:u=_:=ka
    subst e1
    have e2:w=_:=kb
    subst e2
    cases h
    exact eqc_bl_bl
   | int i2 =>
    have e1:u=_:=ka
    subst e1
    obtain ⟨t2,rfl⟩:=kb
    cases h
    exact eqc_bl_int
   | str x2 =>
    have e1:u=_:=ka
    subst e1
    obtain ⟨t2,rfl⟩:=kb
    cases h
    exact eqc_bl_str
   | tup ys =>
    have e1:u=_:=ka
    subst e1
    obtain ⟨a2,vs2,its2,rfl,r2,q2,z2⟩:=kb
    cases h
    exact eqc_bl_tup z2 hu
   | lst ys =>
    have e1:u=_:=ka
    subst e1
    obtain ⟨a2,vs2,its2,rfl,r2,q2,z2⟩:=kb
    cases h
    exact eqc_bl_lst z2 hu
  | int i1 =>
   cases db with
   | no=>cases h
   | non =>
    obtain ⟨t1,rfl⟩:=ka
    have e2:w=_:=kb
    subst e2
    cases h
    exact eqc_int_non
   | bl b2 =>
    obtain ⟨t1,rfl⟩:=ka
    have e2:w=_:=kb
    subst e2
    cases h
    exact eqc_int_bl
   | int i2 =>
    obtain ⟨t1,rfl⟩:=ka
    obtain ⟨t2,rfl⟩:=kb
    cases h
    exact eqc_int_int
   | str x2 =>
    obtain ⟨t1,rfl⟩:=ka
    obtain ⟨t2,rfl⟩:=kb
    cases h
    exact eqc_int_str
   | tup ys =>
    obtain ⟨t1,rfl⟩:=ka
    obtain ⟨a2,vs2,its2,rfl,r2,q2,z2⟩:=kb
    cases h
    exact eqc_int_tup z2 hu
   | lst ys =>
    obtain ⟨t1,rfl⟩:=ka
    obtain ⟨a2,vs2,its2,rfl,r2,q2,z2⟩:=kb
    cases h
    exact eqc_int_lst z2 hu
  | str x1 =>
   cases db with
   | no=>cases h
   | non =>
    obtain ⟨t1,rfl⟩:=ka
    have e2:w=_:=kb
    subst e2
    cases h
    exact eqc_str_non
   | bl b2 =>
    obtain ⟨t1,rfl⟩:=ka
    have e2:w=_:=kb
    subst e2
    cases h
    exact eqc_str_bl
   | int i2 =>
    obtain ⟨t1,rfl⟩:=ka
    obtain ⟨t2,rfl⟩:=kb
    cases h
    exact eqc_str_int
   | str x2 =>
    obtain ⟨t1,rfl⟩:=ka
    obtain ⟨t2,rfl⟩:=kb
    cases h
    exact eqc_str_str
   | tup ys =>
    obtain ⟨t1,rfl⟩:=ka
    obtain ⟨a2,vs2,its2,rfl,r2,q2,z2⟩:=kb
    cases h
    exact eqc_str_tup z2 hu
   | lst ys =>
    obtain ⟨t1,rfl⟩:=ka
    obtain ⟨a2,vs2,its2,rfl,r2,q2,z2⟩:=kb
    cases h
    exact eqc_str_lst z2 hu
  | tup xs =>
   cases db with
   | no=>cases h
   | non =>
    obtain ⟨a1,vs1,its1,rfl,r1,q1,z1⟩:=ka
    have e2:w=_:=kb
    subst e2
    cases h
    exact eqc_tup_non z1 hu
   | bl b2 =>
    obtain ⟨a1,vs1,its1,rfl,r1,q1,z1⟩:=ka
    have e2:w=_:=kb
    subst e2
    cases h
    exact eqc_tup_bl z1 hu
   | int i2 =>
    obtain ⟨a1,vs1,its1,rfl,r1,q1,z1⟩:=ka
    obtain ⟨t2,rfl⟩:=kb
    cases h
    exact eqc_tup_int z1 hu
   | str x2 =>
    obtain ⟨a1,vs1,its1,rfl,r1,q1,z1⟩:=ka
    obtain ⟨t2,rfl⟩:=kb
    cases h
    exact eqc_tup_str z1 hu
   | tup ys =>
    obtain ⟨a1,vs1,its1,rfl,r1,q1,z1⟩:=ka
    obtain ⟨a2,vs2,its2,rfl,r2,q2,z2⟩:=kb
    obtain ⟨he,hk⟩:=items h r1 r2 q1 q2
    have R:=SeqAt.RcAt.tuples z1 z2 hu he
    have N:=SeqAt.RcNeAt.tuples z1 z2 hu he
    rw [← hk] at R N
    refine ⟨?_,R,N⟩
    by_cases ea:a1=a2
    ·subst ea
     rw [same rfl]
     exact SeqAt.EqAt.same _
    ·exact SeqAt.EqAt.of_refs ea R
   | lst ys =>
    obtain ⟨a1,vs1,its1,rfl,r1,q1,z1⟩:=ka
    obtain ⟨a2,vs2,its2,rfl,r2,q2,z2⟩:=kb
    cases h
    exact eqc_tup_lst z1 z2 hu
  | lst xs =>
   cases db with
   | no=>cases h
   | non =>
    obtain ⟨a1,vs1,its1,rfl,r1,q1,z1⟩:=ka
    have e2:w=_:=kb
    subst e2
    cases h
    exact eqc_lst_non z1 hu
   | bl b2 =>
    obtain ⟨a1,vs1,its1,rfl,r1,q1,z1⟩:=ka
    have e2:w=_:=kb
    subst e2
    cases h
    exact eqc_lst_bl z1 hu
   | int i2 =>
    obtain ⟨a1,vs1,its1,rfl,r1,q1,z1⟩:=ka
    obtain ⟨t2,rfl⟩:=kb
    cases h
    exact eqc_lst_int z1 hu
   | str x2 =>
    obtain ⟨a1,vs1,its1,rfl,r1,q1,z1⟩:=ka
    obtain ⟨t2,rfl⟩:=kb
    cases h
    exact eqc_lst_str z1 hu
   | tup ys =>
    obtain ⟨a1,vs1,its1,rfl,r1,q1,z1⟩:=ka
    obtain ⟨a2,vs2,its2,rfl,r2,q2,z2⟩:=kb
    cases h
    exact eqc_lst_tup z1 z2 hu
   | lst ys =>
    obtain ⟨a1,vs1,its1,rfl,r1,q1,z1⟩:=ka
    obtain ⟨a2,vs2,its2,rfl,r2,q2,z2⟩:=kb
    obtain ⟨he,hk⟩:=items h r1 r2 q1 q2
    have RN:SeqAt.RcAt A s (.ref a1) (.ref a2) k∧SeqAt.RcNeAt A s (.ref a1) (.ref a2) (!k):=by
     by_cases hz:its1.toArray.size=its2.toArray.size
     ·have R:=SeqAt.RcAt.lists z1 z2 hz hu he
      have N:=SeqAt.RcNeAt.lists z1 z2 hz hu he
      have hk2:k=(List.range its1.toArray.size).all (fun j=>((xs[j]?.bind fun x=>ys[j]?.bind fun y=>eqN st n x y).getD false)):=by
       rw [hk,← hz,Nat.min_self]
       simp
      rw [← hk2] at R N
      exact ⟨R,N⟩
     ·have hk2:k=false:=by
       rw [hk]
       simp only [beq_eq_false_iff_ne.mpr hz,Bool.and_false]
      have hb:(its1.toArray.size != its2.toArray.size)=true:=by simpa using hz
      subst hk2
      exact ⟨SeqAt.RcAt.lists_lengths z1 z2 hb hu,SeqAt.RcNeAt.lists_lengths z1 z2 hb hu⟩
    refine ⟨?_,RN.1,RN.2⟩
    by_cases ea:a1=a2
    ·subst ea
     rw [same rfl]
     exact SeqAt.EqAt.same _
    ·exact SeqAt.EqAt.of_refs ea RN.1
end
end DL
end
section
namespace DL
open PySem PySem.Spec PyProof.Rows L2
noncomputable abbrev EXT:=Addr→Sto→List Addr→Hp→Prop
noncomputable def Run (K:PySem.W.Frag) (EX:EXT) {α:Type} (O:List Addr) (H:Hp) (r:Out α) (k:α→Sto→List Addr→Hp→Prop):Prop:=match r with
 | .ok a st => ∀ O' H',Keep K O H O' H'→WR K O' H' st→k a st O' H'
 | .exc c st => ∀ O' H',Keep K O H O' H'→WR K O' H' st→EX c st O' H'
 | .bad=>False
section
variable {K:PySem.W.Frag} {EX:EXT} {α β:Type} {O O':List Addr} {H H':Hp} {st:Sto}
theorem Run.now {a:α} {k:α→Sto→List Addr→Hp→Prop} (h:Run K EX O H (.ok a st) k) (W:WR K O H st):k a st O H:=h O H Keep.refl W
theorem Run.later {r:Out α} {k:α→Sto→List Addr→Hp→Prop} (h:Run K EX O H r k) (kp:Keep K O H O' H'):Run K EX O' H' r k:=by
 cases r with
 | ok a st=>exact fun O2 H2 k2 W2=>h O2 H2 (kp.trans k2) W2
 | exc c st=>exact fun O2 H2 k2 W2=>h O2 H2 (kp.trans k2) W2
 | bad=>exact h
theorem Run.mono {r:Out α} {k k':α→Sto→List Addr→Hp→Prop} (h:Run K EX O H r k) (f:∀ a st O' H',Keep K O H O' H'→WR K O' H' st→k a st O' H'→k' a st O' H'):Run K EX O H r k':=by
 cases r with
 | ok a st=>exact fun O' H' kp W=>f a st O' H' kp W (h O' H' kp W)
 | exc c st=>exact h
 | bad=>exact h
theorem Run.bind {r:Out α} {g:α→Sto→Out β} {k:β→Sto→List Addr→Hp→Prop} (h:Run K EX O H (r.bind g) k):Run K EX O H r (fun a st O' H'=>Run K EX O' H' (g a st) k):=by
 cases r with
 | ok a st=>exact fun O' H' kp W=>Run.later (r:=g a st) h kp
 | exc c st=>exact h
 | bad=>exact h
end
structure REnv (K:PySem.W.Frag) (O:List Addr) (H:Hp) (ρ:Ev) (σ:L2.St):Prop where
 len:ρ.length=σ.length
 at_:∀ (i:Nat) (d:D),ρ[i]?=some (some d)→∃ v,σ[i]?=some (some v)∧Rep K O H d v
section
variable {K:PySem.W.Frag} {O O':List Addr} {H H':Hp} {ρ:Ev} {σ:L2.St}
theorem REnv.mono (E:REnv K O H ρ σ) (k:Keep K O H O' H'):REnv K O' H' ρ σ :=
 ⟨E.len,fun i d e=>let ⟨v,h,r⟩:=E.at_ i d e; ⟨v,h,Rep.mono k d v r⟩⟩
theorem REnv.set (E:REnv K O H ρ σ) {i:Nat} {d:D} {v:V} (r:Rep K O H d v):REnv K O H (ρ.set i (some d)) (σ.set i (some v)):=by
 refine ⟨by rw [List.length_set,List.length_set,E.len],fun j e h => ?_⟩
 by_cases hij:i=j
 ·subst hij
  have hl:i<ρ.length:=by
   have:=(List.getElem?_eq_some_iff.mp h).1
   rwa [List.length_set] at this
  rw [List.getElem?_set_self hl] at h
  cases h
  exact ⟨v,List.getElem?_set_self (by rw [← E.len]; exact hl),r⟩
 ·rw [List.getElem?_set_ne hij] at h
  obtain ⟨u,h1,h2⟩:=E.at_ j e h
  exact ⟨u,by rw [List.getElem?_set_ne hij]; exact h1,h2⟩
end
noncomputable abbrev DE:=Ev→Sto→Out D
noncomputable abbrev DT:=Ev→Sto→Out Bool
noncomputable abbrev DA:=Ev→Sto→Out (List D)
noncomputable def EX0:EXT:=fun _ _ _ _=>False
section
variable (K:PySem.W.Frag) (EX:EXT)
noncomputable def Val (Q:VK) (d:D) (_:Sto) (O:List Addr) (H:Hp):Prop:=∀ v,Rep K O H d v→Q v H
noncomputable def Vls (Q:List V→Hp→Prop) (ds:List D) (_:Sto) (O:List Addr) (H:Hp):Prop:=∀ vs,Reps K O H ds vs→Q vs H
noncomputable def New (Q:VK) (ds:List D) (_:Sto) (O:List Addr) (H:Hp):Prop:=∀ p vs,Reps K O H ds vs→H p=none→Q (.ref p) (upd H p (.lst vs))
noncomputable def tD (f:DE):TE:=fun σ H Q => ∃ O ρ st,WR K O H st∧REnv K O H ρ σ∧Run K EX O H (f ρ st) (Val K Q)
noncomputable def tDT (f:DT):TT:=fun σ H Q => ∃ O ρ st,WR K O H st∧REnv K O H ρ σ∧Run K EX O H (f ρ st) (fun b _ _ H'=>Q b H')
noncomputable def tDA (f:DA):TA:=fun σ H Q => ∃ O ρ st,WR K O H st∧REnv K O H ρ σ∧Run K EX O H (f ρ st) (Vls K Q)
noncomputable def tDF (f:DA):TE:=fun σ H Q => ∃ O ρ st,WR K O H st∧REnv K O H ρ σ∧Run K EX O H (f ρ st) (New K Q)
noncomputable def rD2 (g:D→D→Sto→Out D):R2:=fun x y H Q => ∃ O a b st,WR K O H st∧Rep K O H a x∧Rep K O H b y∧Run K EX O H (g a b st) (Val K Q)
noncomputable def rDF2 (g:D→D→Sto→Out (List D)):R2:=fun x y H Q => ∃ O a b st,WR K O H st∧Rep K O H a x∧Rep K O H b y∧Run K EX O H (g a b st) (New K Q)
noncomputable def rDC (g:List D→Sto→Out D):List V→Hp→VK→Prop:=fun xs H Q => ∃ O ds st,WR K O H st∧Reps K O H ds xs∧Run K EX O H (g ds st) (Val K Q)
noncomputable def rDCF (g:List D→Sto→Out (List D)):List V→Hp→VK→Prop:=fun xs H Q => ∃ O ds st,WR K O H st∧Reps K O H ds xs∧Run K EX O H (g ds st) (New K Q)
end
section
variable (X:Cx) (EX:EXT)
noncomputable def PD (e:Expr) (f:DE):Prop:=PE X e (tD X.K EX f)
noncomputable def PDT (e:Expr) (f:DT):Prop:=PT X e (tDT X.K EX f)
noncomputable def PDW (e:Expr) (f:DT):Prop:=PW X e (tDT X.K EX f)
noncomputable def PDA (es:List Expr) (f:DA):Prop:=PA X es (tDA X.K EX f)
noncomputable def PDF (e:Expr) (f:DA):Prop:=PE X e (tDF X.K EX f)
noncomputable def OpD (f:Value→Value→Sem Value) (g:D→D→Sto→Out D):Prop:=OpR X f (rD2 X.K EX g)
noncomputable def OpF (f:Value→Value→Sem Value) (g:D→D→Sto→Out (List D)):Prop:=OpR X f (rDF2 X.K EX g)
noncomputable def CallD (f:Value) (g:List D→Sto→Out D):Prop:=CallR X f (rDC X.K EX g)
noncomputable def CallF (f:Value) (g:List D→Sto→Out (List D)):Prop:=CallR X f (rDCF X.K EX g)
end
theorem PE.mono {X:Cx} {e:Expr} {t t':TE} (h:PE X e t) (f:∀ σ H Q,t' σ H Q→t σ H Q):PE X e t':=fun pins s σ H Q I q=>h pins s σ H Q I (f σ H Q q)
theorem PT.mono {X:Cx} {e:Expr} {t t':TT} (h:PT X e t) (f:∀ σ H Q,t' σ H Q→t σ H Q):PT X e t':=fun pins s σ H Q I q=>h pins s σ H Q I (f σ H Q q)
theorem PW.mono {X:Cx} {e:Expr} {t t':TT} (h:PW X e t) (f:∀ σ H Q,t' σ H Q→t σ H Q):PW X e t':=fun wh pins s σ H Q I q=>h wh pins s σ H Q I (f σ H Q q)
theorem PA.mono {X:Cx} {es:List Expr} {t t':TA} (h:PA X es t) (f:∀ σ H Q,t' σ H Q→t σ H Q):PA X es t':=fun pos pins s σ H Q I q=>h pos pins s σ H Q I (f σ H Q q)
theorem PS.mono {X:Cx} {e:Stmt} {t t':TS} (h:PS X e t) (f:∀ D σ H,t' D σ H→t D σ H):PS X e t':=fun pins s σ H D I q=>h pins s σ H D I (f D σ H q)
theorem PSs.mono {X:Cx} {e:List Stmt} {t t':TS} (h:PSs X e t) (f:∀ D σ H,t' D σ H→t D σ H):PSs X e t':=fun pins s σ H D I q=>h pins s σ H D I (f D σ H q)
theorem OpR.mono {X:Cx} {f:Value→Value→Sem Value} {r r':R2} (h:OpR X f r) (g:∀ x y H Q,r' x y H Q→r x y H Q):OpR X f r':=fun pins s σ H x y v u Q I rx ry q=>h pins s σ H x y v u Q I rx ry (g x y H Q q)
section
variable {X:Cx} {EX:EXT} {a b c e:Expr} {fa fb fc:DE} {pos:Pos} {ta tb:DT}
noncomputable def dVar (i:Nat):DE:=fun ρ st=>match ρ[i]? with
 | some (some d) => .ok d st
 | _ => .bad
theorem pd_var (i : Nat) {x : Str} {pos : Pos} (hN : X.N[i]? = some x := by rfl) (hv : Vis X.env.scope x := by first | exact Or.inl rfl | exact Or.inr (Or.inl rfl) | exact Or.inr (Or.inr rfl)) (hd : (x == ("__debug__" : Str)) = false := by decide)
  (hcd : (x == ("__classdict__" : Str)) = false := by decide) : PD X EX (.Name x pos) (dVar i) := by
 refine PE.mono (pe_var hN hv hd hcd) ?_
 rintro σ H Q ⟨O,ρ,st,W,E,R⟩
 unfold dVar at R
 cases h:ρ[i]? with
 | none=>rw [h] at R; exact R.elim
 | some z =>
  cases z with
  | none=>rw [h] at R; exact R.elim
  | some d =>
   rw [h] at R
   obtain ⟨v,h1,r⟩:=E.at_ i d h
   exact ⟨v,h1,R.now W v r⟩
noncomputable def dC (d:D):DE:=fun _ st => .ok d st
theorem pd_C {v:V} {d:D} (h:PE X e (tC v)) (hr:∀ O H,Rep X.K O H d v):PD X EX e (dC d):=by
 refine PE.mono h ?_
 rintro σ H Q ⟨O,ρ,st,W,E,R⟩
 exact R.now W v (hr O H)
theorem pd_int {i j pos}:PD X EX (.Constant (.int i) j pos) (dC (.int i)):=pd_C pe_int fun _ _=>Rep.int_i.mpr rfl
theorem pd_bl {b j pos}:PD X EX (.Constant (.bool b) j pos) (dC (.bl b)):=pd_C pe_bl fun _ _=>Rep.bl_i.mpr rfl
theorem pd_non {j pos}:PD X EX (.Constant .none j pos) (dC .non):=pd_C pe_non fun _ _=>Rep.non_i.mpr rfl
theorem pd_str {x j pos}:PD X EX (.Constant (.str x) j pos) (dC (.str x)):=pd_C pe_str fun _ _=>Rep.str_i.mpr rfl
theorem pd_glob {x : Str} {v : V} {u : Value} {d : D} {pos : Pos} (hg : Gl X x) (hm : X.mg x = some u) (r : RelV v u) (hr : ∀ O H, Rep X.K O H d v) (hd : (x == ("__debug__" : Str)) = false := by decide) : PD X EX (.Name x pos) (dC d) :=
 pd_C (pe_glob hg hm r hd) hr
noncomputable def dBin (g:D→D→Sto→Out D) (fa fb:DE):DE:=fun ρ st=>(fa ρ st).bind fun x st1=>(fb ρ st1).bind fun y st2=>g x y st2
noncomputable def dBinF (g:D→D→Sto→Out (List D)) (fa fb:DE):DA:=fun ρ st=>(fa ρ st).bind fun x st1=>(fb ρ st1).bind fun y st2=>g x y st2
theorem bin_imp {g:D→D→Sto→Out D}:∀ σ H Q,tD X.K EX (dBin g fa fb) σ H Q→tOp (rD2 X.K EX g) (tD X.K EX fa) (tD X.K EX fb) σ H Q:=by
 rintro σ H Q ⟨O,ρ,st,W,E,R⟩
 refine ⟨O,ρ,st,W,E,R.bind.mono fun x st1 O1 H1 k1 W1 R1 v r => ?_⟩
 refine ⟨O1,ρ,st1,W1,E.mono k1,R1.bind.mono fun y st2 O2 H2 k2 W2 R2 u r2 => ?_⟩
 exact ⟨O2,x,y,st2,W2,Rep.mono k2 x v r,r2,R2⟩
theorem binF_imp {g:D→D→Sto→Out (List D)}:∀ σ H Q,tDF X.K EX (dBinF g fa fb) σ H Q→tOp (rDF2 X.K EX g) (tD X.K EX fa) (tD X.K EX fb) σ H Q:=by
 rintro σ H Q ⟨O,ρ,st,W,E,R⟩
 refine ⟨O,ρ,st,W,E,R.bind.mono fun x st1 O1 H1 k1 W1 R1 v r => ?_⟩
 refine ⟨O1,ρ,st1,W1,E.mono k1,R1.bind.mono fun y st2 O2 H2 k2 W2 R2 u r2 => ?_⟩
 exact ⟨O2,x,y,st2,W2,Rep.mono k2 x v r,r2,R2⟩
theorem pd_op {op:Operator} {g:D→D→Sto→Out D} (ho:OpD X EX (binaryOp op) g) (ha:PD X EX a fa) (hb:PD X EX b fb):PD X EX (.BinOp a op b pos) (dBin g fa fb) :=
 PE.mono (pe_op ho ha hb) bin_imp
theorem pdf_op {op:Operator} {g:D→D→Sto→Out (List D)} (ho:OpF X EX (binaryOp op) g) (ha:PD X EX a fa) (hb:PD X EX b fb):PDF X EX (.BinOp a op b pos) (dBinF g fa fb) :=
 PE.mono (pe_op ho ha hb) binF_imp
theorem pd_cmp {op:CmpOp} {g:D→D→Sto→Out D} (ho:OpD X EX (compareOp op) g) (ha:PD X EX a fa) (hb:PD X EX b fb) (hm:behindInMarks op b=false:=by first | exact nomark _ (by decide) (by decide) | with_unfolding_all rfl):PD X EX (.Compare a [op] [b] pos) (dBin g fa fb) :=
 PE.mono (pe_cmpR ho ha hb hm) bin_imp
noncomputable def asB:D→Sto→Out Bool
 | .bl b,st => .ok b st
 | _,_ => .bad
noncomputable def dB (f:DE):DT:=fun ρ st=>(f ρ st).bind asB
theorem asB_run {O:List Addr} {H:Hp} {st:Sto} {d:D} {v:V} {Q:Bool→Hp→Prop} (W:WR X.K O H st) (r:Rep X.K O H d v) (R:Run X.K EX O H (asB d st) (fun b _ _ H'=>Q b H')):∃ k,v = .bl k∧Q k H:=by
 cases d with
 | bl b=>exact ⟨b,Rep.bl_i.mp r,Run.now (k:=fun b _ _ H'=>Q b H') R W⟩
 | _=>exact R.elim
theorem pdt_cmp {op:CmpOp} {g:D→D→Sto→Out D} (ho:OpD X EX (compareOp op) g) (ha:PD X EX a fa) (hb:PD X EX b fb) (hm:behindInMarks op b=false:=by first | exact nomark _ (by decide) (by decide) | with_unfolding_all rfl):PDT X EX (.Compare a [op] [b] pos) (dB (dBin g fa fb)):=by
 refine PT.mono (pt_cmpR ho ha hb hm) ?_
 rintro σ H Q ⟨O,ρ,st,W,E,R⟩
 exact bin_imp (X:=X) (EX:=EX) σ H _ ⟨O,ρ,st,W,E,R.bind.mono fun d st1 O1 H1 k1 W1 R1 v r=>asB_run W1 r R1⟩
theorem pdt_val {f:DE} (h:PD X EX e f) (he:∀ whole,isTrue e X.env whole=(do let v ← whole; standAt e.pos; holding [v] (truthy v)):=by intro _; rfl):PDT X EX e (dB f):=by
 refine PT.mono (pt_val h he) ?_
 rintro σ H Q ⟨O,ρ,st,W,E,R⟩
 exact ⟨O,ρ,st,W,E,R.bind.mono fun d st1 O1 H1 k1 W1 R1 v r=>asB_run W1 r R1⟩
noncomputable def dAnd (ta tb:DT):DT:=fun ρ st=>(ta ρ st).bind fun x st1=>if x=true then tb ρ st1 else .ok false st1
theorem pdw_and1 (ha:PDT X EX a ta):PDW X EX (.BoolOp .And [a] pos) ta:=pw_and1 ha
theorem pdw_and {rest:List Expr} (ha:PDT X EX a ta) (hb:PDW X EX (.BoolOp .And (b :: rest) pos) tb):PDW X EX (.BoolOp .And (a :: b :: rest) pos) (dAnd ta tb):=by
 refine PW.mono (pw_and ha hb) ?_
 rintro σ H Q ⟨O,ρ,st,W,E,R⟩
 refine ⟨O,ρ,st,W,E,R.bind.mono fun x st1 O1 H1 k1 W1 R1 => ?_⟩
 cases x with
 | true=>exact ⟨O1,ρ,st1,W1,E.mono k1,R1⟩
 | false=>exact Run.now (k:=fun b _ _ H'=>Q b H') R1 W1
theorem PDW.pt (h:PDW X EX e ta):PDT X EX e ta:=PW.pt h
noncomputable def dIf (t:DT) (fa fb:DE):DE:=fun ρ st=>(t ρ st).bind fun x st1=>if x=true then fa ρ st1 else fb ρ st1
theorem pd_ifExp (hc:PDT X EX c ta) (ha:PD X EX a fa) (hb:PD X EX b fb):PD X EX (.IfExp c a b pos) (dIf ta fa fb):=by
 refine PE.mono (pe_ifExp hc ha hb) ?_
 rintro σ H Q ⟨O,ρ,st,W,E,R⟩
 refine ⟨O,ρ,st,W,E,R.bind.mono fun x st1 O1 H1 k1 W1 R1 => ?_⟩
 cases x with
 | true=>exact ⟨O1,ρ,st1,W1,E.mono k1,R1⟩
 | false=>exact ⟨O1,ρ,st1,W1,E.mono k1,R1⟩
noncomputable def dNil:DA:=fun _ st => .ok [] st
noncomputable def dCons (f:DE) (g:DA):DA:=fun ρ st=>(f ρ st).bind fun x st1=>(g ρ st1).bind fun xs st2 => .ok (x :: xs) st2
theorem pda_nil:PDA X EX [] dNil:=by
 refine PA.mono pa_nil ?_
 rintro σ H Q ⟨O,ρ,st,W,E,R⟩
 exact Run.now (k:=Vls X.K Q) R W _ (Reps.nil_i.mpr rfl)
theorem pda_cons {es:List Expr} {g:DA} (ha:PD X EX a fa) (hr:PDA X EX es g) (hs:starEach (a :: es) X.env=(false,eval a X.env) :: starEach es X.env:=by rfl):PDA X EX (a :: es) (dCons fa g):=by
 refine PA.mono (pa_cons ha hr hs) ?_
 rintro σ H Q ⟨O,ρ,st,W,E,R⟩
 refine ⟨O,ρ,st,W,E,R.bind.mono fun x st1 O1 H1 k1 W1 R1 v r => ?_⟩
 refine ⟨O1,ρ,st1,W1,E.mono k1,R1.bind.mono fun xs st2 O2 H2 k2 W2 R2 vs rs => ?_⟩
 exact Run.now (k:=Vls X.K Q) R2 W2 _ (Reps.cons_i.mpr ⟨v,vs,rfl,Rep.mono k2 x v r,rs⟩)
noncomputable def small:Nat:=10000
theorem small_le:small≤sizeLine:=by rw [sizeLine_eq]; decide
noncomputable def dTup (g:DA):DE:=fun ρ st=>(g ρ st).bind fun xs st1=>if xs.length≤small then .ok (.tup xs) st1 else .bad
noncomputable def dLst (g:DA):DA:=fun ρ st=>(g ρ st).bind fun xs st1=>if xs.length≤small then .ok xs st1 else .bad
theorem new_tup {O:List Addr} {H:Hp} {st:Sto} {xs:List D} {vs:List V} {p:Addr} {Q:VK} (W:WR X.K O H st) (r:Reps X.K O H xs vs) (hp:H p=none) (R:Run X.K EX O H (.ok (.tup xs) st) (Val X.K Q)):Q (.ref p) (upd H p (.tup vs)) :=
 R O (upd H p (.tup vs)) (Keep.laid hp) (W.laid hp) _ (Rep.tup_i.mpr ⟨p,vs,rfl,upd_same,Reps.mono (Keep.laid hp) _ _ r⟩)
theorem new_lst {O:List Addr} {H:Hp} {st:Sto} {xs:List D} {vs:List V} {p:Addr} {Q:VK} (W:WR X.K O H st) (r:Reps X.K O H xs vs) (hp:H p=none) (R:Run X.K EX O H (.ok (.lst xs) st) (Val X.K Q)):Q (.ref p) (upd H p (.lst vs)):=by
 refine R O (upd H p (.lst vs)) (Keep.laid hp) (W.laid hp) _ (Rep.lst_i.mpr ⟨p,vs,rfl,fun hm => ?_,upd_same,Reps.mono (Keep.laid hp) _ _ r⟩)
 obtain ⟨i,hi⟩:=List.mem_iff_getElem?.mp hm
 exact W.ne hi hp rfl
theorem pd_tup {es:List Expr} {x1} {g:DA} (h:PDA X EX es g):PD X EX (.Tuple es x1 pos) (dTup g):=by
 refine PE.mono (pe_tup h) ?_
 rintro σ H Q ⟨O,ρ,st,W,E,R⟩
 refine ⟨O,ρ,st,W,E,R.bind.mono fun xs st1 O1 H1 k1 W1 R1 vs r => ?_⟩
 by_cases hz:xs.length≤small
 ·rw [if_pos hz] at R1
  exact ⟨by rw [← r.length]; exact Nat.le_trans hz small_le,fun p hp=>new_tup W1 r hp R1⟩
 ·rw [if_neg hz] at R1
  exact R1.elim
theorem pdf_lst {es:List Expr} {g:DA} (h:PDA X EX es g):PDF X EX (.List es pos) (dLst g):=by
 refine PE.mono (pe_lst h) ?_
 rintro σ H Q ⟨O,ρ,st,W,E,R⟩
 refine ⟨O,ρ,st,W,E,R.bind.mono fun xs st1 O1 H1 k1 W1 R1 vs r => ?_⟩
 by_cases hz:xs.length≤small
 ·rw [if_pos hz] at R1
  exact ⟨by rw [← r.length]; exact Nat.le_trans hz small_le,fun p hp=>Run.now (k:=New X.K Q) R1 W1 p vs r hp⟩
 ·rw [if_neg hz] at R1
  exact R1.elim
noncomputable def dF (f:DA):DE:=fun ρ st=>(f ρ st).bind fun xs st1 => .ok (.lst xs) st1
theorem pd_F {f:DA} (h:PDF X EX e f):PD X EX e (dF f):=by
 refine PE.mono h ?_
 rintro σ H Q ⟨O,ρ,st,W,E,R⟩
 exact ⟨O,ρ,st,W,E,R.bind.mono fun xs st1 O1 H1 k1 W1 R1 p vs r hp=>new_lst W1 r hp R1⟩
end
end DL
end
section
namespace HT
open PySem PyProof.Rows
section
open PySem.SeqAt
open PySem.AutoSeq1 (wpAny_loadPart')
open PySem.MeetsSeq PySem.MeetsSeq2 PySem.MeetsSeq3
variable {prog:Program} {w:World} {A:Around} {E:Value→Shared→Prop} {s:Shared}
theorem cat_tup0 {t b:Addr} {ws:List Value} {Q:Value→Shared→Prop} (ht:IsTup s.heap t #[]) (hb:IsTup s.heap b ws.toArray) (h:Q (.ref b) s):wpAny (model prog w) A (binaryOp .Add (.ref t) (.ref b)) Q E s:=by
 obtain ⟨⟨cls,dd,data,sl⟩,ho,hc,n,hd⟩:=id ht
 obtain ⟨⟨cls2,dd2,data2,sl2⟩,ho2,hc2,n2,hd2⟩:=id hb
 simp only at hc hd hc2 hd2
 subst hc hd hc2 hd2
 exact concat_meets ⟨_,ho,rfl⟩ ⟨_,ho2,rfl⟩ noFill_tuple_add seq_tuple_add PySem.F.slot_tuple_add PySem.F.entry_tuple_add (PySem.F.args_tuple_add_2 _ _)
   (tuple_addW0 t b #[] ws.toArray n n2 dd dd2 sl sl2 rfl) ⟨ho,ho2,h⟩
theorem getItem_tuple_whole {t sl:Addr} {items:Array Value} {vl vu:Value} {lo hi:Option Int} {Q:Value→Shared→Prop} (ht:IsTup s.heap t items) (hs:s.heap.IsSliceOf sl vl vu .none) (pl:IsPart vl lo) (pu:IsPart vu hi)
  (hw:sIx items.size 0 lo=0∧sIx items.size items.size hi=items.size) (h:Q (.ref t) s):wpAny (model prog w) A (getItem (.ref t) (.ref sl)) Q E s:=by
 obtain ⟨os,hos,hcs,hds⟩:=id hs
 have hTs : s.TypeIs (.ref sl) "slice" := ⟨os, hos, hcs⟩
 unfold getItem
 try with_reducible refine wpAny_holding ?_
 first | refine wpAny_bind (wpAny_pure ?_) | skip
 refine wpAny_bind (wpAny_sequenceKey ht.typeIs (by decide) ?_)
 refine wpAny_bind (wpAny_callSpecial?_slot (name := Str.ofString "__getitem__") ht.typeIs PyProof.Rows.slot_tuple_getitem
  (wpAny_call_entry PyProof.Rows.slot_tuple_getitem ht.typeIs entry_tuple_getitem ?_ (args_tuple_getitem _ _)))
 show wpAny _ _ (Builtin.Tuple.tupleItemsOf (.ref t) >>= _) _ _ s
 refine wpAny_bind (tupleItemsOf_ ht ?_)
 refine wpAny_bind (wpAny_typeOf hTs ?_)
 rw [if_pos (by decide)]
 refine wpAny_bind (sliceApplied_gen hs pl pu ?_)
 have hyes:((((sIx items.size 0 lo:Nat):Int) == 0 && (1:Int) == 1 && (sIx items.size items.size hi - sIx items.size 0 lo) == items.size)=true):=by
  rw [hw.1,hw.2]
  simp
 show wpAny _ _ (if (((sIx items.size 0 lo:Nat):Int) == 0 && (1:Int) == 1 && (sIx items.size items.size hi - sIx items.size 0 lo) == items.size)=true then _ else _) _ _ s
 rw [if_pos hyes]
 unfold Builtin.Tuple.tupleIsExact
 refine wpAny_bind (wpAny_bind (wpAny_typeOf ht.typeIs (wpAny_pure ?_)))
 rw [if_pos (by decide)]
 refine wpAny_bind (wpAny_rule ?_)
 first
  | exact wpAny_bind (wpAny_pure (wpAny_pure ⟨_,rfl,wpAny_pure h⟩))
  | exact wpAny_bind (wpAny_bind (wpAny_pure (wpAny_pure ⟨_,rfl,wpAny_pure h⟩)))
  | exact wpAny_pure ⟨_,rfl,wpAny_pure h⟩
end
end HT
namespace DL
open PySem PySem.Spec PyProof.Rows L2
section
variable {X:Cx} {EX:EXT}
noncomputable def addD:D→D→Sto→Out D
 | .int a,.int b,st => .ok (.int (a+b)) st
 | .str a,.str b,st=>if a.length+b.length≤small then .ok (.str (a++b)) st else .bad
 | .tup xs,.tup ys,st=>if xs.length+ys.length≤small then .ok (.tup (xs++ys)) st else .bad
 | _,_,_ => .bad
theorem op_addD:OpD X EX (binaryOp .Add) addD:=by
 intro pins s σ H x y v u Q I rx ry h
 obtain ⟨O,a,b,st,W,ra,rb,R⟩:=h
 cases a <;> cases b <;> first | exact R.elim | skip
 case int.int i j =>
  rw [Rep.int_i] at ra rb
  subst ra rb
  exact op_add pins s σ H _ _ v u Q I rx ry ⟨i,j,rfl,rfl,Run.now (k:=Val X.K Q) R W _ (Rep.int_i.mpr rfl)⟩
 case str.str i j =>
  rw [Rep.str_i] at ra rb
  subst ra rb
  dsimp only [addD] at R
  by_cases hz:i.length+j.length≤small
  ·rw [if_pos hz] at R
   exact op_add_str pins s σ H _ _ v u Q I rx ry ⟨i,j,rfl,rfl,Nat.le_trans hz small_le,Run.now (k:=Val X.K Q) R W _ (Rep.str_i.mpr rfl)⟩
  ·rw [if_neg hz] at R; exact R.elim
 case tup.tup xs ys =>
  dsimp only [addD] at R
  by_cases hz:xs.length+ys.length≤small
  ·rw [if_pos hz] at R
   rw [Rep.tup_i] at ra rb
   obtain ⟨a,vs,rfl,q1,r1⟩:=ra
   obtain ⟨b,ws,rfl,q2,r2⟩:=rb
   by_cases h0:xs=[]
   ·subst h0
    rw [Reps.nil_i] at r1
    subst r1
    cases rx
    cases ry
    obtain ⟨its,v1,p1,_⟩:=I.tuple (SqT.of q1)
    obtain ⟨its2,v2,p2,_⟩:=I.tuple (SqT.of q2)
    cases v1
    exact HT.cat_tup0 p1 p2 ⟨.ref b,H,I,rfl,Run.now (k:=Val X.K Q) R W _ (Rep.tup_i.mpr ⟨b,ws,rfl,q2,r2⟩)⟩
   ·refine op_catT pins s σ H _ _ v u Q I rx ry ⟨a,b,vs,ws,rfl,rfl,SqT.of q1,SqT.of q2,fun z=>h0 ?_,?_,fun z => ?_,fun z p hp => ?_⟩
    ·have:=r1.length; rw [z] at this; exact List.length_eq_zero_iff.mp this
    ·rw [← r1.length,← r2.length]; exact Nat.le_trans hz small_le
    ·have e:ys=[]:=by have:=r2.length; rw [z] at this; exact List.length_eq_zero_iff.mp this
     subst e
     rw [List.append_nil] at R
     exact Run.now (k:=Val X.K Q) R W _ (Rep.tup_i.mpr ⟨a,vs,rfl,q1,r1⟩)
    ·exact new_tup W (r1.append r2) hp R
  ·rw [if_neg hz] at R; exact R.elim
noncomputable def catL (a b:D) (st:Sto):Out (List D):=match ownL st a,ownL st b with
 | some xs,some ys=>if xs.length+ys.length≤small then .ok (xs++ys) st else .bad
 | _,_ => .bad
theorem op_catL:OpF X EX (binaryOp .Add) catL:=by
 intro pins s σ H x y v u Q I rx ry h
 obtain ⟨O,a,b,st,W,ra,rb,R⟩:=h
 unfold catL at R
 cases ea:ownL st a with
 | none=>rw [ea] at R; exact R.elim
 | some xs =>
  cases eb:ownL st b with
  | none=>rw [ea,eb] at R; exact R.elim
  | some ys =>
   rw [ea,eb] at R
   dsimp only at R
   by_cases hz:xs.length+ys.length≤small
   ·rw [if_pos hz] at R
    obtain ⟨p1,vs,rfl,q1,r1⟩:=rdO W ra ea
    obtain ⟨p2,ws,rfl,q2,r2⟩:=rdO W rb eb
    exact op_cat pins s σ H _ _ v u Q I rx ry ⟨p1,p2,vs,ws,rfl,rfl,q1,q2,by rw [← r1.length,← r2.length]; exact Nat.le_trans hz small_le,fun p hp=>Run.now (k:=New X.K Q) R W p _ (r1.append r2) hp⟩
   ·rw [if_neg hz] at R; exact R.elim
noncomputable def intOp (C:Int→Int→Bool) (g:Int→Int→Int):D→D→Sto→Out D
 | .int a,.int b,st=>if C a b=true then .ok (.int (g a b)) st else .bad
 | _,_,_ => .bad
theorem op_intOp {f:Value→Value→Sem Value} {C:Int→Int→Bool} {P:Int→Int→Prop} {g:Int→Int→Int} (h:OpR X f (rI P fun i j => .int (g i j))) (hC:∀ i j,C i j=true→P i j):OpD X EX f (intOp C g):=by
 intro pins s σ H x y v u Q I rx ry h'
 obtain ⟨O,a,b,st,W,ra,rb,R⟩:=h'
 cases a <;> cases b <;> first | exact R.elim | skip
 rename_i i j
 rw [Rep.int_i] at ra rb
 subst ra rb
 dsimp only [intOp] at R
 by_cases hz:C i j=true
 ·rw [if_pos hz] at R
  exact h pins s σ H _ _ v u Q I rx ry ⟨i,j,rfl,rfl,hC i j hz,Run.now (k:=Val X.K Q) R W _ (Rep.int_i.mpr rfl)⟩
 ·rw [if_neg hz] at R; exact R.elim
noncomputable def mulOk (i j:Int):Bool:=(decide (-(2 ^ 64)<i) && decide (i<2 ^ 64)) || (decide (-(2 ^ 64)<j) && decide (j<2 ^ 64))
noncomputable def mulD:D→D→Sto→Out D:=intOp mulOk fun i j=>i * j
theorem op_mulD:OpD X EX (binaryOp .Mult) mulD:=op_intOp op_mul fun i j h=>by
 unfold mulOk at h
 rw [Bool.or_eq_true,Bool.and_eq_true,Bool.and_eq_true] at h
 rcases h with ⟨h1,h2⟩ | ⟨h1,h2⟩
 ·exact .inl ⟨of_decide_eq_true h1,of_decide_eq_true h2⟩
 ·exact .inr ⟨of_decide_eq_true h1,of_decide_eq_true h2⟩
noncomputable def divOk (_ j:Int):Bool:=@decide (0<j∧j<1073741824) (Classical.propDecidable _)
noncomputable def fdivD:D→D→Sto→Out D:=intOp divOk fun i j=>i / j
theorem op_fdivD:OpD X EX (binaryOp .FloorDiv) fdivD:=op_intOp op_fdiv fun i j h => @of_decide_eq_true (0<j∧j<1073741824) (Classical.propDecidable _) h
noncomputable def modD:D→D→Sto→Out D:=intOp (fun _ j=>decide (0<j)) fun i j=>i % j
theorem op_modD:OpD X EX (binaryOp .Mod) modD:=op_intOp op_mod fun i j h=>of_decide_eq_true h
noncomputable def depth:Nat:=50
noncomputable def eqD (a b:D) (st:Sto):Out D:=match eqN st depth a b with
 | some k => .ok (.bl k) st
 | none => .bad
noncomputable def neD (a b:D) (st:Sto):Out D:=match eqN st depth a b with
 | some k => .ok (.bl (!k)) st
 | none => .bad
theorem op_eqD (hu:X.A.units+64<cLine):OpD X EX (compareOp .Eq) eqD:=by
 intro pins s σ H x y v u Q I rx ry h
 obtain ⟨O,a,b,st,W,ra,rb,R⟩:=h
 unfold eqD at R
 cases e:eqN st depth a b with
 | none=>rw [e] at R; exact R.elim
 | some k =>
  rw [e] at R
  have h:=(eq_sound I W depth a b k e X.A x y v u ra rb rx ry (by show X.A.units+50<cLine; omega)).2.1
  exact h X.prog X.w X.xe _ ⟨.bl k,H,I,rfl,Run.now (k:=Val X.K Q) R W _ (Rep.bl_i.mpr rfl)⟩
theorem op_neD (hu:X.A.units+64<cLine):OpD X EX (compareOp .NotEq) neD:=by
 intro pins s σ H x y v u Q I rx ry h
 obtain ⟨O,a,b,st,W,ra,rb,R⟩:=h
 unfold neD at R
 cases e:eqN st depth a b with
 | none=>rw [e] at R; exact R.elim
 | some k =>
  rw [e] at R
  have h:=(eq_sound I W depth a b k e X.A x y v u ra rb rx ry (by show X.A.units+50<cLine; omega)).2.2
  exact h X.prog X.w X.xe _ ⟨.bl (!k),H,I,rfl,Run.now (k:=Val X.K Q) R W _ (Rep.bl_i.mpr rfl)⟩
noncomputable def cmpD (g:Int→Int→Bool):D→D→Sto→Out D
 | .int a,.int b,st => .ok (.bl (g a b)) st
 | _,_,_ => .bad
theorem op_cmpD {f:Value→Value→Sem Value} {g:Int→Int→Bool} (h:OpR X f (rI0 fun i j => .bl (g i j))):OpD X EX f (cmpD g):=by
 intro pins s σ H x y v u Q I rx ry h'
 obtain ⟨O,a,b,st,W,ra,rb,R⟩:=h'
 cases a <;> cases b <;> first | exact R.elim | skip
 rename_i i j
 rw [Rep.int_i] at ra rb
 subst ra rb
 exact h pins s σ H _ _ v u Q I rx ry ⟨i,j,rfl,rfl,Run.now (k:=Val X.K Q) R W _ (Rep.bl_i.mpr rfl)⟩
noncomputable def gtD:=cmpD fun i j=>decide (j<i)
theorem op_gtD:OpD X EX (compareOp .Gt) gtD:=op_cmpD op_gt
noncomputable def isN:D→Bool
 | .non=>true
 | _=>false
noncomputable def isNotD:D→D→Sto→Out D
 | a,.non,st => .ok (.bl (!isN a)) st
 | _,_,_ => .bad
theorem isN_rep {K:PySem.W.Frag} {O:List Addr} {H:Hp} {d:D} {v:V} (r:Rep K O H d v):decide (v = .non)=isN d:=by
 cases d with
 | non=>rw [Rep.non_i] at r; subst r; rfl
 | bl b=>rw [Rep.bl_i] at r; subst r; rfl
 | int b=>rw [Rep.int_i] at r; subst r; rfl
 | str b=>rw [Rep.str_i] at r; subst r; rfl
 | tup ds=>rw [Rep.tup_i] at r; obtain ⟨a,_,rfl,_⟩:=r; rfl
 | lst ds=>rw [Rep.lst_i] at r; obtain ⟨a,_,rfl,_⟩:=r; rfl
 | scr ds=>rw [Rep.scr_i] at r; obtain ⟨a,_,rfl,_⟩:=r; rfl
 | res i=>rw [Rep.res_i] at r; obtain ⟨a,rfl,_⟩:=r; rfl
 | exv C=>rw [Rep.exv_i] at r; obtain ⟨a,rfl,_⟩:=r; rfl
theorem op_isNotD:OpD X EX (compareOp .IsNot) isNotD:=by
 intro pins s σ H x y v u Q I rx ry h
 obtain ⟨O,a,b,st,W,ra,rb,R⟩:=h
 cases b <;> first | (simp only [isNotD] at R; exact R.elim) | skip
 rw [Rep.non_i] at rb
 exact op_notN pins s σ H x y v u Q I rx ry ⟨rb,by rw [isN_rep ra]; exact Run.now (k:=Val X.K Q) (by cases a <;> exact R) W _ (Rep.bl_i.mpr rfl)⟩
noncomputable def inN (st:Sto) (n:Nat) (x:D):List D→Option Bool
 | []=>some false
 | y :: ys=>match eqN st n y x,inN st n x ys with
  | some a,some b=>some (a || b)
  | _,_=>none
noncomputable def itemsOf (st:Sto):D→Option (List D)
 | .tup xs=>some xs
 | d=>seqL st d
noncomputable def notInD (x c:D) (st:Sto):Out D:=match itemsOf st c with
 | some ys=>match inN st depth x ys with
  | some k => .ok (.bl (!k)) st
  | none => .bad
 | none => .bad
open Classical in
theorem in_items {pins:List (Addr×Obj)} {σ:L2.St} {s:Shared} {O:List Addr} {H:Hp} {st:Sto} (I:Inv X pins σ H s) (W:WR X.K O H st) {x:D} {vx:V} {ux:Value} (rx:Rep X.K O H x vx) (qx:RelV vx ux) {A:Around} (hA:A.units+depth<cLine) :
  ∀ {ys:List D} {vs:List V} {its:List Value} {k:Bool},inN st depth x ys=some k→Reps X.K O H ys vs→Vals vs its →
   ∃ e:Value→Bool,(∀ z,e z=decide (∃ d v,Rep X.K O H d v∧RelV v z∧eqN st depth d x=some true))∧(∀ z∈its,SeqAt.EqAt A s z ux (e z))∧its.any e=k
 | [],vs,its,k,h,r,q=>by
  rw [Reps.nil_i] at r
  subst r
  cases q
  simp only [inN,Option.some.injEq] at h
  subst h
  exact ⟨fun z=>decide (∃ d v,Rep X.K O H d v∧RelV v z∧eqN st depth d x=some true),fun _=>rfl,(fun z hz=>(by cases hz)),rfl⟩
 | y :: ys,vs,its,k,h,r,q=>by
  obtain ⟨v,vs',rfl,ry,rs⟩:=Reps.cons_i.mp r
  cases q with
  | cons q1 q2 =>
   rename_i u us
   unfold inN at h
   cases e1:eqN st depth y x with
   | none=>rw [e1] at h; cases h
   | some a =>
    cases e2:inN st depth x ys with
    | none=>rw [e1,e2] at h; cases h
    | some b =>
     rw [e1,e2] at h
     simp only [Option.some.injEq] at h
     obtain ⟨e,he,h1,h2⟩:=in_items I W rx qx hA e2 rs q2
     have hu:e u=a:=by
      rw [he u]
      cases a with
      | true=>exact decide_eq_true ⟨y,v,ry,q1,e1⟩
      | false =>
       refine decide_eq_false ?_
       rintro ⟨d,v',r',q',e'⟩
       have ev:v'=v:=q'.inj q1
       subst ev
       have ed:=Rep.inj I W d y v' r' ry
       subst ed
       rw [e1] at e'
       cases e'
     refine ⟨e,he,fun z hz => ?_,?_⟩
     ·rcases List.mem_cons.mp hz with rfl | hz
      ·rw [hu]
       exact (eq_sound I W depth y x a e1 A v vx z ux ry rx q1 qx hA).1
      ·exact h1 z hz
     ·rw [List.any_cons,hu,h2]
      exact h
theorem in_units {A:Around} (hu:A.units+64<cLine):A.in1.units+depth<cLine:=by
 show A.units+1+50<cLine
 omega
theorem op_notInD (hu:X.A.units+64<cLine):OpD X EX (compareOp .NotIn) notInD:=by
 intro pins s σ H x y v u Q I rx ry h
 obtain ⟨O,a,b,st,W,ra,rb,R⟩:=h
 unfold notInD at R
 cases e1:itemsOf st b with
 | none=>rw [e1] at R; exact R.elim
 | some ys =>
  rw [e1] at R
  dsimp only at R
  cases e2:inN st depth a ys with
  | none=>rw [e2] at R; exact R.elim
  | some k =>
   rw [e2] at R
   have fin:EP X pins σ Q (.bool (!k)) s:=⟨.bl (!k),H,I,rfl,Run.now (k:=Val X.K Q) R W _ (Rep.bl_i.mpr rfl)⟩
   by_cases hb:∃ zs,b = .tup zs
   ·obtain ⟨zs,rfl⟩:=hb
    simp only [itemsOf,Option.some.injEq] at e1
    subst e1
    rw [Rep.tup_i] at rb
    obtain ⟨p,vs,rfl,q,r⟩:=rb
    cases ry
    obtain ⟨its,hv,hp,_⟩:=I.tuple (SqT.of q)
    obtain ⟨e,_,h1,h2⟩:=in_items I W ra rx (in_units hu) e2 r hv
    exact SeqAt.notIn_tupleAt e hp (fun z hz=>h1 z (by simpa using hz)) (by simpa [h2] using fin)
   ·have e3:seqL st b=some ys:=by
     cases b <;> first | exact e1 | exact absurd ⟨_,rfl⟩ hb
    obtain ⟨p,vs,rfl,q,r⟩:=rdL W rb e3
    cases ry
    obtain ⟨its,hv,hp,_⟩:=I.list q
    obtain ⟨e,_,h1,h2⟩:=in_items I W ra rx (in_units hu) e2 r hv
    exact SeqAt.notIn_listAt e hp.isList (fun z hz=>h1 z (by simpa using hz)) (by simpa [h2] using fin)
end
end DL
end
section
namespace DL
open PySem PySem.Spec PyProof.Rows L2
section
variable {X:Cx} {EX:EXT} {a b c e:Expr} {fa fb fc:DE} {pos p2:Pos} {ta tb:DT}
noncomputable abbrev DO:=Ev→Sto→Out (Option Int)
noncomputable def tDO (K:PySem.W.Frag) (EX:EXT) (f:DO):TO:=fun σ H Q => ∃ O ρ st,WR K O H st∧REnv K O H ρ σ∧Run K EX O H (f ρ st) (fun o _ _ H'=>Q o H')
noncomputable def PDO (X:Cx) (EX:EXT) (e:Option Expr) (f:DO):Prop:=PO X e (tDO X.K EX f)
noncomputable def dNoPart:DO:=fun _ st => .ok none st
noncomputable def asInt:D→Sto→Out (Option Int)
 | .int i,st => .ok (some i) st
 | _,_ => .bad
noncomputable def dPart (f:DE):DO:=fun ρ st=>(f ρ st).bind asInt
theorem PO.mono {e:Option Expr} {t t':TO} (h:PO X e t) (f:∀ σ H Q,t' σ H Q→t σ H Q):PO X e t':=fun pins s σ H Q I q=>h pins s σ H Q I (f σ H Q q)
theorem pdo_none:PDO X EX none dNoPart:=by
 refine PO.mono po_none ?_
 rintro σ H Q ⟨O,ρ,st,W,E,R⟩
 exact Run.now (k:=fun o _ _ H'=>Q o H') R W
theorem pdo_some {f:DE} (h:PD X EX e f):PDO X EX (some e) (dPart f):=by
 refine PO.mono (po_some h) ?_
 rintro σ H Q ⟨O,ρ,st,W,E,R⟩
 refine ⟨O,ρ,st,W,E,R.bind.mono fun d st1 O1 H1 k1 W1 R1 v r => ?_⟩
 cases d with
 | int i=>exact ⟨i,Rep.int_i.mp r,Run.now (k:=fun o _ _ H'=>Q o H') R1 W1⟩
 | _=>exact R1.elim
noncomputable def cutL {α:Type} (xs:List α) (lo hi:Option Int):List α:=(xs.drop (HT.sIx xs.length 0 lo)).take (HT.sIx xs.length xs.length hi - HT.sIx xs.length 0 lo)
theorem Reps.cut {K:PySem.W.Frag} {O:List Addr} {H:Hp} {ds:List D} {vs:List V} (r:Reps K O H ds vs) (lo hi:Option Int):Reps K O H (cutL ds lo hi) (cutV vs lo hi):=by
 unfold cutL cutV
 rw [r.length]
 exact (r.drop _).take _
noncomputable def rDS (K:PySem.W.Frag) (EX:EXT) (g:D→Option Int→Option Int→Sto→Out D):V→Option Int→Option Int→Hp→VK→Prop:=fun x lo hi H Q => ∃ O d st,WR K O H st∧Rep K O H d x∧Run K EX O H (g d lo hi st) (Val K Q)
noncomputable def dSl {α:Type} (g:D→Option Int→Option Int→Sto→Out α) (f:DE) (l h:DO):Ev→Sto→Out α:=fun ρ st=>(f ρ st).bind fun x st1=>(l ρ st1).bind fun lo st2=>(h ρ st2).bind fun hi st3=>g x lo hi st3
theorem pd_slice {g:D→Option Int→Option Int→Sto→Out D} {lo hi:Option Expr} {fl fh:DO} (hr:SlR X (rDS X.K EX g)) (he:PD X EX e fa) (hl:PDO X EX lo fl) (hh:PDO X EX hi fh):PD X EX (.Subscript e (.Slice lo hi none p2) pos) (dSl g fa fl fh):=by
 refine PE.mono (pe_slice hr he hl hh) ?_
 rintro σ H Q ⟨O,ρ,st,W,E,R⟩
 refine ⟨O,ρ,st,W,E,R.bind.mono fun x st1 O1 H1 k1 W1 R1 v r => ?_⟩
 refine ⟨O1,ρ,st1,W1,E.mono k1,R1.bind.mono fun lo st2 O2 H2 k2 W2 R2 => ?_⟩
 refine ⟨O2,ρ,st2,W2,E.mono (k1.trans k2),R2.bind.mono fun hi st3 O3 H3 k3 W3 R3 => ?_⟩
 exact ⟨O3,x,st3,W3,Rep.mono (k2.trans k3) x v r,R3⟩
noncomputable def cutT:D→Option Int→Option Int→Sto→Out D
 | .tup xs,lo,hi,st => .ok (.tup (cutL xs lo hi)) st
 | _,_,_,_ => .bad
theorem sl_T:SlR X (rDS X.K EX cutT):=by
 intro pins s σ H x v vl vu lo hi sl Q I rx hs pl pu h
 obtain ⟨O,d,st,W,r,R⟩:=h
 cases d with
 | tup xs =>
  rw [Rep.tup_i] at r
  obtain ⟨a,vs,rfl,q,rs⟩:=r
  by_cases hw:HT.sIx vs.length 0 lo=0∧HT.sIx vs.length vs.length hi=vs.length
  ·cases rx
   obtain ⟨its,hv,ht,hz⟩:=I.tuple (SqT.of q)
   have hlen:its.toArray.size=vs.length:=by rw [List.size_toArray]; exact hv.length.symm
   refine ⟨"tuple", _, PyProof.Rows.slot_tuple_getitem.lookup, ht.typeIs, HT.getItem_tuple_whole ht hs pl pu (by rw [hlen]; exact hw) ?_⟩
   have e:cutL xs lo hi=xs:=by
    unfold cutL
    rw [rs.length,hw.1,hw.2,List.drop_zero,Nat.sub_zero,← rs.length,List.take_length]
   refine ⟨.ref a,H,I,rfl,?_⟩
   dsimp only [cutT] at R
   rw [e] at R
   exact Run.now (k:=Val X.K Q) R W _ (Rep.tup_i.mpr ⟨a,vs,rfl,q,rs⟩)
  ·exact sl_tup pins s σ H _ v vl vu lo hi sl Q I rx hs pl pu ⟨a,vs,rfl,SqT.of q,hw,fun p hp=>new_tup W (rs.cut lo hi) hp R⟩
 | _=>exact R.elim
noncomputable def ixD (d:D) (i:D) (st:Sto):Out D:=match i with
 | .int k=>match d with
  | .str z=>if z.length≤small then (match atI z.cps.toList k with
   | some c => .ok (.str ⟨#[c]⟩) st
   | none => .bad) else .bad
  | _=>match itemsOf st d with
   | some xs=>match atI xs k with
    | some x => .ok x st
    | none => .bad
   | none => .bad
 | _ => .bad
theorem Reps.atI {K:PySem.W.Frag} {O:List Addr} {H:Hp} {ds:List D} {vs:List V} {k:Int} {d:D} (r:Reps K O H ds vs) (h:L2.atI ds k=some d):∃ v,L2.atI vs k=some v∧Rep K O H d v:=by
 unfold L2.atI at h ⊢
 rw [← r.length]
 cases e:ixN ds.length k with
 | none=>rw [e] at h; cases h
 | some j =>
  rw [e] at h
  obtain ⟨v,h1,h2⟩:=r.get (i:=j) (d:=d) h
  exact ⟨v,h1,h2⟩
theorem ix_D:IxR X (rD2 X.K EX ixD):=by
 intro value slice pins s σ H x y v u Q I rx ry h hsub
 obtain ⟨O,d,i,st,W,rd,ri,R⟩:=h
 cases i with
 | int k =>
  rw [Rep.int_i] at ri
  subst ri
  have seq:∀ xs,itemsOf st d=some xs→Run X.K EX O H (match L2.atI xs k with
    | some x => .ok x st
    | none => .bad) (Val X.K Q)→wpAny (model X.prog X.w) X.A (subscriptTail value slice v u) (EP X pins σ Q) X.xe s:=by
   intro xs e1 R'
   clear R
   cases e2:L2.atI xs k with
   | none=>rw [e2] at R'; exact R'.elim
   | some z =>
    rw [e2] at R'
    by_cases hb:∃ zs,d = .tup zs
    ·obtain ⟨zs,rfl⟩:=hb
     simp only [itemsOf,Option.some.injEq] at e1
     subst e1
     rw [Rep.tup_i] at rd
     obtain ⟨p,vs,rfl,q,r⟩:=rd
     obtain ⟨w,h1,h2⟩:=r.atI e2
     exact ix_tup value slice pins s σ H _ _ v u Q I rx ry ⟨p,vs,k,w,rfl,rfl,SqT.of q,h1,Run.now (k:=Val X.K Q) R' W _ h2⟩ hsub
    ·have e3:seqL st d=some xs:=by
      cases d <;> first | exact e1 | exact absurd ⟨_,rfl⟩ hb
     obtain ⟨p,vs,rfl,q,r⟩:=rdL W rd e3
     obtain ⟨w,h1,h2⟩:=r.atI e2
     exact ix_list value slice pins s σ H _ _ v u Q I rx ry ⟨p,vs,k,w,rfl,rfl,q,h1,Run.now (k:=Val X.K Q) R' W _ h2⟩ hsub
  cases d with
  | str z =>
   rw [Rep.str_i] at rd
   subst rd
   dsimp only [ixD] at R
   by_cases hz:z.length≤small
   ·rw [if_pos hz] at R
    cases e:L2.atI z.cps.toList k with
    | none=>rw [e] at R; exact R.elim
    | some c =>
     rw [e] at R
     exact ix_str value slice pins s σ H _ _ v u Q I rx ry ⟨z,k,c,rfl,rfl,Nat.le_trans hz small_le,e,Run.now (k:=Val X.K Q) R W _ (Rep.str_i.mpr rfl)⟩ hsub
   ·rw [if_neg hz] at R; exact R.elim
  | tup xs=>exact seq xs rfl R
  | lst xs=>exact seq xs rfl R
  | scr xs=>exact seq xs rfl R
  | res j =>
   dsimp only [ixD] at R
   cases e:itemsOf st (.res j) with
   | none=>rw [e] at R; exact R.elim
   | some xs=>rw [e] at R; exact seq xs e R
  | _=>exact R.elim
 | _=>exact R.elim
theorem pd_ix (ha:PD X EX a fa) (hb:PD X EX b fb) (hs:PlainIx b:=by intro _ _; rfl):PD X EX (.Subscript a b pos) (dBin ixD fa fb):=PE.mono (pe_ix ix_D ha hb hs) bin_imp
noncomputable def dCall {α:Type} (g:List D→Sto→Out α) (f:DA):Ev→Sto→Out α:=fun ρ st=>(f ρ st).bind g
theorem call_imp {g:List D→Sto→Out D} {f:DA}:∀ σ H Q,tD X.K EX (dCall g f) σ H Q→tCB (rDC X.K EX g) (tDA X.K EX f) σ H Q:=by
 rintro σ H Q ⟨O,ρ,st,W,E,R⟩
 exact ⟨O,ρ,st,W,E,R.bind.mono fun ds st1 O1 H1 k1 W1 R1 vs r=>⟨O1,ds,st1,W1,r,R1⟩⟩
theorem callF_imp {g:List D→Sto→Out (List D)} {f:DA}:∀ σ H Q,tDF X.K EX (dCall g f) σ H Q→tCB (rDCF X.K EX g) (tDA X.K EX f) σ H Q:=by
 rintro σ H Q ⟨O,ρ,st,W,E,R⟩
 exact ⟨O,ρ,st,W,E,R.bind.mono fun ds st1 O1 H1 k1 W1 R1 vs r=>⟨O1,ds,st1,W1,r,R1⟩⟩
theorem pd_callB {x : Str} {p : Pos} {es : List Expr} {id : String} {g : List D → Sto → Out D} {f : DA} (hc : CallD X EX (.builtin id) g) (hg : Gl X x) (hm : X.mg x = none) (hv : bootBuiltins x = some (.builtin id)) (ha : PDA X EX (e :: es) f) (hn : x ≠ "__name__" := by decide) (hdb : (x == ("__debug__" : Str)) = false := by decide)
  (he:starEach (e :: es) X.env=(false,eval e X.env) :: starEach es X.env:=by rfl) (hpl:(backTo pos (starEach es X.env)).any (·.1)=false:=by rfl):PD X EX (.Call (.Name x p) (e :: es) [] pos) (dCall g f):=PE.mono (pe_callB hc hg hm hv ha hn hdb he hpl) call_imp
theorem pd_callTy {x : Str} {p : Pos} {es : List Expr} {T : String} {g : List D → Sto → Out D} {f : DA} (hc : CallD X EX (.type T) g) (hg : Gl X x) (hm : X.mg x = none) (hv : bootBuiltins x = some (.type T)) (ha : PDA X EX (e :: es) f) (hn : x ≠ "__name__" := by decide) (hdb : (x == ("__debug__" : Str)) = false := by decide)
  (he:starEach (e :: es) X.env=(false,eval e X.env) :: starEach es X.env:=by rfl) (hpl:(backTo pos (starEach es X.env)).any (·.1)=false:=by rfl):PD X EX (.Call (.Name x p) (e :: es) [] pos) (dCall g f):=PE.mono (pe_callTy hc hg hm hv ha hn hdb he hpl) call_imp
theorem pdf_callTy {x : Str} {p : Pos} {es : List Expr} {T : String} {g : List D → Sto → Out (List D)} {f : DA} (hc : CallF X EX (.type T) g) (hg : Gl X x) (hm : X.mg x = none) (hv : bootBuiltins x = some (.type T)) (ha : PDA X EX (e :: es) f) (hn : x ≠ "__name__" := by decide) (hdb : (x == ("__debug__" : Str)) = false := by decide)
  (he:starEach (e :: es) X.env=(false,eval e X.env) :: starEach es X.env:=by rfl) (hpl:(backTo pos (starEach es X.env)).any (·.1)=false:=by rfl):PDF X EX (.Call (.Name x p) (e :: es) [] pos) (dCall g f):=PE.mono (pe_callTy hc hg hm hv ha hn hdb he hpl) callF_imp
noncomputable def lenD:List D→Sto→Out D
 | [.str x],st=>if x.length≤small then .ok (.int x.length) st else .bad
 | [d],st=>match itemsOf st d with
  | some xs => .ok (.int xs.length) st
  | none => .bad
 | _,_ => .bad
theorem itemsOf_rd {O:List Addr} {H:Hp} {st:Sto} (W:WR X.K O H st) {d:D} {v:V} {xs:List D} (r:Rep X.K O H d v) (e:itemsOf st d=some xs):∃ p vs,v = .ref p∧(SqL X.K H p vs∨H p=some (.tup vs))∧Reps X.K O H xs vs:=by
 by_cases hb:∃ zs,d = .tup zs
 ·obtain ⟨zs,rfl⟩:=hb
  simp only [itemsOf,Option.some.injEq] at e
  subst e
  rw [Rep.tup_i] at r
  obtain ⟨p,vs,rfl,q,r⟩:=r
  exact ⟨p,vs,rfl,.inr q,r⟩
 ·have e3:seqL st d=some xs:=by
   cases d <;> first | exact e | exact absurd ⟨_,rfl⟩ hb
  obtain ⟨p,vs,rfl,q,r⟩:=rdL W r e3
  exact ⟨p,vs,rfl,.inl q,r⟩
theorem Reps.one_of {K:PySem.W.Frag} {O:List Addr} {H:Hp} {d:D} {vs:List V} (h:Reps K O H [d] vs):∃ v,vs=[v]∧Rep K O H d v:=by
 obtain ⟨v,r,rfl,q,t⟩:=Reps.cons_i.mp h
 rw [Reps.nil_i] at t
 subst t
 exact ⟨v,rfl,q⟩
theorem call_lenD : CallD X EX (.builtin "len") lenD := by
 intro pins s σ H xs us Q I rx h
 obtain ⟨O,ds,st,W,r,R⟩:=h
 match ds,r,R with
 | [],_,R=>exact R.elim
 | [d],r,R =>
  obtain ⟨v,rfl,rv⟩:=r.one_of
  have seq : ∀ zs, itemsOf st d = some zs → Run X.K EX O H (.ok (.int zs.length) st) (Val X.K Q) → wpAny (model X.prog X.w) X.A (PySem.call (.builtin "len") us) (EP X pins σ Q) X.xe s := by
   intro zs e R
   obtain ⟨p,vs,rfl,q,rs⟩:=itemsOf_rd W rv e
   exact call_len_seq pins s σ H _ us Q I rx ⟨p,vs,rfl,q.imp_right SqT.of,by rw [← rs.length]; exact Run.now (k:=Val X.K Q) R W _ (Rep.int_i.mpr rfl)⟩
  cases d with
  | str x =>
   rw [Rep.str_i] at rv
   subst rv
   dsimp only [lenD] at R
   by_cases hz:x.length≤small
   ·rw [if_pos hz] at R
    exact call_len_str pins s σ H _ us Q I rx ⟨x,rfl,Nat.le_trans hz small_le,Run.now (k:=Val X.K Q) R W _ (Rep.int_i.mpr rfl)⟩
   ·rw [if_neg hz] at R; exact R.elim
  | tup zs=>exact seq zs rfl R
  | lst zs=>exact seq zs rfl R
  | scr zs=>exact seq zs rfl R
  | res j =>
   dsimp only [lenD] at R
   cases e:itemsOf st (.res j) with
   | none=>rw [e] at R; exact R.elim
   | some xs=>rw [e] at R; exact seq xs e R
  | _=>exact R.elim
 | d1 :: _ :: _,_,R=>cases d1 <;> exact R.elim
noncomputable def listF:List D→Sto→Out (List D)
 | [d],st=>match itemsOf st d with
  | some xs => .ok xs st
  | none => .bad
 | _,_ => .bad
noncomputable def tupleD:List D→Sto→Out D
 | [d],st=>match itemsOf st d with
  | some xs => .ok (.tup xs) st
  | none => .bad
 | _,_ => .bad
theorem call_listF : CallF X EX (.type "list") listF := by
 intro pins s σ H xs us Q I rx h
 obtain ⟨O,ds,st,W,r,R⟩:=h
 match ds,r,R with
 | [],_,R=>exact R.elim
 | [d],r,R =>
  obtain ⟨v,rfl,rv⟩:=r.one_of
  dsimp only [listF] at R
  cases e:itemsOf st d with
  | none=>rw [e] at R; exact R.elim
  | some zs =>
   rw [e] at R
   obtain ⟨p,vs,rfl,q,rs⟩:=itemsOf_rd W rv e
   exact call_list_of pins s σ H _ us Q I rx ⟨p,vs,rfl,q.imp_right SqT.of,fun l hl=>Run.now (k:=New X.K Q) R W l _ rs hl⟩
 | _ :: _ :: _,_,R=>exact R.elim
theorem call_tupleD : CallD X EX (.type "tuple") tupleD := by
 intro pins s σ H xs us Q I rx h
 obtain ⟨O,ds,st,W,r,R⟩:=h
 match ds,r,R with
 | [],_,R=>exact R.elim
 | [d],r,R =>
  obtain ⟨v,rfl,rv⟩:=r.one_of
  dsimp only [tupleD] at R
  cases e:itemsOf st d with
  | none=>rw [e] at R; exact R.elim
  | some zs =>
   rw [e] at R
   obtain ⟨p,vs,rfl,q,rs⟩:=itemsOf_rd W rv e
   rcases q with q | q
   ·exact call_tuple_of pins s σ H _ us Q I rx ⟨p,vs,rfl,.inl ⟨q,fun l hl=>new_tup W rs hl R⟩⟩
   ·exact call_tuple_of pins s σ H _ us Q I rx ⟨p,vs,rfl,.inr ⟨SqT.of q,Run.now (k:=Val X.K Q) R W _ (Rep.tup_i.mpr ⟨p,vs,rfl,q,rs⟩)⟩⟩
 | _ :: _ :: _,_,R=>exact R.elim
noncomputable def intD:List D→Sto→Out D
 | [.int i],st => .ok (.int i) st
 | [.bl k],st => .ok (.int (if k then 1 else 0)) st
 | _,_ => .bad
theorem call_intD : CallD X EX (.type "int") intD := by
 intro pins s σ H xs us Q I rx h
 obtain ⟨O,ds,st,W,r,R⟩:=h
 unfold intD at R
 split at R
 ·obtain ⟨v,rfl,r1⟩:=r.one_of
  rw [Rep.int_i] at r1
  subst r1
  exact call_int1 pins s σ H _ us Q I rx (.inl ⟨_,rfl,Run.now (k:=Val X.K Q) R W _ (Rep.int_i.mpr rfl)⟩)
 ·obtain ⟨v,rfl,r1⟩:=r.one_of
  rw [Rep.bl_i] at r1
  subst r1
  exact call_int1 pins s σ H _ us Q I rx (.inr ⟨_,rfl,Run.now (k:=Val X.K Q) R W _ (Rep.int_i.mpr rfl)⟩)
 ·exact R.elim
end
end DL
end
section
namespace DL
open PySem PySem.Spec PyProof.Rows L2
noncomputable abbrev FD:=List D→Sto→Out D
noncomputable def spD (K:PySem.W.Frag) (F:FD):Sp:=fun vs H Q E => ∃ O ds st,WR K O H st∧Reps K O H ds vs∧Run K (fun c _ _ H'=>E (.ref c) Option.none H') O H (F ds st) (Val K Q)
noncomputable def eOf (EX:EXT):XK:=fun Cv _ H' => ∃ c st O',Cv = .ref c∧EX c st O' H'
noncomputable abbrev XeOk (CX:CXT) (X:Cx) (EX:EXT):Prop:=Passes CX X (eOf EX)
theorem xe0 {X:Cx} {EX:EXT}:XeOk CX0 X EX:=fun _ _ _ _ _ _ _ h=>h.elim
theorem Run.ex {K:PySem.W.Frag} {EX EX':EXT} {α:Type} {O:List Addr} {H:Hp} {r:Out α} {k:α→Sto→List Addr→Hp→Prop} (h:Run K EX O H r k) (f:∀ c st O' H',EX c st O' H'→EX' c st O' H'):Run K EX' O H r k:=by
 cases r with
 | ok a st=>exact h
 | exc c st=>exact fun O' H' kp W=>f _ _ _ _ (h O' H' kp W)
 | bad=>exact h
theorem Run.eOf {K:PySem.W.Frag} {EX:EXT} {α:Type} {O:List Addr} {H:Hp} {r:Out α} {k:α→Sto→List Addr→Hp→Prop} (h:Run K EX O H r k):Run K (fun c _ _ H'=>eOf EX (.ref c) Option.none H') O H r k :=
 h.ex fun c st O' H' z=>⟨c,st,O',rfl,z⟩
noncomputable def putFD (f:Str) (d:D):List (Str×D)→List (Str×D)
 | []=>[(f,d)]
 | (g,x) :: r=>if g=f then (g,d) :: r else (g,x) :: putFD f d r
theorem Flds.put {K:PySem.W.Frag} {O:List Addr} {H:Hp} {f:Str} {d:D} {v:V} (q:Rep K O H d v):∀ {ds:List (Str×D)} {vs:List (Str×V)},Flds K O H ds vs→Flds K O H (putFD f d ds) (putF f v vs)
 | [],vs,h=>by
  unfold Flds at h
  subst h
  show Flds K O H [(f,d)] [(f,v)]
  unfold Flds
  exact ⟨v,[],rfl,q,by unfold Flds; rfl⟩
 | (x,e) :: ds,vs,h=>by
  unfold Flds at h
  obtain ⟨u,r,rfl,q',t⟩:=h
  unfold putFD putF
  by_cases hx:x=f
  ·rw [if_pos hx,if_pos hx]
   unfold Flds
   exact ⟨v,r,rfl,q,t⟩
  ·rw [if_neg hx,if_neg hx]
   unfold Flds
   exact ⟨u,putF f v r,rfl,q',Flds.put q t⟩
theorem Flds.length {K:PySem.W.Frag} {O:List Addr} {H:Hp}:∀ {ds:List (Str×D)} {vs:List (Str×V)},Flds K O H ds vs→ds.length=vs.length
 | [],vs,h=>by unfold Flds at h; subst h; rfl
 | (x,e) :: ds,vs,h=>by
  unfold Flds at h
  obtain ⟨u,r,rfl,q',t⟩:=h
  rw [List.length_cons,List.length_cons,Flds.length t]
section
variable {X:Cx} {EX:EXT} {a b c e o:Expr} {fa fb fc fo:DE} {pos p apos:Pos} {ta tb:DT} {CX:CXT} {k:Nat} {f C:Addr} {fd:FuncData} {ps:List Str} {n:Nat} {F:FD} {x m:Str} {es:List Expr} {g:DA}
theorem pd_call (G:FnOk X.prog X.w X.K X.mg X.base CX k f fd ps (spD X.K F)) (hr:Room k X.A) (hg:Gl X x) (hm:X.mg x=some (.ref f)) (hk:PySem.W.keepIn X.K (.ref f)=true) (hb:Binds X.K fd ps []) (hx:XeOk CX X EX) (ha:PDA X EX (e :: es) g)
  (hdb : (x == ("__debug__" : Str)) = false := by decide) (he : starEach (e :: es) X.env = (false, eval e X.env) :: starEach es X.env := by rfl) (hpl : (backTo pos (starEach es X.env)).any (·.1) = false := by rfl) :
  PD X EX (.Call (.Name x p) (e :: es) [] pos) (dCall F g):=by
 refine PE.mono (pe_call G hr hg hm hk hb .nil hx ha hdb he hpl) ?_
 rintro σ H Q ⟨O,ρ,st,W,E,R⟩
 refine ⟨O,ρ,st,W,E,R.bind.mono fun ds st1 O1 H1 k1 W1 R2 vs r => ?_⟩
 dsimp only
 rw [List.append_nil]
 exact ⟨O1,ds,st1,W1,r,R2.eOf⟩
end
inductive OutS where
 | nx (ρ:Ev) (st:Sto) | rt (d:D) (st:Sto) | bk (ρ:Ev) (st:Sto) | ct (ρ:Ev) (st:Sto) | exc (c:Addr) (st:Sto) | bad
noncomputable abbrev DS:=Ev→Sto→OutS
noncomputable def RunS (K:PySem.W.Frag) (EX:EXT) (Dn:Ends) (O:List Addr) (H:Hp):OutS→Prop
 | .nx ρ st => ∀ O' H' σ,Keep K O H O' H'→WR K O' H' st→REnv K O' H' ρ σ→Dn.nx σ H'
 | .bk ρ st => ∀ O' H' σ,Keep K O H O' H'→WR K O' H' st→REnv K O' H' ρ σ→Dn.bk σ H'
 | .ct ρ st => ∀ O' H' σ,Keep K O H O' H'→WR K O' H' st→REnv K O' H' ρ σ→Dn.ct σ H'
 | .rt d st => ∀ O' H' v,Keep K O H O' H'→WR K O' H' st→Rep K O' H' d v→Dn.rt v H'
 | .exc c st => ∀ O' H',Keep K O H O' H'→WR K O' H' st→EX c st O' H'
 | .bad=>False
noncomputable def tDS (K:PySem.W.Frag) (EX:EXT) (g:DS):TS:=fun Dn σ H => ∃ O ρ st,WR K O H st∧REnv K O H ρ σ∧RunS K EX Dn O H (g ρ st)
noncomputable def PDs (X:Cx) (EX:EXT) (s:Stmt) (g:DS):Prop:=PS X s (tDS X.K EX g)
noncomputable def PDS (X:Cx) (EX:EXT) (ss:List Stmt) (g:DS):Prop:=PSs X ss (tDS X.K EX g)
theorem RunS.later {K:PySem.W.Frag} {EX:EXT} {Dn:Ends} {O O':List Addr} {H H':Hp} {r:OutS} (h:RunS K EX Dn O H r) (kp:Keep K O H O' H'):RunS K EX Dn O' H' r:=by
 cases r with
 | bad=>exact h
 | exc c st=>exact fun O2 H2 k2 W2=>h O2 H2 (kp.trans k2) W2
 | rt d st=>exact fun O2 H2 v k2 W2 r2=>h O2 H2 v (kp.trans k2) W2 r2
 | nx ρ st=>exact fun O2 H2 v k2 W2 r2=>h O2 H2 v (kp.trans k2) W2 r2
 | bk ρ st=>exact fun O2 H2 v k2 W2 r2=>h O2 H2 v (kp.trans k2) W2 r2
 | ct ρ st=>exact fun O2 H2 v k2 W2 r2=>h O2 H2 v (kp.trans k2) W2 r2
noncomputable def Out.to {α:Type} (r:Out α) (k:α→Sto→OutS):OutS:=match r with
 | .ok a st=>k a st
 | .exc c st => .exc c st
 | .bad => .bad
theorem RunS.to {K:PySem.W.Frag} {EX:EXT} {Dn:Ends} {α:Type} {O:List Addr} {H:Hp} {r:Out α} {g:α→Sto→OutS} (h:RunS K EX Dn O H (r.to g)):Run K EX O H r (fun a st O' H'=>RunS K EX Dn O' H' (g a st)):=by
 cases r with
 | ok a st=>exact fun O' H' kp W=>RunS.later (r:=g a st) h kp
 | exc c st=>exact h
 | bad=>exact h
section
variable {X:Cx} {EX:EXT} {a b c e o tg:Expr} {fa fb fc fo:DE} {pos p apos:Pos} {ta tb:DT} {s:Stmt} {ss:List Stmt} {g g':DS} {x:Str} {C:Addr}
noncomputable def sNext:DS:=fun ρ st => .nx ρ st
noncomputable def sSeq (g g':DS):DS:=fun ρ st=>match g ρ st with
 | .nx ρ' st'=>g' ρ' st'
 | r=>r
theorem pds_nil:PDS X EX [] sNext:=by
 refine PSs.mono pss_nil ?_
 rintro Dn σ H ⟨O,ρ,st,W,E,R⟩
 exact R O H σ Keep.refl W E
theorem pds_cons (h1:PDs X EX s g) (h2:PDS X EX ss g'):PDS X EX (s :: ss) (sSeq g g'):=by
 refine PSs.mono (pss_cons h1 h2) ?_
 rintro Dn σ H ⟨O,ρ,st,W,E,R⟩
 refine ⟨O,ρ,st,W,E,?_⟩
 unfold sSeq at R
 cases hg:g ρ st with
 | nx ρ' st' =>
  rw [hg] at R
  exact fun O' H' σ' kp W' E'=>⟨O',ρ',st',W',E',RunS.later R kp⟩
 | _=>rw [hg] at R; exact R
theorem pds_one (h1:PDs X EX s g):PDS X EX [s] g:=pss_one h1
noncomputable def sExpr (f:DE):DS:=fun ρ st=>(f ρ st).to fun _ st1 => .nx ρ st1
theorem pd_expr (he:PD X EX e fa) (hs:swapsWith e none pos.line X.env=pure false:=by rfl):PDs X EX (.Expr e pos) (sExpr fa):=by
 refine PS.mono (ps_expr he hs) ?_
 rintro Dn σ H ⟨O,ρ,st,W,E,R⟩
 exact ⟨O,ρ,st,W,E,R.to.mono fun d st1 O1 H1 k1 W1 R1 v r=>R1 O1 H1 σ Keep.refl W1 (E.mono k1)⟩
noncomputable def sRet (f:DE):DS:=fun ρ st=>(f ρ st).to fun d st1 => .rt d st1
theorem pd_ret (he:PD X EX e fa):PDs X EX (.Return (some e) pos) (sRet fa):=by
 refine PS.mono (ps_ret he) ?_
 rintro Dn σ H ⟨O,ρ,st,W,E,R⟩
 exact ⟨O,ρ,st,W,E,R.to.mono fun d st1 O1 H1 k1 W1 R1 v r=>R1 O1 H1 v Keep.refl W1 r⟩
noncomputable def sIf (t:DT) (g g':DS):DS:=fun ρ st=>(t ρ st).to fun x st1=>if x=true then g ρ st1 else g' ρ st1
theorem pd_if {sa sb:List Stmt} (hc:PDT X EX c ta) (ha:PDS X EX sa g) (hb:PDS X EX sb g'):PDs X EX (.If c sa sb pos) (sIf ta g g'):=by
 refine PS.mono (ps_if hc ha hb) ?_
 rintro Dn σ H ⟨O,ρ,st,W,E,R⟩
 refine ⟨O,ρ,st,W,E,R.to.mono fun x st1 O1 H1 k1 W1 R1 => ?_⟩
 cases x with
 | true=>exact ⟨O1,ρ,st1,W1,E.mono k1,R1⟩
 | false=>exact ⟨O1,ρ,st1,W1,E.mono k1,R1⟩
noncomputable def sSet (i:Nat) (f:DE):DS:=fun ρ st=>(f ρ st).to fun d st1 => .nx (ρ.set i (some d)) st1
theorem pd_set (i:Nat) {pos':Pos} (hN:X.N.Nodup) (hi:X.N[i]?=some x) (hx:Loc X.env.scope x) (he:PD X EX e fa) (hs:swapsWith e (some (.Name x pos')) pos.line X.env=pure false:=by rfl)
  (hf:X.fn x=true∨X.env.scope.names.lookup x=some .local:=by first | exact .inl rfl | exact .inr rfl | assumption):PDs X EX (.Assign [.Name x pos'] e pos) (sSet i fa):=by
 refine PS.mono (ps_set hN hi hx he hs hf) ?_
 rintro Dn σ H ⟨O,ρ,st,W,E,R⟩
 exact ⟨O,ρ,st,W,E,R.to.mono fun d st1 O1 H1 k1 W1 R1 v r=>R1 O1 H1 _ Keep.refl W1 ((E.mono k1).set r)⟩
noncomputable def sSetF (i:Nat) (f:DA):DS:=fun ρ st=>(f ρ st).to fun ds st1 => .nx (ρ.set i (some (.res st1.length))) (st1++[.lst ds])
theorem pd_setF (i:Nat) {f:DA} {pos':Pos} (hN:X.N.Nodup) (hi:X.N[i]?=some x) (hx:Loc X.env.scope x) (he:PDF X EX e f) (hs:swapsWith e (some (.Name x pos')) pos.line X.env=pure false:=by rfl)
  (hf:X.fn x=true∨X.env.scope.names.lookup x=some .local:=by first | exact .inl rfl | exact .inr rfl | assumption):PDs X EX (.Assign [.Name x pos'] e pos) (sSetF i f):=by
 refine PS.mono (ps_set hN hi hx he hs hf) ?_
 rintro Dn σ H ⟨O,ρ,st,W,E,R⟩
 exact ⟨O,ρ,st,W,E,R.to.mono fun ds st1 O1 H1 k1 W1 R1 p vs r hp=>R1 (O1++[p]) _ _ (Keep.push hp) (W1.push hp r) ((E.mono (k1.trans (Keep.push hp))).set (rep_last W1.len))⟩
noncomputable def runF (N n:Nat) (g:DS):FD:=fun ds st=>if ds.length=n then (match g (ds.map some++List.replicate (N - n) none) st with
 | .nx _ st' => .ok .non st'
 | .rt d st' => .ok d st'
 | _ => .bad) else .bad
end
section
variable {P:Program} {w:World} {K:PySem.W.Frag} {mg:Str→Option Value} {base:Heap}
theorem renv_start {O:List Addr} {H:Hp} {N:List Str}:∀ {ds:List D} {vs:List V} (m:Nat),Reps K O H ds vs→REnv K O H (ds.map some++List.replicate m none) (vs.map some++List.replicate m none):=by
 intro ds vs m r
 refine ⟨by simp [r.length],fun i d h => ?_⟩
 by_cases hi:i<ds.length
 ·rw [List.getElem?_append_left (by simpa using hi)] at h
  rw [List.getElem?_map] at h
  cases e:ds[i]? with
  | none=>rw [e] at h; cases h
  | some d' =>
   rw [e] at h
   simp only [Option.map_some,Option.some.injEq] at h
   subst h
   obtain ⟨v,h1,h2⟩:=r.get e
   exact ⟨v,by rw [List.getElem?_append_left (by rw [List.length_map,← r.length]; exact hi),List.getElem?_map,h1]; rfl,h2⟩
 ·rw [List.getElem?_append_right (by rw [List.length_map]; omega),List.getElem?_replicate] at h
  split at h <;> cases h
theorem fnD {x qual:Str} {st:Stmt} {f:Addr} {fd:FuncData} {N ps:List Str} {k:Nat} {g:DS} (F:Fun K x qual st f fd) (S:FnScope N ps (defScope st))
  (hbody:∀ (cdv:Value) (A:Around) (outer:List Env) (s:Shared) (H:Hp) (E:XK),Room k (A.deeper (envOfC qual (defScope st) s.heap.objs.size f cdv)) →
   PDS (cxOf CX0 P w K mg base N qual (defScope st) f cdv A outer s H E).nox EX0 (defBody st) g):FnOk P w K mg base CX0 (k+1) f fd ps (spD K (runF N.length ps.length g)):=by
 have hlen:∀ vs H Q E,spD K (runF N.length ps.length g) vs H Q E→vs.length=ps.length:=by
  rintro vs H Q E ⟨O,ds,st,W,r,R⟩
  unfold runF at R
  by_cases hl:ds.length=ps.length
  ·rw [← r.length]; exact hl
  ·rw [if_neg hl] at R; exact R.elim
 refine F.ok S hlen fun cdv A outer s H vs Q E hr h => ?_
 refine ⟨_,hbody cdv A outer s H E hr,?_⟩
 have hl:=hlen vs H Q E h
 obtain ⟨O,ds,st,W,r,R⟩:=h
 have hd:ds.length=ps.length:=by rw [r.length]; exact hl
 unfold runF at R
 rw [if_pos hd] at R
 refine ⟨O,ds.map some++List.replicate (N.length - ps.length) none,st,W,?_,?_⟩
 ·unfold L2.start
  rw [hl]
  exact renv_start (N:=N) _ r
 ·cases hg:g (ds.map some++List.replicate (N.length - ps.length) none) st with
  | nx ρ st'=>rw [hg] at R; exact fun O' H' σ kp W' _=>R O' H' kp W' _ (Rep.non_i.mpr rfl)
  | rt d st'=>rw [hg] at R; exact fun O' H' v kp W' rv=>R O' H' kp W' v rv
  | exc c st'=>rw [hg] at R; exact R.elim
  | bad=>rw [hg] at R; exact R
  | bk ρ st'=>rw [hg] at R; exact R.elim
  | ct ρ st'=>rw [hg] at R; exact R.elim
end
end DL
end
section
namespace DL
open PySem PySem.Spec PyProof.Rows L2
noncomputable abbrev TgD:=D→Ev→Option Ev
noncomputable def tgD (K:PySem.W.Frag) (t:TgD):TG:=fun v σ H Q => ∃ O d ρ ρ',Rep K O H d v∧REnv K O H ρ σ∧t d ρ=some ρ'∧∀ σ',REnv K O H ρ' σ'→Q σ' H
noncomputable def PGD (X:Cx) (tg:Expr) (t:TgD):Prop:=PG X tg (tgD X.K t)
theorem PG.mono {X:Cx} {tg:Expr} {t t':TG} (h:PG X tg t) (f:∀ v σ H Q,t' v σ H Q→t v σ H Q):PG X tg t':=fun pins s σ H v u Q I r q=>h pins s σ H v u Q I r (f v σ H Q q)
theorem PGs.mono {X:Cx} {tg:List Expr} {t t':TGs} (h:PGs X tg t) (f:∀ v σ H Q,t' v σ H Q→t v σ H Q):PGs X tg t':=fun pins s σ H v u Q I r q=>h pins s σ H v u Q I r (f v σ H Q q)
noncomputable def tgName (i:Nat):TgD:=fun d ρ=>some (ρ.set i (some d))
noncomputable def setAll:List Nat→List D→Ev→Ev
 | i :: is,d :: ds,ρ=>setAll is ds (ρ.set i (some d))
 | _,_,ρ=>ρ
noncomputable def tgsD (K:PySem.W.Frag) (is:List Nat):TGs:=fun vs σ H Q => ∃ O ds ρ,Reps K O H ds vs∧REnv K O H ρ σ∧ds.length=is.length∧∀ σ',REnv K O H (setAll is ds ρ) σ'→Q σ' H
noncomputable def tgTup (is:List Nat):TgD
 | .tup ds,ρ=>if ds.length=is.length then some (setAll is ds ρ) else none
 | _,_=>none
section
variable {X:Cx} {EX:EXT} {pos:Pos} {x:Str}
theorem pgd_name (i:Nat) (hN:X.N.Nodup) (hi:X.N[i]?=some x) (hx:Loc X.env.scope x) (hf:X.fn x=true∨X.env.scope.names.lookup x=some .local:=by first | exact .inl rfl | exact .inr rfl | assumption):PGD X (.Name x pos) (tgName i):=by
 refine PG.mono (pg_name hN hi hx hf) ?_
 rintro v σ H Q ⟨O,d,ρ,ρ',r,E,ht,q⟩
 cases ht
 exact q _ (E.set r)
theorem pgsd_nil:PGs X [] (tgsD X.K []):=by
 refine PGs.mono pgs_nil ?_
 rintro vs σ H Q ⟨O,ds,ρ,r,E,hl,q⟩
 have e:ds=[]:=List.length_eq_zero_iff.mp hl
 subst e
 rw [Reps.nil_i] at r
 exact ⟨r,q _ E⟩
theorem pgsd_cons (i:Nat) {is:List Nat} {es:List Expr} (hN:X.N.Nodup) (hi:X.N[i]?=some x) (hx:Loc X.env.scope x) (h2:PGs X es (tgsD X.K is)) (hf:X.fn x=true∨X.env.scope.names.lookup x=some .local:=by first | exact .inl rfl | exact .inr rfl | assumption)
  (hs:(assignEach (.Name x pos :: es) X.env).map (·.2)=assign (.Name x pos) X.env :: (assignEach es X.env).map (·.2):=by rfl):PGs X (.Name x pos :: es) (tgsD X.K (i :: is)):=by
 refine PGs.mono (pgs_cons (pg_name hN hi hx hf) h2 hs) ?_
 rintro vs σ H Q ⟨O,ds,ρ,r,E,hl,q⟩
 cases ds with
 | nil=>cases hl
 | cons d ds =>
  obtain ⟨v,vs',rfl,q1,t⟩:=Reps.cons_i.mp r
  exact ⟨v,vs',rfl,O,ds,_,t,E.set q1,by simpa using hl,q⟩
theorem pgd_tup {is:List Nat} {es:List Expr} {k:Nat} (hc:X.calm=true) (h:PGs X es (tgsD X.K is)) (hn:(assignEach es X.env).length=is.length:=by rfl) (hst:(assignEach es X.env).findIdx? (·.1)=none:=by rfl):PGD X (.Tuple es k pos) (tgTup is):=by
 refine PG.mono (pg_tup hc h hn hst) ?_
 rintro v σ H Q ⟨O,d,ρ,ρ',r,E,ht,q⟩
 cases d with
 | tup ds =>
  dsimp only [tgTup] at ht
  by_cases hl:ds.length=is.length
  ·rw [if_pos hl] at ht
   cases ht
   rw [Rep.tup_i] at r
   obtain ⟨a,vs,rfl,hq,rs⟩:=r
   exact ⟨a,vs,rfl,SqT.of hq,by rw [← rs.length]; exact hl,O,ds,ρ,rs,E,hl,q⟩
  ·rw [if_neg hl] at ht; cases ht
 | _=>cases ht
end
noncomputable abbrev Wk:=List D×(Sto→Prop)
noncomputable def ItD (K:PySem.W.Frag) (J:It) (O0:List Addr) (H0:Hp) (q:Wk):Prop :=
 ∀ (i:Nat) (O:List Addr) (H:Hp) (st:Sto),Keep K O0 H0 O H→WR K O H st→q.2 st →
  (∀ d,q.1[i]?=some d→J.go i H∧∀ x H',J.yld i H x H'→Keep K O H O H'∧WR K O H' st∧Rep K O H' d x)∧(q.1.length≤i→J.stop i H)
noncomputable abbrev DI:=Ev→Sto→Out Wk
noncomputable def wiD (K:PySem.W.Frag) (EX:EXT) (f:DI):TI:=fun σ H R => ∃ O ρ st,WR K O H st∧REnv K O H ρ σ∧Run K EX O H (f ρ st) (fun q _ O' H' => ∀ J,ItD K J O' H' q→R J H')
noncomputable def PID (X:Cx) (EX:EXT) (tg iter:Expr) (f:DI):Prop:=PI X tg iter (wiD X.K EX f)
theorem PI.mono {X:Cx} {tg it:Expr} {t t':TI} (h:PI X tg it t) (f:∀ σ H Q,t' σ H Q→t σ H Q):PI X tg it t':=fun pins s σ H Q I q=>h pins s σ H Q I (f σ H Q q)
theorem PI.or {X:Cx} {tg it:Expr} {t t':TI} (h:PI X tg it t) (h':PI X tg it t'):PI X tg it (fun σ H R=>t σ H R∨t' σ H R):=fun pins s σ H Q I q=>by
 rcases q with q | q
 ·exact h pins s σ H Q I q
 ·exact h' pins s σ H Q I q
section
variable {K:PySem.W.Frag} {O:List Addr} {H:Hp} {st:Sto}
theorem it_tup {a:Addr} {vs:List V} {xs:List D} {P:Sto→Prop} (q:H a=some (.tup vs)) (r:Reps K O H xs vs):ItD K (Itt K a) O H (xs,P):=by
 intro i O' H' st' kp W' _
 refine ⟨fun d hd => ?_,fun hl=>⟨vs,SqT.of (kp.tup _ _ q),by rw [← r.length]; exact hl⟩⟩
 obtain ⟨v,h1,h2⟩:=r.get hd
 refine ⟨⟨vs,v,SqT.of (kp.tup _ _ q),h1⟩,?_⟩
 rintro x H2 ⟨rfl,h3⟩
 have h4:=h3 vs (SqT.of (kp.tup _ _ q))
 rw [h1] at h4
 cases h4
 exact ⟨Keep.refl,W',Rep.mono kp _ _ h2⟩
theorem it_list {a:Addr} {xs:List D} {P:Sto→Prop} (h:∀ (O':List Addr) (H':Hp) (st':Sto),Keep K O H O' H'→WR K O' H' st'→P st'→∃ vs,SqL K H' a vs∧Reps K O' H' xs vs):ItD K (Itl K a) O H (xs,P):=by
 intro i O' H' st' kp W' hp
 obtain ⟨vs,q,r⟩:=h O' H' st' kp W' hp
 refine ⟨fun d hd => ?_,fun hl=>⟨vs,q,by rw [← r.length]; exact hl⟩⟩
 obtain ⟨v,h1,h2⟩:=r.get hd
 refine ⟨⟨vs,v,q,h1⟩,?_⟩
 rintro x H2 ⟨rfl,h3⟩
 have h4:=h3 vs q
 rw [h1] at h4
 cases h4
 exact ⟨Keep.refl,W',h2⟩
theorem it_range {lo:Int} {n:Nat} {P:Sto→Prop}:ItD K (Itr lo n) O H ((List.range n).map (fun (i:Nat)=>D.int (lo+i)),P):=by
 intro i O' H' st' kp W' hp
 refine ⟨fun d hd => ?_,fun hl=>(show n≤i by simpa using hl)⟩
 have hi:i<n:=by
  have:=(List.getElem?_eq_some_iff.mp hd).1
  simpa using this
 have e:d=D.int (lo+i):=by
  rw [List.getElem?_map,List.getElem?_range hi] at hd
  simpa using hd.symm
 subst e
 refine ⟨hi,?_⟩
 rintro x H2 ⟨rfl,rfl⟩
 exact ⟨Keep.refl,W',Rep.int_i.mpr rfl⟩
end
section
variable {X:Cx} {EX:EXT} {tg e a b:Expr} {f:DE} {g:DA} {pos p:Pos}
noncomputable def dSeq (f:DE):DI:=fun ρ st=>(f ρ st).bind fun d st1=>match itemsOf st1 d with
 | some xs => .ok (xs,fun st=>itemsOf st d=some xs) st1
 | none => .bad
theorem pid_seq (h:PD X EX e f):PID X EX tg e (dSeq f):=by
 refine PI.mono (PI.or (pi_tup h) (pi_list h)) ?_
 rintro σ H R ⟨O,ρ,st,W,E,R0⟩
 have R1:=R0.bind
 cases hf:f ρ st with
 | bad=>rw [hf] at R1; exact R1.elim
 | exc c st' =>
  rw [hf] at R1
  exact .inl ⟨O,ρ,st,W,E,by rw [hf]; exact R1⟩
 | ok d st' =>
  rw [hf] at R1
  by_cases hb:∃ zs,d = .tup zs
  ·obtain ⟨zs,rfl⟩:=hb
   refine .inl ⟨O,ρ,st,W,E,?_⟩
   rw [hf]
   intro O1 H1 k1 W1 v r
   have R2:=R1 O1 H1 k1 W1
   rw [Rep.tup_i] at r
   obtain ⟨q,vs,rfl,hq,rs⟩:=r
   exact ⟨q,rfl,⟨vs,SqT.of hq⟩,Run.now (k:=fun q _ O' H' => ∀ J,ItD X.K J O' H' q→R J H') R2 W1 _ (it_tup hq rs)⟩
  ·refine .inr ⟨O,ρ,st,W,E,?_⟩
   rw [hf]
   intro O1 H1 k1 W1 v r
   have R2:=R1 O1 H1 k1 W1
   have ei:∀ s',itemsOf s' d=seqL s' d:=by
    intro s'
    cases d <;> first | rfl | exact absurd ⟨_,rfl⟩ hb
   dsimp only at R2
   rw [ei] at R2
   cases e1:seqL st' d with
   | none=>rw [e1] at R2; exact R2.elim
   | some xs =>
    rw [e1] at R2
    obtain ⟨q,vs,rfl,hq,rs⟩:=rdL W1 r e1
    refine ⟨q,rfl,⟨vs,hq⟩,Run.now (k:=fun q _ O' H' => ∀ J,ItD X.K J O' H' q→R J H') R2 W1 _ (it_list fun O' H' st2 kp W' hp => ?_)⟩
    rw [ei] at hp
    obtain ⟨q',vs',e2,hq',rs'⟩:=rdL W' (Rep.mono kp _ _ r) hp
    cases e2
    exact ⟨vs',hq',rs'⟩
noncomputable def rngOk (j:Int):Bool:=@decide (-(2 ^ 62)≤j∧j<2 ^ 62) (Classical.propDecidable _)
theorem rngOk_iff {j:Int}:rngOk j=true ↔ (-(2 ^ 62)≤j∧j<2 ^ 62):=by
 unfold rngOk
 exact @decide_eq_true_iff _ (Classical.propDecidable _)
theorem rngOk_of {j:Int} (h1 : -1000000≤j) (h2:j≤1000000):rngOk j=true:=rngOk_iff.mpr ⟨by omega,by omega⟩
noncomputable def dRng1 (g:DA):DI:=fun ρ st=>(g ρ st).bind fun ds st1=>match ds with
 | [.int j]=>if rngOk j=true then .ok ((List.range j.toNat).map (fun (i:Nat)=>D.int (0+i)),fun _=>True) st1 else .bad
 | _ => .bad
theorem pid_range1 (hg : Gl X "range") (hm : X.mg "range" = none) (ha : PDA X EX [a] g) (hs : starEach [a] X.env = [(false, eval a X.env)] := by rfl) : PID X EX tg (.Call (.Name "range" p) [a] [] pos) (dRng1 g) := by
 refine PI.mono (pi_range1 hg hm ha hs) ?_
 rintro σ H R ⟨O,ρ,st,W,E,R0⟩
 refine ⟨O,ρ,st,W,E,R0.bind.mono fun ds st1 O1 H1 k1 W1 R1 vs r => ?_⟩
 split at R1
 ·rename_i j
  obtain ⟨v,rfl,rv⟩:=r.one_of
  rw [Rep.int_i] at rv
  subst rv
  by_cases hj:rngOk j=true
  ·rw [if_pos hj] at R1
   exact ⟨j,rfl,(rngOk_iff.mp hj).1,(rngOk_iff.mp hj).2,Run.now (k:=fun q _ O' H' => ∀ J,ItD X.K J O' H' q→R J H') R1 W1 _ it_range⟩
  ·rw [if_neg hj] at R1; exact R1.elim
 ·exact R1.elim
end
open Classical in
noncomputable def loopD (chk:Sto→Prop) (t:TgD) (g:DS):List D→DS
 | [],ρ,st=>if chk st then .nx ρ st else .bad
 | x :: xs,ρ,st=>if chk st then (match t x ρ with
  | none => .bad
  | some ρ1=>match g ρ1 st with
   | .nx ρ' st'=>loopD chk t g xs ρ' st'
   | .ct ρ' st'=>loopD chk t g xs ρ' st'
   | .bk ρ' st' => .nx ρ' st'
   | r=>r) else .bad
noncomputable def sFor (f:DI) (t:TgD) (g:DS):DS:=fun ρ st=>(f ρ st).to fun q st1=>loopD q.2 t g q.1 ρ st1
section
variable {X:Cx} {EX:EXT} {tg it:Expr} {f:DI} {t:TgD} {g:DS} {pos:Pos} {body:List Stmt}
theorem pd_for (hp:PassesOwn (model X.prog X.w) X.A X.env X.xe) (hc:X.calm=true) (hi:PID X EX tg it f) (hg:PGD X tg t) (hb:PDS X EX body g) (hs:∀ x,foldedSetIterable it X.env x=pure x:=by intro _; rfl):PDs X EX (.For tg it body [] pos) (sFor f t g):=by
 refine PS.mono (ps_for hp hc hi hg hb hs) ?_
 rintro Dn σ H ⟨O,ρ,st,W,E,R⟩
 refine ⟨O,ρ,st,W,E,R.to.mono fun q st1 O1 H1 k1 W1 R1 J hJ => ?_⟩
 refine ⟨fun i m σ' H'=>m+i=q.1.length∧∃ O' ρ' st',Keep X.K O1 H1 O' H'∧WR X.K O' H' st'∧REnv X.K O' H' ρ' σ'∧RunS X.K EX Dn O' H' (loopD q.2 t g (q.1.drop i) ρ' st'),⟨q.1.length,rfl,O1,ρ,st1,Keep.refl,W1,E.mono k1,R1⟩,?_⟩
 rintro i m σ' H' ⟨hm,O',ρ',st',kp,W',E',R'⟩
 cases hd:q.1.drop i with
 | nil =>
  rw [hd] at R'
  unfold loopD at R'
  have hl:q.1.length≤i:=List.drop_eq_nil_iff.mp hd
  by_cases hch:q.2 st'
  ·rw [if_pos hch] at R'
   exact .inl ⟨(hJ i O' H' st' kp W' hch).2 hl,R' O' H' σ' Keep.refl W' E'⟩
  ·rw [if_neg hch] at R'; exact R'.elim
 | cons x xs =>
  rw [hd] at R'
  unfold loopD at R'
  have hx:q.1[i]?=some x:=by
   have:=List.getElem?_drop (xs:=q.1) (i:=i) (j:=0)
   rw [hd] at this
   simpa using this.symm
  have hxs:q.1.drop (i+1)=xs:=by
   have:=List.drop_drop (i:=1) (j:=i) (l:=q.1)
   rw [hd] at this
   simpa using this.symm
  have hi:i<q.1.length:=(List.getElem?_eq_some_iff.mp hx).1
  by_cases hch:q.2 st'
  ·rw [if_pos hch] at R'
   obtain ⟨hgo,hy⟩:=(hJ i O' H' st' kp W' hch).1 x hx
   refine .inr ⟨hgo,fun σ2 H2=>(m - 1)+(i+1)=q.1.length∧∃ O' ρ' st',True∧WR X.K O' H2 st'∧Keep X.K O1 H1 O' H2∧REnv X.K O' H2 ρ' σ2∧RunS X.K EX Dn O' H2 (loopD q.2 t g (q.1.drop (i+1)) ρ' st'),?_,?_⟩
   ·rintro σ2 H2 ⟨h1,O2,ρ2,st2,_,W2,kp2,E2,R2⟩
    exact ⟨m - 1,by omega,h1,O2,ρ2,st2,kp2,W2,E2,R2⟩
   ·intro v H2 hv
    obtain ⟨ky,Wy,ry⟩:=hy v H2 hv
    cases ht:t x ρ' with
    | none=>rw [ht] at R'; exact R'.elim
    | some ρ1 =>
     rw [ht] at R'
     dsimp only at R'
     refine ⟨O',x,ρ',ρ1,ry,E'.mono ky,ht,fun σ2 E2=>⟨O',ρ1,st',Wy,E2,?_⟩⟩
     cases hgr:g ρ1 st' with
     | nx ρ2 st2 =>
      rw [hgr] at R'
      intro O3 H3 σ3 k3 W3 E3
      exact ⟨by omega,O3,ρ2,st2,trivial,W3,kp.trans (ky.trans k3),E3,by rw [hxs]; exact RunS.later R' (ky.trans k3)⟩
     | ct ρ2 st2 =>
      rw [hgr] at R'
      intro O3 H3 σ3 k3 W3 E3
      exact ⟨by omega,O3,ρ2,st2,trivial,W3,kp.trans (ky.trans k3),E3,by rw [hxs]; exact RunS.later R' (ky.trans k3)⟩
     | bk ρ2 st2 =>
      rw [hgr] at R'
      exact fun O3 H3 σ3 k3 W3 E3=>R' O3 H3 σ3 (ky.trans k3) W3 E3
     | rt d st2 =>
      rw [hgr] at R'
      exact fun O3 H3 σ3 k3 W3 E3=>R' O3 H3 σ3 (ky.trans k3) W3 E3
     | exc c st2 =>
      rw [hgr] at R'
      exact fun O3 H3 k3 W3=>R' O3 H3 (ky.trans k3) W3
     | bad=>rw [hgr] at R'; exact R'
  ·rw [if_neg hch] at R'; exact R'.elim
end
noncomputable def whileD (n:Nat) (t:DT) (g:DS):DS:=match n with
 | 0=>fun _ _ => .bad
 | n+1=>fun ρ st=>(t ρ st).to fun b st1=>if b=true then (match g ρ st1 with
  | .nx ρ' st'=>whileD n t g ρ' st'
  | .ct ρ' st'=>whileD n t g ρ' st'
  | .bk ρ' st' => .nx ρ' st'
  | r=>r) else .nx ρ st1
section
variable {X:Cx} {EX:EXT} {c:Expr} {t:DT} {g:DS} {pos:Pos} {body:List Stmt}
theorem pd_while (n:Nat) (hp:PassesOwn (model X.prog X.w) X.A X.env X.xe) (hc:PDT X EX c t) (hb:PDS X EX body g):PDs X EX (.While c body [] pos) (whileD n t g):=by
 refine PS.mono (ps_while hp hc hb) ?_
 rintro Dn σ H ⟨O,ρ,st,W,E,R⟩
 refine ⟨fun m σ' H' => ∃ O' ρ' st',WR X.K O' H' st'∧REnv X.K O' H' ρ' σ'∧RunS X.K EX Dn O' H' (whileD m t g ρ' st'),⟨n,O,ρ,st,W,E,R⟩,?_⟩
 rintro m σ' H' ⟨O',ρ',st',W',E',R'⟩
 cases m with
 | zero=>exact R'.elim
 | succ m =>
  unfold whileD at R'
  refine ⟨O',ρ',st',W',E',R'.to.mono fun b st1 O1 H1 k1 W1 R1 => ?_⟩
  cases b with
  | false=>exact R1 O1 H1 σ' Keep.refl W1 (E'.mono k1)
  | true =>
   refine ⟨fun σ2 H2 => ∃ O' ρ' st',WR X.K O' H2 st'∧REnv X.K O' H2 ρ' σ2∧RunS X.K EX Dn O' H2 (whileD m t g ρ' st'),fun σ2 H2 h=>⟨m,Nat.lt_succ_self m,h⟩,O1,ρ',st1,W1,E'.mono k1,?_⟩
   rw [if_pos rfl] at R1
   cases hgr:g ρ' st1 with
   | nx ρ2 st2 =>
    rw [hgr] at R1
    exact fun O3 H3 σ3 k3 W3 E3=>⟨O3,ρ2,st2,W3,E3,RunS.later R1 k3⟩
   | ct ρ2 st2 =>
    rw [hgr] at R1
    exact fun O3 H3 σ3 k3 W3 E3=>⟨O3,ρ2,st2,W3,E3,RunS.later R1 k3⟩
   | bk ρ2 st2=>rw [hgr] at R1; exact R1
   | rt d st2=>rw [hgr] at R1; exact R1
   | exc c st2=>rw [hgr] at R1; exact R1
   | bad=>rw [hgr] at R1; exact R1
end
end DL
end
section
namespace DL
open PySem PySem.Spec PyProof.Rows L2
section
variable {prog:Program} {w:World} {A:Around} {E:Value→Shared→Prop} {R:Result→Shared→Prop} {s:Shared}
theorem compLoop_gen {elt target iter:Expr} {ifs:List Expr} {scope:Scope} {pos:Pos} {it acc:Value} {env:Env} (I:Nat→Shared→Prop)
  (turn:∀ n s,I n s→wpAny (model prog w) A (pyNext it) (fun r s₁=>match r with
   | none=>R (.ok .next) s₁
   | some v=>wpAny (model prog w) A (letOwnedTupleGo target it v) (fun _ s₁'=>wpAny (model prog w) A (assign target env v) (fun _ s₂ =>
     wpAny (model prog w) A (forIn ifs true fun c r=>if r=true then do let ok ← isTrue c env (eval c env); pure (ForInStep.yield ok) else pure (ForInStep.yield r)) (fun ok s₃ =>
      if ok=true then wpAny (model prog w) A (eval elt env) (fun x s₄ =>
       wpAny (model prog w) A (call (.builtin "list.append") [acc, x]) (fun _ s₅ => ∃ m, m < n ∧ I m s₅) (fun _ _ => False) s₄) (fun _ _ => False) s₃
      else ∃ m,m<n∧I m s₃) (fun _ _=>False) s₂) (fun _ _=>False) s₁') (fun _ _=>False) s₁) (fun _ _=>False) s)
  (n:Nat) (h:I n s) :
  codeAny (model prog w) A (.compLoop (.ListComp elt [⟨target,iter,ifs,0⟩] scope pos) 0 it acc env) R s:=by
 refine codeAny_loop rfl I (fun n s hI => ?_) n h
 show wpAny _ A ((compTurn (.ListComp elt [⟨target,iter,ifs,0⟩] scope pos) 0 it acc env).onRaise (fun x=>do noteFrame x env; theTreesLotGoes x)) _ _ s
 refine wpAny_noted ?_
 rw [compTurn_list]
 refine wpAny_bind (wpAny_standAt (wpAny_bind (wpAny_mono (turn n s hI) (fun r s₁ h₁ => ?_) fun _ _ h'=>h'.elim)))
 cases r with
 | none=>exact wpAny_pure h₁
 | some v =>
  refine wpAny_bind (wpAny_mono h₁ (fun _ s₁' h₁' => ?_) fun _ _ h'=>h'.elim)
  refine wpAny_bind (wpAny_mono h₁' (fun _ s₂ h₂=>wpAny_bind (wpAny_mono h₂ (fun ok s₃ h₃ => ?_) fun _ _ h'=>h'.elim)) fun _ _ h'=>h'.elim)
  cases ok with
  | false=>exact wpAny_pure ⟨rfl,h₃⟩
  | true =>
   exact wpAny_bind (wpAny_bind (wpAny_mono h₃ (fun x s₄ h₄=>wpAny_bind (wpAny_mono h₄ (fun _ s₅ h₅=>wpAny_pure (wpAny_pure ⟨rfl,h₅⟩)) fun _ _ h'=>h'.elim)) fun _ _ h'=>h'.elim))
theorem append_obj {l : Addr} {items : List Value} {n : Nat} {x : Value} {Q : Value → Shared → Prop} (ho : s.heap.get? l = some { cls := .type "list", data := .seq items.toArray n })
  (hQ : ∀ h', h'.get? l = some { cls := .type "list", data := .seq (items ++ [x]).toArray (n + 1) } → Heap.SameBut l s.heap h' → Q .none { s with heap := h' }) (hsz : items.length ≤ sizeLine) :
  wpAny (model prog w) A (call (.builtin "list.append") [.ref l, x]) Q E s := by
 have hl:s.heap.IsList l items.toArray:=⟨_,ho,rfl,n,rfl⟩
 refine wpAny_call_entry slot_list_append hl.typeIs entry_list_append ?_ (args_list_append _ _)
 show wpAny _ _ (updateSeq l (·.push x) >>= fun _=>ret .none) _ _ s
 refine wpAny_bind ?_
 refine wpAny_updateSeq (hz:=by rw [List.size_toArray]; exact hsz) ho rfl (wpAny_pure ⟨.none,rfl,hQ _ ?_ (Heap.SameBut.update ..)⟩)
 rw [Heap.get?_update_self _ ho (by rfl)]
 simp [Obj.mapSeq]
end
noncomputable def clOf (env:Env):List (Str×NameKind)→List (Str×Addr)→List (Str×Addr)
 | [],acc=>acc
 | (n,k) :: r,acc=>if k == .free then (match env.cells.lookup n with
  | some a=>clOf env r ((n,a) :: acc)
  | none=>clOf env r acc) else clOf env r acc
theorem clos_run (env:Env):∀ (names:List (Str×NameKind)) (acc:List (Str×Addr)),(∀ y∈names,y.2 = .free→∃ a,env.cells.lookup y.1=some a) →
  (forIn names acc fun (x:Str×NameKind) (cs:List (Str×Addr))=>(if (x.2 == NameKind.free)=true then do let a ← cellOf env x.1; pure (ForInStep.yield ((x.1,a) :: cs)) else pure (ForInStep.yield cs):Sem (ForInStep (List (Str×Addr)))))=pure (clOf env names acc)
 | [],acc,_=>rfl
 | (n,k) :: r,acc,h=>by
  have ih:=fun acc=>clos_run env r acc fun y hy=>h y (List.mem_cons_of_mem _ hy)
  rw [List.forIn_cons]
  unfold clOf
  by_cases hk:(k == NameKind.free)=true
  ·obtain ⟨a,ha⟩:=h (n,k) List.mem_cons_self (by simpa using hk)
   have e:cellOf env n=pure a:=by unfold cellOf; rw [ha]
   simp only [hk,if_true,e,ha,pure_bind]
   exact ih _
  ·have hk':(k == NameKind.free)=false:=by simpa using hk
   simp only [hk',Bool.false_eq_true,if_false,pure_bind]
   exact ih _
theorem closureFor_of {scope:Scope} {env:Env} (h:∀ y∈scope.names,y.2 = .free→∃ a,env.cells.lookup y.1=some a):closureFor scope env=pure (clOf env scope.names []):=by
 have e:=clos_run env scope.names [] h
 unfold closureFor
 simp only [bind_pure]
 refine Eq.trans ?_ e
 rfl
theorem clOf_look {env:Env} {x:Str} {c:Addr}:∀ (names:List (Str×NameKind)) (acc:List (Str×Addr)),(∀ y a,acc.lookup y=some a→env.cells.lookup y=some a)→(clOf env names acc).lookup x=some c→env.cells.lookup x=some c
 | [],acc,h,e=>h x c e
 | (n,k) :: r,acc,h,e=>by
  unfold clOf at e
  split at e
  ·split at e
   ·rename_i a ha
    refine clOf_look r _ (fun y b hb => ?_) e
    rw [List.lookup_cons] at hb
    cases hy:y == n with
    | true =>
     rw [hy] at hb
     have ey:y=n:=eq_of_beq hy
     subst ey
     cases hb
     exact ha
    | false=>rw [hy] at hb; exact h y b hb
   ·exact clOf_look r _ h e
  ·exact clOf_look r _ h e
theorem clOf_acc {env:Env} {x:Str} {c:Addr} (hx:env.cells.lookup x=some c):∀ (names:List (Str×NameKind)) (acc:List (Str×Addr)),acc.lookup x=some c∨(x,NameKind.free)∈names→(clOf env names acc).lookup x=some c
 | [],acc,h=>by
  rcases h with h | h
  ·exact h
  ·cases h
 | (n,k) :: r,acc,h=>by
  unfold clOf
  have keep:∀ a,env.cells.lookup n=some a→acc.lookup x=some c→((n,a) :: acc).lookup x=some c:=by
   intro a ha hl
   rw [List.lookup_cons]
   cases hy:x == n with
   | true =>
    have ey:x=n:=eq_of_beq hy
    subst ey
    rw [hx] at ha
    cases ha
    rfl
   | false=>exact hl
  split
  ·rename_i hk
   split
   ·rename_i a ha
    refine clOf_acc hx r _ ?_
    rcases h with h | h
    ·exact .inl (keep a ha h)
    ·rcases List.mem_cons.mp h with e | h
     ·cases e
      refine .inl ?_
      rw [hx] at ha
      cases ha
      simp
     ·exact .inr h
   ·rename_i hn
    refine clOf_acc hx r _ ?_
    rcases h with h | h
    ·exact .inl h
    ·rcases List.mem_cons.mp h with e | h
     ·cases e
      rw [hx] at hn
      cases hn
     ·exact .inr h
  ·rename_i hk
   refine clOf_acc hx r _ ?_
   rcases h with h | h
   ·exact .inl h
   ·rcases List.mem_cons.mp h with e | h
    ·cases e
     exact absurd rfl hk
    ·exact .inr h
noncomputable def relS (scope sc:Scope):Scope :=
 { scope with names:=scope.names.map fun (n,k)=>if (k == .free && sc.kind == .function && sc.names.lookup n == some .cell) then (n,.cell) else (n,k) }
structure Blk (sc scope:Scope) (N0 N:List Str) (caps:List Nat) (nT:Nat):Prop where
 kind:scope.kind = .function
 nocell:∀ y∈scope.names,y.2≠.cell
 names:∀ y∈scope.names,y.2 = .local→scope.names.lookup y.1=some .local
 free:∀ y∈scope.names,y.2 = .free→sc.names.lookup y.1=some .cell∨sc.names.lookup y.1=some .free
 len:N.length=nT+caps.length
 cap:∀ q∈(List.range caps.length),∃ i x,caps[q]?=some i∧N[nT+q]?=some x∧N0[i]?=some x∧(x,NameKind.free)∈scope.names∧((relS scope sc).names.lookup x=some .cell∨(relS scope sc).names.lookup x=some .free)
noncomputable def blkB (sc scope:Scope) (N0 N:List Str) (caps:List Nat) (nT:Nat):Bool :=
 (scope.kind == .function) && scope.names.all (fun y => !(y.2 == .cell)) && scope.names.all (fun y => !(y.2 == .local) || scope.names.lookup y.1 == some .local) &&
  scope.names.all (fun y => !(y.2 == .free) || (sc.names.lookup y.1 == some .cell || sc.names.lookup y.1 == some .free)) && (N.length == nT+caps.length) &&
  (List.range caps.length).all fun q=>match caps[q]?,N[nT+q]? with
   | some i,some x=>(N0[i]? == some x) && scope.names.any (fun y=>y.1 == x && y.2 == .free) && ((relS scope sc).names.lookup x == some .cell || (relS scope sc).names.lookup x == some .free)
   | _,_=>false
theorem Blk.of {sc scope:Scope} {N0 N:List Str} {caps:List Nat} {nT:Nat} (h:blkB sc scope N0 N caps nT=true):Blk sc scope N0 N caps nT:=by
 unfold blkB at h
 simp only [Bool.and_eq_true] at h
 obtain ⟨⟨⟨⟨⟨h1,h2⟩,h3⟩,h4⟩,h5⟩,h6⟩:=h
 refine ⟨eq_of_beq h1,fun y hy => ?_,fun y hy hl => ?_,fun y hy hl => ?_,eq_of_beq h5,fun q hq => ?_⟩
 ·have:=List.all_eq_true.mp h2 y hy
  simpa using this
 ·have:=List.all_eq_true.mp h3 y hy
  rw [hl] at this
  simpa using this
 ·have:=List.all_eq_true.mp h4 y hy
  rw [hl] at this
  simpa using this
 ·have:=List.all_eq_true.mp h6 q hq
  split at this
  ·rename_i i x e1 e2
   simp only [Bool.and_eq_true,Bool.or_eq_true,List.any_eq_true,beq_iff_eq] at this
   obtain ⟨⟨g1,⟨y,g2,g3,g4⟩⟩,g5⟩:=this
   refine ⟨i,x,e1,e2,g1,?_,g5⟩
   obtain ⟨y1,y2⟩:=y
   simp only at g3 g4
   subst g3 g4
   exact g2
  ·cases this
noncomputable def cxC (X:Cx) (N:List Str) (scope:Scope) (acc:Addr) (fp:List Addr) (s3:Shared) (H:Hp):Cx :=
 { X with N:=N,s₀:=s3,H₀:=H,env:=compEnvC scope (clOf X.env scope.names []) s3.heap.objs.size X.env,outer:=X.stack,ex:=acc :: fp,fn:=fun _=>false,pn:=[],xe:=fun _ _=>False }
noncomputable def capEv (ρ:Ev) (caps:List Nat) (nT:Nat):Ev:=List.replicate nT none++caps.map fun i=>(ρ[i]?).join
noncomputable def capSt (σ:L2.St) (caps:List Nat) (nT:Nat):L2.St:=List.replicate nT none++caps.map fun i=>(σ[i]?).join
theorem capEnv {K:PySem.W.Frag} {O:List Addr} {H:Hp} {ρ:Ev} {σ:L2.St} (E:REnv K O H ρ σ) (caps:List Nat) (nT:Nat):REnv K O H (capEv ρ caps nT) (capSt σ caps nT):=by
 refine ⟨by simp [capEv,capSt],fun i d h => ?_⟩
 unfold capEv at h
 unfold capSt
 by_cases hi:i<nT
 ·rw [List.getElem?_append_left (by simpa using hi),List.getElem?_replicate] at h
  split at h <;> cases h
 ·rw [List.getElem?_append_right (by simpa using hi)] at h ⊢
  rw [List.length_replicate,List.getElem?_map] at h ⊢
  cases hc:caps[i - nT]? with
  | none=>rw [hc] at h; cases h
  | some j =>
   rw [hc] at h
   simp only [Option.map_some,Option.some.injEq] at h ⊢
   cases hj:ρ[j]? with
   | none=>rw [hj] at h; cases h
   | some z =>
    rw [hj] at h
    simp only [Option.join_some] at h
    subst h
    obtain ⟨v,h1,h2⟩:=E.at_ j d hj
    exact ⟨v,by rw [h1]; rfl,h2⟩
section
variable {X:Cx} {pins:List (Addr×Obj)} {σ:L2.St} {H:Hp} {s:Shared} {scope:Scope} {N:List Str} {caps:List Nat} {nT:Nat} {fp:List Addr}
theorem blk_start (B:Blk X.env.scope scope X.N N caps nT) (I:Inv X pins σ H s) (hf:∀ b∈fp,FpOk X pins H b) (ho:∀ b∈fp,∃ o,s.heap.get? b=some o) {h4:Heap} {tk:Nat}
  (hns : h4.Ns (s.heap.push { cls := .type "list", data := .seq ([] : List Value).toArray }).objs.size (fun x => ([] : List (Str × Value)).reverse.lookup x))
  (hsb : Heap.SameBut (s.heap.push { cls := .type "list", data := .seq ([] : List Value).toArray }).objs.size ((s.heap.push { cls := .type "list", data := .seq ([] : List Value).toArray }).push { cls := .type "dict", data := .dict #[] }) h4) :
  Inv (cxC X N scope s.heap.objs.size fp { s with heap := s.heap.push { cls := .type "list", data := .seq ([] : List Value).toArray } } H) [] (capSt σ caps nT) H { s with heap := h4, toks := tk } := by
 generalize hH2 : s.heap.push { cls := .type "list", data := .seq ([] : List Value).toArray } = h3 at hns hsb ⊢
 have hC:h3.objs.size=s.heap.objs.size+1:=by rw [← hH2,Heap.size_push]
 have k3:∀ b o,s.heap.get? b=some o→h3.get? b=some o:=fun b o e=>hH2 ▸ Heap.get?_push_of_some _ e
 have I3:Inv X pins σ H { s with heap:=h3 }:=I.kept (t':=s.toks) k3
 have k4:∀ b o,h3.get? b=some o→h4.get? b=some o:=fun b o e=>hsb.extBut b o (Nat.ne_of_lt (Heap.lt_size e)) (Heap.get?_push_of_some _ e)
 have lt3:∀ b o,s.heap.get? b=some o→b<h3.objs.size:=fun b o e=>Heap.lt_size (k3 b o e)
 have cells:∀ x c,(clOf X.env scope.names []).lookup x=some c→X.env.cells.lookup x=some c:=fun x c e=>clOf_look scope.names [] (fun y a z=>by cases z) e
 have ok:(cxC X N scope s.heap.objs.size fp { s with heap:=h3 } H).Ok:=by
  refine ⟨I.ok.mod,B.kind,I.ok.glob,I.ok.blt,Nat.le_refl _,fun x y c h1 h2=>I.ok.inj x y c (cells _ _ h1) (cells _ _ h2),?_,fun x c hx=>(by cases hx),I.ok.hd,I.ok.frames,.inl rfl,?_,I3.bs,Nat.le_trans I.ok.bsz (Nat.le_trans I.sz (by show s.heap.objs.size≤h3.objs.size; omega)),?_,?_,I3.stack,I3.stkFree⟩
  ·intro x hx
   have hx':(relS scope X.env.scope).names.lookup x=some .cell∨(relS scope X.env.scope).names.lookup x=some .free:=hx
   have hm:(x,NameKind.free)∈scope.names:=by
    have mem:∀ (l:List (Str×NameKind)),((l.map fun (n,k)=>if (k == NameKind.free && X.env.scope.kind == .function && X.env.scope.names.lookup n == some .cell) then (n,NameKind.cell) else (n,k)).lookup x=some .cell∨(l.map fun (n,k)=>if (k == NameKind.free && X.env.scope.kind == .function && X.env.scope.names.lookup n == some .cell) then (n,NameKind.cell) else (n,k)).lookup x=some .free)→(∀ y∈l,y.2≠.cell)→(x,NameKind.free)∈l:=by
     intro l
     induction l with
     | nil=>intro h _; rcases h with h | h <;> cases h
     | cons y l ih =>
      obtain ⟨n,k⟩:=y
      intro h hnc
      rw [List.map_cons] at h
      by_cases hc:(k == NameKind.free && X.env.scope.kind == .function && X.env.scope.names.lookup n == some .cell)=true
      ·simp only [hc,if_true,List.lookup_cons] at h
       have hk:k = .free:=by simp only [Bool.and_eq_true] at hc; simpa using hc.1.1
       cases hy:x == n with
       | true=>rw [eq_of_beq hy,hk]; exact List.mem_cons_self
       | false =>
        rw [hy] at h
        exact List.mem_cons_of_mem _ (ih h fun z hz=>hnc z (List.mem_cons_of_mem _ hz))
      ·simp only [hc,if_false,List.lookup_cons,Bool.false_eq_true] at h
       cases hy:x == n with
       | true =>
        rw [hy] at h
        have hk:k = .free:=by
         rcases h with h | h
         ·exact absurd (Option.some.inj h) (hnc (n,k) List.mem_cons_self)
         ·exact Option.some.inj h
        rw [eq_of_beq hy,hk]; exact List.mem_cons_self
       | false =>
        rw [hy] at h
        exact List.mem_cons_of_mem _ (ih h fun z hz=>hnc z (List.mem_cons_of_mem _ hz))
    exact mem scope.names hx' B.nocell
   obtain ⟨c,hc⟩:=I.ok.has x (B.free _ hm rfl)
   exact ⟨c,clOf_acc hc scope.names [] (.inr hm)⟩
  ·intro b hb
   rcases List.mem_cons.mp hb with rfl | hb
   ·refine ⟨?_,fun x c h1 h2 => ?_⟩
    ·show s.heap.objs.size≠h3.objs.size
     omega
    ·obtain ⟨v,o,ho',_⟩:=I.cell x c (cells _ _ h1)
     exact absurd (h2 ▸ Heap.lt_size ho') (Nat.lt_irrefl _)
   ·obtain ⟨o,ho'⟩:=ho b hb
    refine ⟨?_,fun x c h1=>(hf b hb).2.2.2.2.1 x c (cells _ _ h1)⟩
    exact Nat.ne_of_lt (lt3 b o ho')
  ·intro b o hb
   intro hm
   rcases List.mem_cons.mp hm with rfl | hm
   ·exact absurd (Heap.lt_size (I.bk _ _ hb)) (Nat.lt_irrefl _)
   ·rcases (hf b hm).2.2.2.1 with h1 | h1
    ·exact I.ok.noex b o hb h1
    ·exact absurd (Nat.lt_of_lt_of_le (Heap.lt_size (I.ok.bs b o hb).1) h1) (Nat.lt_irrefl _)
  ·intro b hb hm
   rcases List.mem_cons.mp hb with rfl | hb
   ·rcases List.mem_cons.mp (I.stkSub _ hm) with h1 | h1
    ·have:=I.lt
     rw [← h1] at this
     exact absurd this (Nat.lt_irrefl _)
    ·exact I.nofs (Nat.le_refl _) h1
   ·rcases List.mem_cons.mp (I.stkSub _ hm) with h1 | h1
    ·exact (hf b hb).2.1 h1
    ·exact (hf b hb).2.2.1 h1
 refine ⟨ok,rfl,I.bare,Un.kept k4,?_,?_,?_,?_,(fun p hp=>(by cases hp)),I3.hok.kept k4,?_⟩
 ·refine ⟨_,hns,fun i x v h1 h2 hv => ?_⟩
  by_cases hi:i<nT
  ·unfold capSt at h2
   rw [List.getElem?_append_left (by simpa using hi),List.getElem?_replicate] at h2
   split at h2 <;> cases h2
  ·unfold capSt at h2
   rw [List.getElem?_append_right (by simpa using hi),List.length_replicate,List.getElem?_map] at h2
   cases hc:caps[i - nT]? with
   | none=>rw [hc] at h2; cases h2
   | some j =>
    rw [hc] at h2
    simp only [Option.map_some,Option.some.injEq] at h2
    cases hj:σ[j]? with
    | none=>rw [hj] at h2; cases h2
    | some z =>
     rw [hj] at h2
     simp only [Option.join_some] at h2
     subst h2
     have hq:i - nT<caps.length:=(List.getElem?_eq_some_iff.mp hc).1
     obtain ⟨j',x',e1,e2,e3,e4,e5⟩:=B.cap (i - nT) (List.mem_range.mpr hq)
     rw [hc] at e1
     cases e1
     have en:nT+(i - nT)=i:=by omega
     rw [en] at e2
     have ex:x'=x:=Option.some.inj (e2.symm.trans h1)
     subst ex
     have hk:=B.free _ e4 rfl
     obtain ⟨m,hm,hloc⟩:=I.loc
     obtain ⟨u,ru,lk⟩:=hloc j x' v e3 hj (hk.elim (fun z => .inr (.inl z)) fun z => .inr (.inr z))
     rcases lk with ⟨hl,_⟩ | ⟨_,c,hc1,hc2⟩
     ·rcases hk with hk | hk
      ·have:X.env.scope.names.lookup x'=some .local:=hl
       rw [hk] at this; cases this
      ·have:X.env.scope.names.lookup x'=some .local:=hl
       rw [hk] at this; cases this
     ·refine ⟨u,ru,.inr ⟨e5,c,clOf_acc hc1 scope.names [] (.inr e4),?_⟩⟩
      obtain ⟨o,ho',hd⟩:=hc2
      exact ⟨o,k4 _ _ (k3 _ _ ho'),hd⟩
 ·intro x c h1
  obtain ⟨v,o,ho',hd⟩:=I.cell x c (cells _ _ h1)
  exact ⟨v,o,k4 _ _ (k3 _ _ ho'),hd⟩
 ·exact I3.hok.fresh (Nat.le_refl _)
 ·intro x c h1
  exact I.freeC x c (cells _ _ h1)
 ·show (capSt σ caps nT).length=N.length
  rw [B.len]
  simp [capSt]
end
end DL
end
section
namespace DL
open PySem PySem.Spec PyProof.Rows L2
section
variable {X:Cx} {pins:List (Addr×Obj)} {σ:L2.St} {H:Hp} {s:Shared} {scope:Scope} {N:List Str} {fp:List Addr}
theorem blk_end (I:Inv X pins σ H s) (hf:∀ b∈fp,FpOk X pins H b) {σc:L2.St} {H':Hp} {s':Shared} {vs:List V} {its:List Value} {n:Nat}
  (J : Inv (cxC X N scope s.heap.objs.size fp { s with heap := s.heap.push { cls := .type "list", data := .seq ([] : List Value).toArray } } H) [] σc H' s')
  (ha : s'.heap.get? s.heap.objs.size = some { cls := .type "list", data := .seq its.toArray n }) (hn : H' s.heap.objs.size = none) (hv : Vals vs its) (hz : vs.length ≤ sizeLine) : Inv X pins σ (upd H' s.heap.objs.size (.lst vs)) s' := by
 have u:=J.base
 have push : ∀ b o, s.heap.get? b = some o → (s.heap.push { cls := .type "list", data := .seq ([] : List Value).toArray }).get? b = some o := fun b o e => Heap.get?_push_of_some _ e
 have ne:∀ b o,s.heap.get? b=some o→b≠s.heap.objs.size:=fun b o e=>Nat.ne_of_lt (Heap.lt_size e)
 have nex:∀ b o,s.heap.get? b=some o→b ∉ fp→b ∉ s.heap.objs.size :: fp:=fun b o e hb hm=>by
  rcases List.mem_cons.mp hm with h | h
  ·exact ne b o e h
  ·exact hb h
 refine I.call' (ch:=fp) J.os ?_ ?_ J.bare fun b hb=>⟨(hf b hb).2.2.2.1,(hf b hb).2.1,(hf b hb).2.2.2.2.1,(hf b hb).2.2.2.2.2⟩
 ·refine ⟨fun b o e h0 h1 h2=>u.keep b o (push b o e) h0 h1 (nex b o e h2),fun b o e h0 h1 h2=>u.slot b o (push b o e) h0 h1 (nex b o e h2),fun b o e h0 h2 => ?_,fun b o e h2=>u.there b o (push b o e) (nex b o e h2),fun b xs e => ?_,fun b o w e => ?_,fun b ps e => ?_⟩
  ·rw [upd_ne (ne b o e)]
   exact u.free b o (push b o e) h0 (nex b o e h2)
  ·have h1:=u.tups b xs e
   rw [upd_ne (ne_of_none h1 hn)]
   exact h1
  ·have h1:=u.frzs b o w e
   rw [upd_ne (ne_of_none h1 hn)]
   exact h1
  ·obtain ⟨more,h1⟩:=u.tbls b ps e
   exact ⟨more,by rw [upd_ne (ne_of_none h1 hn)]; exact h1⟩
 ·intro a o e
  by_cases haa:a=s.heap.objs.size
  ·subst haa
   rw [upd_same] at e
   cases e
   exact ⟨hz,its,n,hv,ha⟩
  ·rw [upd_ne haa] at e
   exact (J.hok a o e).stay (fun b u _ q=>q) (fun b q=>by rw [upd_ne (ne_of_none q hn)]; exact q) fun b xs q=>by rw [upd_ne (ne_of_none q hn)]; exact q
end
noncomputable def dTrue:DT:=fun _ st => .ok true st
open Classical in
noncomputable def compD (chk:Sto→Prop) (t:TgD) (cond:DT) (fe:DE):List D→Ev→Sto→List D→Out (List D)
 | [],_,st,acc=>if chk st then .ok acc st else .bad
 | x :: xs,ρ,st,acc=>if chk st∧acc.length<small then (match t x ρ with
  | none => .bad
  | some ρ1=>match cond ρ1 st with
   | .ok true st1=>(match fe ρ1 st1 with
    | .ok d st2=>compD chk t cond fe xs ρ1 st2 (acc++[d])
    | _ => .bad)
   | .ok false st1=>compD chk t cond fe xs ρ1 st1 acc
   | _ => .bad) else .bad
noncomputable def dComp (caps:List Nat) (nT:Nat) (f:DI) (t:TgD) (cond:DT) (fe:DE):DA:=fun ρ st=>(f ρ st).bind fun q st1=>compD q.2 t cond fe q.1 (capEv ρ caps nT) st1 []
noncomputable def PTs (X:Cx) (ifs:List Expr) (cond:DT):Prop:=∀ (pins:List (Addr×Obj)) (s:Shared) (σ:L2.St) (H:Hp) (Q:Bool→Hp→Prop),Inv X pins σ H s→tDT X.K EX0 cond σ H Q →
 wpAny (model X.prog X.w) X.A (forIn ifs true fun c r=>if r=true then do let ok ← isTrue c X.env (eval c X.env); pure (ForInStep.yield ok) else pure (ForInStep.yield r)) (TP X pins σ Q) X.xe s
theorem pts_nil {X:Cx}:PTs X [] dTrue:=by
 rintro pins s σ H Q I ⟨O,ρ,st,W,E,R⟩
 exact wpAny_tests_nil ⟨H,I,Run.now (k:=fun b _ _ H'=>Q b H') R W⟩
theorem pts_one {X:Cx} {c:Expr} {t:DT} (h:PDT X EX0 c t):PTs X [c] t:=fun pins s σ H Q I q=>wpAny_tests_one (h pins s σ H Q I q)
section
variable {X:Cx} {EX:EXT} {scope:Scope} {N:List Str} {caps:List Nat} {nT:Nat} {elt tg iter:Expr} {ifs:List Expr} {pos:Pos} {f:DI} {t:TgD} {cond:DT} {fe:DE}
structure BlkOk (X:Cx) (scope:Scope) (N:List Str) (caps:List Nat) (nT:Nat) (tg elt:Expr) (ifs:List Expr) (t:TgD) (cond:DT) (fe:DE):Prop where
 blk:Blk X.env.scope scope X.N N caps nT
 tgt:∀ acc fp s3 H,PGD (cxC X N scope acc fp s3 H) tg t
 tst:∀ acc fp s3 H,PTs (cxC X N scope acc fp s3 H) ifs cond
 elt:∀ acc fp s3 H,PD (cxC X N scope acc fp s3 H) EX0 elt fe
noncomputable def ItF (K:PySem.W.Frag) (J:It) (O0:List Addr) (H0:Hp) (q:Wk):Prop :=
 ∀ (i:Nat) (O:List Addr) (H:Hp) (st:Sto),Keep K O0 H0 O H→(∀ b o u,H0 b=some (.frz o u)→H b=some (.frz o u))→WR K O H st→q.2 st →
  (∀ d,q.1[i]?=some d→J.go i H∧∀ x H',J.yld i H x H'→Keep K O H O H'∧WR K O H' st∧Rep K O H' d x)∧(q.1.length≤i→J.stop i H)
theorem ItD.fz {K:PySem.W.Frag} {J:It} {O0:List Addr} {H0:Hp} {q:Wk} (h:ItD K J O0 H0 q):ItF K J O0 H0 q:=fun i O H st k _=>h i O H st k
theorem lc_block (hc:X.calm=true) (B:BlkOk X scope N caps nT tg elt ifs t cond fe) {pins:List (Addr×Obj)} {σ:L2.St} {H:Hp} {s:Shared} {O:List Addr} {ρ:Ev} {st:Sto} {q:Wk} {J:It} {fp:List Addr} {it:Addr} {tn:Nat→Heap→Prop} {Q:VK} {E:Value→Shared→Prop}
  {RR:Value→Addr→Result→Shared→Prop}
  (I:Inv X pins σ H s) (T:Turn X.prog X.w X.K tg J fp it tn) (h0:tn 0 s.heap) (hf:∀ b∈fp,FpOk X pins H b) (hJ:ItF X.K J O H q) (W:WR X.K O H st) (Er:REnv X.K O H ρ σ)
  (R:Run X.K EX O H (compD q.2 t cond fe q.1 (capEv ρ caps nT) st []) (New X.K Q))
  (hRR:∀ (p C:Addr) (H':Hp) (vs:List V) (s':Shared) (m:Str→Option Value),s.heap.objs.size≤C→H' C=none→s'.heap.Ns C m→p≠C→Inv X pins σ (upd H' p (.lst vs)) s'→Q (.ref p) (upd H' p (.lst vs))→RR (.ref p) C (.ok .next) s') :
  wpAny (model X.prog X.w) X.A (newList []) (fun acc s₃=>wpAny (model X.prog X.w) X.A (newFunctionEnv scope X.env.globals (clOf X.env scope.names []) [] X.env.qual none .none (some X.env)) (fun cenv s₄ =>
   codeAny (model X.prog X.w) X.A (.compStart (.ListComp elt [⟨tg,iter,ifs,0⟩] scope pos) 0 (.ref it) acc { cenv with scope:=relabel scope X.env }) (RR acc cenv.locals) s₄) E s₃) E s:=by
 refine wpAny_newObj_type (wpAny_newFunctionEnv B.blk.nocell (by intro y hy; simp at hy) (fun h₁ hns₁ hsb₁ => ?_) B.blk.kind)
 dsimp only at hns₁ hsb₁ ⊢
 have ltC : s.heap.objs.size < (s.heap.push { cls := .type "list", data := .seq ([] : List Value).toArray }).objs.size := by rw [Heap.size_push]; exact Nat.lt_succ_self _
 have fpo:∀ b∈fp,∃ o,s.heap.get? b=some o:=fun b hb=>let ⟨o,e,_⟩:=T.obj 0 _ h0 b hb; ⟨o,e⟩
 have I4:=blk_start (tk:=s.toks+([]:List (Str×Value)).length) B.blk I hf fpo hns₁ hsb₁
 have fpne:∀ b∈fp,b≠s.heap.objs.size:=fun b hb=>let ⟨o,e⟩:=fpo b hb; Nat.ne_of_lt (Heap.lt_size e)
 generalize hXC : cxC X N scope s.heap.objs.size fp { s with heap := s.heap.push { cls := .type "list", data := .seq ([] : List Value).toArray } } H = XC at I4
 have fok:∀ (H':Hp) (P:List (Addr×Obj)),(∀ b∈fp,H' b=none)→(∀ p∈P,p.1 ∉ fp)→∀ b∈fp,FpOk XC P H' b:=by
  intro H' P h1 h2 b hb
  subst hXC
  obtain ⟨o,e⟩:=fpo b hb
  refine ⟨h1 b hb,Nat.ne_of_lt (Nat.lt_trans (Heap.lt_size e) ltC),fun hm => ?_,.inl (List.mem_cons_of_mem _ hb),fun x c hx=>(hf b hb).2.2.2.2.1 x c (clOf_look scope.names [] (fun y a z=>(by cases z)) hx),fun p hp hpe=>h2 p (by have hp':p∈[]++P:=hp; simpa using hp') (hpe ▸ hb)⟩
  rcases List.mem_cons.mp (I.stkSub _ hm) with z | z
  ·exact (hf b hb).2.1 z
  ·exact (hf b hb).2.2.1 z
 have aok:∀ (H':Hp),H' s.heap.objs.size=none→FpOk XC [] H' s.heap.objs.size:=by
  intro H' h1
  subst hXC
  refine ⟨h1,Nat.ne_of_lt ltC,fun hm => ?_,.inl List.mem_cons_self,fun x c hx z => ?_,fun p hp=>by cases hp⟩
  ·rcases List.mem_cons.mp (I.stkSub _ hm) with z | z
   ·have:=I.lt
    rw [← z] at this
    exact absurd this (Nat.lt_irrefl _)
   ·exact I.nofs (Nat.le_refl _) z
  ·obtain ⟨v,o,ho',_⟩:=I.cell x c (clOf_look scope.names [] (fun y a z=>(by cases z)) hx)
   exact absurd (z ▸ Heap.lt_size ho') (Nat.lt_irrefl _)
 have k4:∀ b o,s.heap.get? b=some o→h₁.get? b=some o:=fun b o e=>hsb₁.extBut b o (Nat.ne_of_lt (Nat.lt_trans (Heap.lt_size e) ltC)) (Heap.get?_push_of_some _ (Heap.get?_push_of_some _ e))
 have hacc0 : h₁.get? s.heap.objs.size = some { cls := .type "list", data := .seq ([] : List Value).toArray } := hsb₁.extBut _ _ (Nat.ne_of_lt ltC) (Heap.get?_push_of_some _ (Heap.get?_push_size _ rfl))
 have eP:XC.prog=X.prog:=by subst hXC; rfl
 have eW:XC.w=X.w:=by subst hXC; rfl
 have eK:XC.K=X.K:=by subst hXC; rfl
 have eA:XC.A=X.A:=by subst hXC; rfl
 have eC:XC.calm=true:=by subst hXC; exact hc
 have eX:XC.xe=fun _ _=>False:=by subst hXC; rfl
 have eE : XC.env = compEnvC scope (clOf X.env scope.names []) (s.heap.push { cls := .type "list", data := .seq ([] : List Value).toArray }).objs.size X.env := by subst hXC; rfl
 have loop:∀ s4:Shared,s4 = { s with heap:=h₁,toks:=s.toks+([]:List (Str×Value)).length } →
   codeAny (model X.prog X.w) X.A (.compLoop (.ListComp elt [⟨tg, iter, ifs, 0⟩] scope pos) 0 (.ref it) (.ref s.heap.objs.size) XC.env) (RR (.ref s.heap.objs.size) (s.heap.push { cls := .type "list", data := .seq ([] : List Value).toArray }).objs.size) s4 := by
  intro s4 es4
  refine compLoop_gen (fun n s' => ∃ (i:Nat) (O':List Addr) (ρ':Ev) (st':Sto) (ds:List D) (vs:List V) (its:List Value) (nn:Nat) (H':Hp) (σc:L2.St),n+i=q.1.length∧Inv XC [] σc H' s'∧Keep X.K O H O' H'∧WR X.K O' H' st'∧REnv X.K O' H' ρ' σc∧tn i s'.heap ∧
   (∀ b ∈ fp, H' b = none) ∧ s'.heap.get? s.heap.objs.size = some { cls := .type "list", data := .seq its.toArray nn } ∧ H' s.heap.objs.size = none ∧ Vals vs its ∧ Reps X.K O' H' ds vs ∧ ds.length ≤ small ∧ Run X.K EX O' H' (compD q.2 t cond fe (q.1.drop i) ρ' st' ds) (New X.K Q)) ?_ q.1.length ?_
  ·rintro n s' ⟨i,O',ρ',st',ds,vs,its,nn,H',σc,hn,Ic,kp,W',E',htn,hfn,hacc,haccH,hv,hr,hz,hR⟩
   have IcA:Inv XC (pinsAt [s.heap.objs.size] s'.heap) σc H' s':=by
    have:=Ic.pinned (fp:=[s.heap.objs.size]) (fun b hb=>by rw [List.mem_singleton] at hb; subst hb; exact aok H' haccH) (fun b hb=>by rw [List.mem_singleton] at hb; subst hb; exact ⟨_,hacc,fun v z=>by cases z⟩)
    simpa using this
   have pA:∀ p∈pinsAt [s.heap.objs.size] s'.heap,p.1 ∉ fp:=fun p hp hm=>by
    have:=(of_pinsAt hp).1
    rw [List.mem_singleton] at this
    exact fpne _ hm this
   have fz:∀ b o u,H b=some (.frz o u)→H' b=some (.frz o u):=by subst hXC; exact Ic.base.frzs
   have hpin : (s.heap.objs.size, ({ cls := .type "list", data := .seq its.toArray nn } : Obj)) ∈ pinsAt [s.heap.objs.size] s'.heap := mem_pinsAt (List.mem_singleton.mpr rfl) hacc
   cases hd:q.1.drop i with
   | nil =>
    rw [hd] at hR
    unfold compD at hR
    by_cases hch:q.2 st'
    ·rw [if_pos hch] at hR
     have hl:q.1.length≤i:=List.drop_eq_nil_iff.mp hd
     have hstop:=(hJ i O' H' st' kp fz W' hch).2 hl
     have hw:=T.done XC eP eW eK eC i (pinsAt [s.heap.objs.size] s'.heap) s' σc H' (fun _ _=>False) IcA (fok H' _ hfn pA) htn hstop
     rw [eA] at hw
     refine wpAny_mono hw (fun r s1 hr1 => ?_) fun _ _ z=>z
     obtain ⟨rfl,I1⟩:=hr1
     obtain ⟨p1,p2,_⟩:=I1.pin _ (List.mem_append_right _ hpin)
     obtain ⟨m,hm,_⟩:=I1.loc
     have I1':Inv XC [] σc H' s1:=I1.pins_of fun p hp=>I1.pin p (List.mem_append_left _ (by simpa using hp))
     have hCf:=I1.free
     rw [eE] at hm hCf
     refine hRR _ _ H' vs s1 m (Nat.le_of_lt ltC) hCf hm (Nat.ne_of_lt ltC) ?_ (Run.now (k:=New X.K Q) hR W' _ vs hr haccH)
     subst hXC
     exact blk_end I hf I1' p1 haccH hv (by rw [← hr.length]; exact Nat.le_trans hz small_le)
    ·rw [if_neg hch] at hR; exact hR.elim
   | cons x xs =>
    rw [hd] at hR
    unfold compD at hR
    have hx:q.1[i]?=some x:=by
     have:=List.getElem?_drop (xs:=q.1) (i:=i) (j:=0)
     rw [hd] at this
     simpa using this.symm
    have hxs:q.1.drop (i+1)=xs:=by
     have:=List.drop_drop (i:=1) (j:=i) (l:=q.1)
     rw [hd] at this
     simpa using this.symm
    have hi:i<q.1.length:=(List.getElem?_eq_some_iff.mp hx).1
    by_cases hch:q.2 st'∧ds.length<small
    ·rw [if_pos hch] at hR
     obtain ⟨hgo,hy⟩:=(hJ i O' H' st' kp fz W' hch.1).1 x hx
     have hw:=T.item XC eP eW eK eC i (pinsAt [s.heap.objs.size] s'.heap) s' σc H' (fun _ _=>False) IcA (fok H' _ hfn pA) htn hgo
     rw [eA] at hw
     refine wpAny_mono hw (fun r s1 hr1 => ?_) fun _ _ z=>z
     obtain ⟨u,rfl,hw2⟩:=hr1
     refine wpAny_mono hw2 (fun _ s2 hr2 => ?_) fun _ _ z=>z
     obtain ⟨x',H1,I1,rx,hyl,htn1,hfn1⟩:=hr2
     obtain ⟨ky,Wy,ry⟩:=hy x' H1 hyl
     cases ht:t x ρ' with
     | none=>rw [ht] at hR; exact hR.elim
     | some ρ1 =>
      rw [ht] at hR
      dsimp only at hR
      have I1':Inv XC (pinsAt [s.heap.objs.size] s'.heap++pinsAt fp s2.heap) σc H1 s2:=I1.pinned (fok H1 _ hfn1 pA) fun b hb=>T.obj (i+1) _ htn1 b hb
      generalize hP2:pinsAt [s.heap.objs.size] s'.heap++pinsAt fp s2.heap=P2 at I1'
      have hpa : (s.heap.objs.size, ({ cls := .type "list", data := .seq its.toArray nn } : Obj)) ∈ P2 := hP2 ▸ List.mem_append_left _ hpin
      have hpf:∀ b∈fp,∀ o,s2.heap.get? b=some o→(b,o)∈P2:=fun b hb o e=>hP2 ▸ List.mem_append_right _ (mem_pinsAt hb e)
      have back : ∀ {σ2 : L2.St} {H2 : Hp} {s3 : Shared}, Inv XC P2 σ2 H2 s3 → s3.heap.get? s.heap.objs.size = some { cls := .type "list", data := .seq its.toArray nn } ∧ H2 s.heap.objs.size = none ∧ (∀ b ∈ fp, H2 b = none) ∧ (∀ b ∈ fp, ∀ o, s2.heap.get? b = some o → s3.heap.get? b = some o) ∧ Inv XC [] σ2 H2 s3 := by
       intro σ2 H2 s3 I3
       refine ⟨(I3.pin _ (List.mem_append_right _ hpa)).1,(I3.pin _ (List.mem_append_right _ hpa)).2.1,fun b hb => ?_,fun b hb o e=>(I3.pin _ (List.mem_append_right _ (hpf b hb o e))).1,I3.pins_of fun p hp=>I3.pin p (List.mem_append_left _ (by simpa using hp))⟩
       obtain ⟨o,e,_⟩:=T.obj (i+1) _ htn1 b hb
       exact (I3.pin _ (List.mem_append_right _ (hpf b hb o e))).2.1
      have PG1:PGD XC tg t:=by subst hXC; exact B.tgt _ _ _ _
      have PT1:PTs XC ifs cond:=by subst hXC; exact B.tst _ _ _ _
      have PE1:PD XC EX0 elt fe:=by subst hXC; exact B.elt _ _ _ _
      have ha:=PG1 P2 s2 σc H1 x' u (fun σ' H''=>H''=H1∧REnv X.K O' H1 ρ1 σ') I1' rx ⟨O',x,ρ',ρ1,by rw [eK]; exact ry,by rw [eK]; exact E'.mono ky,ht,fun σ' E2=>⟨rfl,by rw [eK] at E2; exact E2⟩⟩
      rw [eP,eW,eA,eX] at ha
      refine wpAny_mono ha (fun _ s3 hr3 => ?_) fun _ _ z=>z
      obtain ⟨σ2,H1',I3,rfl,E2⟩:=hr3
      have hb:=PT1 P2 s3 σ2 H1' (fun b H'' => ∃ O'' stb,cond ρ1 st' = .ok b stb∧Keep X.K O' H1' O'' H''∧WR X.K O'' H'' stb) I3 ⟨O',ρ1,st',by rw [eK]; exact Wy,by rw [eK]; exact E2,by
       rw [eK]
       cases hcnd:cond ρ1 st' with
       | ok b stb=>exact fun O'' H'' k W=>⟨O'',stb,rfl,k,W⟩
       | exc c stb=>rw [hcnd] at hR; exact hR.elim
       | bad=>rw [hcnd] at hR; exact hR.elim⟩
      rw [eP,eW,eA,eX] at hb
      refine wpAny_mono hb (fun ok s4 hr4 => ?_) fun _ _ z=>z
      obtain ⟨H2,I4',O2,stb,hcnd,kb,Wb⟩:=hr4
      rw [hcnd] at hR
      cases ok with
      | false =>
       dsimp only at hR
       obtain ⟨b1,b2,b3,b4,b5⟩:=back I4'
       refine ⟨n - 1,by omega,i+1,O2,ρ1,stb,ds,vs,its,nn,H2,σ2,by omega,b5,kp.trans (ky.trans kb),Wb,E2.mono kb,T.keep _ _ _ htn1 b4,b3,b1,b2,hv,Reps.mono (ky.trans kb) _ _ hr,hz,?_⟩
       rw [hxs]
       exact Run.later hR (ky.trans kb)
      | true =>
       dsimp only at hR
       have he:=PE1 P2 s4 σ2 H2 (fun v H3 => ∃ O3 st3 d,fe ρ1 stb = .ok d st3∧Keep X.K O2 H2 O3 H3∧WR X.K O3 H3 st3∧Rep X.K O3 H3 d v) I4' ⟨O2,ρ1,stb,by rw [eK]; exact Wb,by rw [eK]; exact E2.mono kb,by
        rw [eK]
        cases hfe:fe ρ1 stb with
        | ok d st3=>exact fun O3 H3 k W v r=>⟨O3,st3,d,rfl,k,W,r⟩
        | exc c st3=>rw [hfe] at hR; exact hR.elim
        | bad=>rw [hfe] at hR; exact hR.elim⟩
       rw [eP,eW,eA,eX] at he
       refine wpAny_mono he (fun uv s5 hr5 => ?_) fun _ _ z=>z
       obtain ⟨v,H3,I5,rv,O3,st3,d,hfe,ke,We,re⟩:=hr5
       rw [hfe] at hR
       dsimp only at hR
       obtain ⟨b1,b2,b3,b4,b5⟩:=back I5
       refine append_obj b1 (fun h6 hg6 hs6 => ?_) (by rw [← hv.length,← hr.length]; exact Nat.le_trans hz small_le)
       obtain ⟨f0,f1,f2,f3,f4,f5⟩:=aok H3 b2
       have I6:Inv XC [] σ2 H3 { s5 with heap:=h6 }:=b5.turned (t':=s5.toks) (fun b o hb e=>(hs6.2 b hb).trans e) f0 f1 f3 f4 f5
       refine ⟨n - 1,by omega,i+1,O3,ρ1,st3,ds++[d],vs++[v],its++[uv],nn+1,H3,σ2,by omega,I6,kp.trans (ky.trans (kb.trans ke)),We,E2.mono (kb.trans ke),T.keep _ _ _ htn1 (fun b hb o e=>(hs6.2 b (fpne b hb)).trans (b4 b hb o e)),b3,hg6,b2,hv.append (.cons rv .nil),(Reps.mono (ky.trans (kb.trans ke)) _ _ hr).append (Reps.one re),by rw [List.length_append]; exact hch.2,?_⟩
       rw [hxs]
       exact Run.later hR (ky.trans (kb.trans ke))
    ·rw [if_neg hch] at hR; exact hR.elim
  ·subst es4
   refine ⟨0,O,capEv ρ caps nT,st,[],[],[],0,H,capSt σ caps nT,rfl,I4,Keep.refl,W,capEnv Er caps nT,T.keep _ _ _ h0 (fun b hb o e=>k4 b o e),fun b hb=>(hf b hb).1,hacc0,I.hok.fresh (Nat.le_refl _),.nil,Reps.nil_i.mpr rfl,Nat.zero_le _,?_⟩
   rw [List.drop_zero]
   exact R
 have e5 : ({ newEnv scope (s.heap.push { cls := .type "list", data := .seq ([] : List Value).toArray }).objs.size X.env.globals (clOf X.env scope.names []) X.env.qual none .none (some X.env) builtinsNs with scope := relabel scope X.env } : Env) = XC.env := by rw [eE]; rfl
 have h5:=loop _ rfl
 refine codeAny_compStart_list ?_ ?_
 ·exact e5 ▸ h5
 ·exact T.self _ 0 _ _ _ (T.keep _ _ _ h0 (fun b hb o e=>k4 b o e)) (e5 ▸ h5)
end
end DL
end
section
namespace DL
open PySem PySem.Spec PyProof.Rows L2
section
variable {X:Cx} {EX:EXT} {scope:Scope} {N:List Str} {caps:List Nat} {nT:Nat} {elt tg iter:Expr} {ifs:List Expr} {pos spos py:Pos} {f:DI} {t:TgD} {cond:DT} {fe:DE} {y:Str}
theorem gone {pins:List (Addr×Obj)} {σ:L2.St} {H H1:Hp} {s s1:Shared} {C:Addr} {h':Heap} (I:Inv X pins σ H s) (hC:s.heap.objs.size≤C) {σ1:L2.St} (I1:Inv X pins σ1 H1 s1) (hn:H1 C=none) (hs:Heap.SameBut C s1.heap h'):Inv X pins σ1 H1 { s1 with heap:=h' }:=by
 refine I1.turned (t':=s1.toks) (fun b o hb e=>(hs.2 b hb).trans e) hn ?_ (.inr (Nat.le_trans I.sz hC)) ?_ ?_
 ·intro z
  exact absurd (Nat.lt_of_lt_of_le I.lt (z ▸ hC)) (Nat.lt_irrefl _)
 ·intro x c hx z
  obtain ⟨v,o,ho,_⟩:=I.cell x c hx
  exact absurd (Nat.lt_of_lt_of_le (Heap.lt_size ho) (z ▸ hC)) (Nat.lt_irrefl _)
 ·intro p hp z
  obtain ⟨h1,_⟩:=I.pin p hp
  exact absurd (Nat.lt_of_lt_of_le (Heap.lt_size h1) (z ▸ hC)) (Nat.lt_irrefl _)
noncomputable def LcI (X:Cx) (EX:EXT) (pins:List (Addr×Obj)) (σ:L2.St) (tg:Expr) (caps:List Nat) (nT:Nat) (t:TgD) (cond:DT) (fe:DE) (Q:VK) (itv:Value) (s2:Shared):Prop :=
 ∃ (it:Addr) (fp:List Addr) (tn:Nat→Heap→Prop) (J:It) (H1:Hp),itv = .ref it∧Inv X pins σ H1 s2∧Turn X.prog X.w X.K tg J fp it tn∧tn 0 s2.heap∧(∀ b∈fp,FpOk X pins H1 b) ∧
  ∃ O1 ρ q st1 Q',ItF X.K J O1 H1 q∧WR X.K O1 H1 st1∧REnv X.K O1 H1 ρ σ∧Run X.K EX O1 H1 (compD q.2 t cond fe q.1 (capEv ρ caps nT) st1 []) (New X.K Q') ∧
   ∀ p vs H2,Q' (.ref p) (upd H2 p (.lst vs))→∃ H3,Q (.ref p) H3∧(∀ C,C≠p→H2 C=none→H3 C=none)∧∀ σ' s',Inv X pins σ' (upd H2 p (.lst vs)) s'→Inv X pins σ' H3 s'
noncomputable def PLc (X:Cx) (EX:EXT) (tg iter:Expr) (caps:List Nat) (nT:Nat) (t:TgD) (cond:DT) (fe:DE) (F:DA):Prop :=
 ∀ (pins:List (Addr×Obj)) (s:Shared) (σ:L2.St) (H:Hp) (Q:VK),Inv X pins σ H s→tDF X.K EX F σ H Q →
  wpAny (model X.prog X.w) X.A (eval iter X.env) (fun v s1=>wpAny (model X.prog X.w) X.A (pyIter v) (LcI X EX pins σ tg caps nT t cond fe Q) X.xe s1) X.xe s
theorem plc_of (hi:PID X EX tg iter f):PLc X EX tg iter caps nT t cond fe (dComp caps nT f t cond fe):=by
 rintro pins s σ H Q I ⟨O,ρ,st,W,E,R⟩
 refine wpAny_mono (hi pins s σ H (fun J H1 => ∃ O1 ρ q st1,ItD X.K J O1 H1 q∧WR X.K O1 H1 st1∧REnv X.K O1 H1 ρ σ∧Run X.K EX O1 H1 (compD q.2 t cond fe q.1 (capEv ρ caps nT) st1 []) (New X.K Q)) I
  ⟨O,ρ,st,W,E,R.bind.mono fun q st1 O1 H1 k1 W1 R1 J hJ=>⟨O1,ρ,q,st1,hJ,W1,E.mono k1,R1⟩⟩) (fun xv s₁ h₁=>wpAny_mono h₁ (fun itv s₂ h₂ => ?_) fun _ _ e=>e) fun _ _ e=>e
 obtain ⟨it,fp,tn,J,H',rfl,I',T,h0,hf,O1,ρ,q,st1,hJ,W1,E1,R1⟩:=h₂
 exact ⟨it,fp,tn,J,H',rfl,I',T,h0,hf,O1,ρ,q,st1,Q,hJ.fz,W1,E1,R1,fun p vs H2 hq=>⟨_,hq,fun C hC e=>by rw [upd_ne hC]; exact e,fun _ _ I=>I⟩⟩
theorem clos_ok {pins:List (Addr×Obj)} {σ:L2.St} {H:Hp} {s:Shared} (B:Blk X.env.scope scope X.N N caps nT) (I:Inv X pins σ H s):closureFor scope X.env=pure (clOf X.env scope.names []) :=
 closureFor_of fun y hy hk=>I.ok.has y.1 (B.free y hy hk)
theorem pdf_lcG {F:DA} (hc:X.calm=true) (B:BlkOk X scope N caps nT tg elt ifs t cond fe) (hi:PLc X EX tg iter caps nT t cond fe F) (hs:∀ x,foldedSetIterable iter X.env x=pure x:=by intro _; rfl):PDF X EX (.ListComp elt [⟨tg,iter,ifs,0⟩] scope pos) F:=by
 intro pins s σ H Q I h
 rw [eval_ListComp]
 refine wpAny_comprehension_free (use:=none) rfl hs (clos_ok B.blk I) B.blk.kind B.blk.names (wpAny_mono (hi pins s σ H _ I h) (fun xv s₁ h₁=>wpAny_mono h₁ (fun itv s₂ h₂ => ?_) fun _ _ e=>e) fun _ _ e=>e)
 obtain ⟨it,fp,tn,J,H',rfl,I',T,h0,hf,O1,ρ,q,st1,Q',hJ,W1,E1,R1,thaw⟩:=h₂
 refine lc_block (RR:=fun acc C=>compPost (model X.prog X.w) X.A X.xe none (EP X pins σ Q) acc C) hc B I' T h0 hf hJ W1 E1 R1 ?_
 intro p C H2 vs s' m hC hn hns hpC I2 hq
 obtain ⟨H3,q3,n3,i3⟩:=thaw p vs H2 hq
 refine ⟨m,hns,fun h' hsb=>⟨.ref p,_,gone I' hC (i3 _ _ I2) (n3 C (Ne.symm hpC) hn) hsb,rfl,q3⟩⟩
theorem pdf_lc (hc:X.calm=true) (B:BlkOk X scope N caps nT tg elt ifs t cond fe) (hi:PID X EX tg iter f) (hs:∀ x,foldedSetIterable iter X.env x=pure x:=by intro _; rfl):PDF X EX (.ListComp elt [⟨tg,iter,ifs,0⟩] scope pos) (dComp caps nT f t cond fe):=pdf_lcG hc B (plc_of hi) hs
end
end DL
end
section
namespace HT
open PySem PyProof.Rows
section
open PySem.AutoSeq1 (wpAny_loadPart')
theorem noFill_tuple_mul : fillsNumberSlot (.type "tuple") "mul" = pure false :=
 PySem.fillsNumberSlot_seq (id := "tuple.__mul__") (r := some (.builtin "tuple.__rmul__")) F.slot_tuple_mul.lookup (by decide +kernel) F.slot_tuple_rmul.lookup (by decide +kernel)
theorem repeat_tuple : seqRepeat? (.type "tuple") = pure (some (.builtin "tuple.__mul__")) := by
 unfold seqRepeat?
 rw [PySem.seqSlot_of (T := "tuple") (name := "__mul__") (id := "tuple.__mul__") F.slot_tuple_mul.lookup (by decide +kernel), PySem.seqSlot_of (T := "tuple") (name := "__rmul__") (id := "tuple.__rmul__") F.slot_tuple_rmul.lookup (by decide +kernel)]
 rfl
theorem int_rmul_tuple (a:Int) (t:Tok) (l:Addr) (items:Array Value) (n:Nat) (dd:Option Addr) (sl:Array (Option Value)) :
  Meets (Builtin.«int.__rmul__» ⟨[.int a t, .ref l], []⟩) (fun _ R s => s.heap.get? l = some { cls := .type "tuple", dict := dd, data := .seq items n, slots := sl } ∧ R (.ok (.ret Value.notImplemented)) s) :=
 .of_wp fun prog w A R s h=>by obtain ⟨hp,g,d,tk,os⟩:=s; obtain ⟨hl,h⟩:=h; wp_walk using wpAny_loadPart' hl; exact ⟨_,rfl,h⟩
theorem tuple_mulW1 (l:Addr) (items:Array Value) (n:Nat) (dd:Option Addr) (sl:Array (Option Value)) (k:Int) (u:Tok) (hf:¬ (decide (k < -(2 ^ 63)) || decide (k ≥ 2 ^ 63))=true) (hc:(items.isEmpty || k == 1)=true) :
  Meets (Builtin.«tuple.__mul__» ⟨[.ref l, .int k u], []⟩) (fun _ R s => s.heap.get? l = some { cls := .type "tuple", dict := dd, data := .seq items n, slots := sl } ∧ R (.ok (.ret (.ref l))) s) :=
 .of_wp fun prog w A R s h=>by obtain ⟨hp,g,d,tk,os⟩:=s; obtain ⟨hl,h⟩:=h; have f1:=AutoSeq1.idx_int; wp_walk using wpAny_loadPart' hl; refine wpAny_ite_false (decide_eq_false hf) ?_; wp_walk using wpAny_loadPart' hl; exact ⟨_,rfl,h⟩
theorem tuple_mulW2 (l:Addr) (items:Array Value) (n:Nat) (dd:Option Addr) (sl:Array (Option Value)) (k:Int) (u:Tok) (hf:¬ (decide (k < -(2 ^ 63)) || decide (k ≥ 2 ^ 63))=true) (hc:¬ (items.isEmpty || k == 1)=true) (hc2:(decide (k≤0) || items.isEmpty)=true) :
  Meets (Builtin.«tuple.__mul__» ⟨[.ref l, .int k u], []⟩) (fun _ R s => s.heap.get? l = some { cls := .type "tuple", dict := dd, data := .seq items n, slots := sl } ∧ R (.ok (.ret (.ref s.heap.objs.size))) { s with heap := s.heap.push { cls := .type "tuple", data := .seq #[] } }) :=
 .of_wp fun prog w A R s h=>by obtain ⟨hp,g,d,tk,os⟩:=s; obtain ⟨hl,h⟩:=h; have f1:=AutoSeq1.idx_int; wp_walk using wpAny_loadPart' hl; refine wpAny_ite_false (decide_eq_false hf) ?_; wp_walk using wpAny_loadPart' hl; exact ⟨_,rfl,h⟩
theorem tuple_mulW3 (l:Addr) (items:Array Value) (n:Nat) (dd:Option Addr) (sl:Array (Option Value)) (k:Int) (u:Tok) (hf:¬ (decide (k < -(2 ^ 63)) || decide (k ≥ 2 ^ 63))=true) (hc:¬ (items.isEmpty || k == 1)=true) (hc2:¬ (decide (k≤0) || items.isEmpty)=true)
  (hc3:¬ (items.size:Int) * k > (2 ^ 63 - 1) / 8) (hc4:¬ Builtin.Tuple.tupleTooMany ((items.size:Int) * k)=true) (hsz:((List.replicate k.toNat items).foldl (· ++ ·) #[]).size≤sizeLine) :
  Meets (Builtin.«tuple.__mul__» ⟨[.ref l, .int k u], []⟩) (fun _ R s => s.heap.get? l = some { cls := .type "tuple", dict := dd, data := .seq items n, slots := sl } ∧ R (.ok (.ret (.ref s.heap.objs.size))) { s with heap := s.heap.push { cls := .type "tuple", data := .seq ((List.replicate k.toNat items).foldl (· ++ ·) #[]) } }) :=
 .of_wp fun prog w A R s h=>by obtain ⟨hp,g,d,tk,os⟩:=s; obtain ⟨hl,h⟩:=h; have f1:=AutoSeq1.idx_int; wp_walk using wpAny_loadPart' hl; refine wpAny_ite_false (decide_eq_false hf) ?_; wp_walk using wpAny_loadPart' hl; refine wpAny_ite_false (decide_eq_false hc3) ?_; wp_walk using wpAny_loadPart' hl; exact ⟨_,rfl,h⟩
end
end HT
namespace DL
open PySem PySem.Spec PyProof.Rows L2
section
variable {X:Cx} {EX:EXT} {a b c e o:Expr} {fa fb fc fo:DE} {pos p apos:Pos}
noncomputable def repL (xs:List D) (k:Nat):List D:=(List.replicate k xs).flatten
noncomputable def mul2D:D→D→Sto→Out D
 | .tup xs,.int k,st=>if -1000≤k∧k≤1000∧xs.length≤10 then .ok (.tup (repL xs k.toNat)) st else .bad
 | .str x,.int k,st=>if -1000≤k∧k≤1000∧x.length≤10 then .ok (.str (PySem.Txt.mul x k)) st else .bad
 | a,b,st=>mulD a b st
theorem mul_tup {pins:List (Addr×Obj)} {σ:L2.St} {H:Hp} {s:Shared} {O:List Addr} {st:Sto} {xs:List D} {l:Addr} {vs:List V} {k:Int} {t:Tok} {Q:VK} (I:Inv X pins σ H s) (W:WR X.K O H st) (q:H l=some (.tup vs)) (r:Reps X.K O H xs vs) (hk : -1000≤k∧k≤1000∧xs.length≤10)
  (R:Run X.K EX O H (.ok (.tup (repL xs k.toNat)) st) (Val X.K Q)):wpAny (model X.prog X.w) X.A (binaryOp .Mult (.ref l) (.int k t)) (EP X pins σ Q) X.xe s:=by
 obtain ⟨its,hv,ht,hz⟩:=I.tuple (SqT.of q)
 obtain ⟨⟨cls,dd,data,sl⟩,ho,hc,n,hd⟩:=id ht
 simp only at hc hd
 subst hc hd
 have lk:its.length≤10:=by rw [← hv.length,← r.length]; exact hk.2.2
 have hf:¬ (decide (k < -(2 ^ 63)) || decide (k ≥ 2 ^ 63))=true:=by
  rw [Bool.or_eq_true,not_or]
  exact ⟨fun h=>by have:=of_decide_eq_true h; omega,fun h=>by have:=of_decide_eq_true h; omega⟩
 have fold:(List.replicate k.toNat its.toArray).foldl (· ++ ·) #[]=(List.replicate k.toNat its).flatten.toArray:=by
  have:=foldl_rep its k.toNat []
  rw [List.nil_append] at this
  exact this
 refine wpAny_binaryOp_repeat_ref (T := "tuple") (U := "int") (by decide) ⟨_, ho, rfl⟩ (fun s' => typeIs_int s' k t) HT.noFill_tuple_mul F.fills_int_mul F.slot_int_rmul HT.repeat_tuple F.slot_int_index.lookup
  (call_meets F.slot_int_rmul (typeIs_int s k t) F.entry_int_rmul (F.args_int_rmul_2 _ _) (HT.int_rmul_tuple k t l its.toArray n dd sl)
   ⟨ho,rfl,⟨_,ho,rfl⟩,?_⟩)
 by_cases h1:(its.toArray.isEmpty || k == 1)=true
 ·refine call_meets F.slot_tuple_mul ⟨_,ho,rfl⟩ F.entry_tuple_mul (F.args_tuple_mul_2 _ _) (HT.tuple_mulW1 l its.toArray n dd sl k t hf h1) ⟨ho,?_⟩
  have e:repL xs k.toNat=xs:=by
   rw [Bool.or_eq_true] at h1
   rcases h1 with h1 | h1
   ·have h2:its=[]:=by simpa using h1
    have h3:xs=[]:=by
     have:=r.length
     rw [hv.length,h2] at this
     exact List.length_eq_zero_iff.mp this
    subst h3
    unfold repL
    induction k.toNat with
    | zero=>rfl
    | succ m ih=>rw [List.replicate_succ,List.flatten_cons,ih]; rfl
   ·have h2:k=1:=by simpa using h1
    subst h2
    simp [repL]
  rw [e] at R
  exact ⟨.ref l,H,I,rfl,Run.now (k:=Val X.K Q) R W _ (Rep.tup_i.mpr ⟨l,vs,rfl,q,r⟩)⟩
 ·by_cases h2:(decide (k≤0) || its.toArray.isEmpty)=true
  ·refine call_meets F.slot_tuple_mul ⟨_,ho,rfl⟩ F.entry_tuple_mul (F.args_tuple_mul_2 _ _) (HT.tuple_mulW2 l its.toArray n dd sl k t hf h1 h2) ⟨ho,?_⟩
   have e:k.toNat=0:=by
    rw [Bool.or_eq_true] at h2 h1
    rcases h2 with h2 | h2
    ·have:=of_decide_eq_true h2; omega
    ·exact absurd (.inl h2) h1
   have hp:=I.hok.fresh (Nat.le_refl s.heap.objs.size)
   rw [e] at R
   refine ⟨.ref s.heap.objs.size,_,I.laid (t':=s.toks) (o:=.tup []) (fun b ob q=>Heap.get?_push_of_some _ q) (Nat.le_refl _) ⟨by decide,[],.nil,IsTup.new _ _,fun o2 e2=>by rw [Heap.get?_push_size _ rfl] at e2; cases e2; rfl⟩,rfl,?_⟩
   exact new_tup (xs:=repL xs 0) W (Reps.nil_i.mpr rfl) hp R
  ·have hk0:0<k:=by
    rw [Bool.or_eq_true,not_or] at h2
    have:=of_decide_eq_false (Bool.eq_false_iff.mpr h2.1)
    omega
   have hm:(its.toArray.size:Int) * k≤10000:=by
    have h3:(its.toArray.size:Int)≤10:=by rw [List.size_toArray]; omega
    have h4:(its.toArray.size:Int) * k≤10 * k:=Int.mul_le_mul_of_nonneg_right h3 (by omega)
    omega
   have hlen:((List.replicate k.toNat its).flatten).length≤10000:=by
    rw [len_rep]
    have h3:k.toNat * its.length≤1000 * 10:=Nat.mul_le_mul (by omega) lk
    omega
   have hbig:(10000:Nat)≤sizeLine:=small_le
   refine call_meets F.slot_tuple_mul ⟨_,ho,rfl⟩ F.entry_tuple_mul (F.args_tuple_mul_2 _ _) (HT.tuple_mulW3 l its.toArray n dd sl k t hf h1 h2 (by omega) (by
     unfold Builtin.Tuple.tupleTooMany
     intro h
     have:=of_decide_eq_true h
     omega) (by rw [fold,List.size_toArray]; omega)) ⟨ho,?_⟩
   have hp:=I.hok.fresh (Nat.le_refl s.heap.objs.size)
   rw [fold]
   refine ⟨.ref s.heap.objs.size,_,I.laid (t':=s.toks) (o:=.tup (List.replicate k.toNat vs).flatten) (fun b ob q=>Heap.get?_push_of_some _ q) (Nat.le_refl _) ⟨?_,_,hv.rep k.toNat,IsTup.new _ _,fun o2 e2=>by rw [Heap.get?_push_size _ rfl] at e2; cases e2; rfl⟩,rfl,?_⟩
   ·rw [len_rep,hv.length,← len_rep]; omega
   ·exact new_tup W (r.rep k.toNat) hp R
theorem op_mul2D:OpD X EX (binaryOp .Mult) mul2D:=by
 intro pins s σ H x y v u Q I rx ry h
 obtain ⟨O,a,b,st,W,ra,rb,R⟩:=h
 have other:Run X.K EX O H (mulD a b st) (Val X.K Q)→wpAny (model X.prog X.w) X.A (binaryOp .Mult v u) (EP X pins σ Q) X.xe s:=fun R=>op_mulD pins s σ H x y v u Q I rx ry ⟨O,a,b,st,W,ra,rb,R⟩
 cases a <;> cases b <;> first | exact other R | skip
 case tup.int xs k =>
  dsimp only [mul2D] at R
  by_cases hk : -1000≤k∧k≤1000∧xs.length≤10
  ·rw [if_pos hk] at R
   rw [Rep.tup_i] at ra
   rw [Rep.int_i] at rb
   subst rb
   obtain ⟨l,vs,rfl,q,r⟩:=ra
   cases rx
   obtain ⟨t,rfl⟩:=ry
   exact mul_tup I W q r hk R
  ·rw [if_neg hk] at R; exact R.elim
 case str.int z k =>
  dsimp only [mul2D] at R
  by_cases hk : -1000≤k∧k≤1000∧z.length≤10
  ·rw [if_pos hk] at R
   rw [Rep.str_i] at ra
   rw [Rep.int_i] at rb
   subst ra rb
   obtain ⟨t',rfl⟩:=rx
   obtain ⟨t,rfl⟩:=ry
   exact SB.mul (mulOk_of 10 1000 hk.2.2 hk.2.1 (by omega) (by decide) (by decide)) fun t2 k2=>⟨.str (PySem.Txt.mul z k),H,I.tok k2,⟨t2,rfl⟩,Run.now (k:=Val X.K Q) R W _ (Rep.str_i.mpr rfl)⟩
  ·rw [if_neg hk] at R; exact R.elim
end
end DL
end
section
namespace HT
open PySem PyProof.Rows
section
variable {prog:Program} {w:World} {A:Around} {E:Value→Shared→Prop} {s:Shared}
end
end HT
end
section
namespace DL
open PySem PySem.Spec PyProof.Rows L2
end DL
end
section
namespace HT
open PySem PyProof.Rows
section
variable {prog:Program} {w:World} {A:Around} {E:Value→Shared→Prop} {s:Shared}
end
end HT
namespace DL
open PySem PySem.Spec PyProof.Rows L2
section
variable {X:Cx} {EX:EXT} {a b e o tg:Expr} {fa fb fo:DE} {g:DA} {pos p px apos cpos:Pos} {x:Str}
noncomputable def dAppend (fo fa:DE):DE:=fun ρ st=>(fo ρ st).bind fun d st1=>match d with
 | .res i=>match st1[i]? with
  | some (.lst _)=>(fa ρ st1).bind fun v st2=>match st2[i]? with
   | some (.lst xs)=>if xs.length<small then .ok .non (st2.set i (.lst (xs++[v]))) else .bad
   | _ => .bad
  | _ => .bad
 | _ => .bad
theorem res_lst {K:PySem.W.Frag} {O:List Addr} {H:Hp} {st:Sto} (W:WR K O H st) {i:Nat} {v:V} {xs:List D} (r:Rep K O H (.res i) v) (e:st[i]?=some (.lst xs)):∃ a vs,v = .ref a∧O[i]?=some a∧H a=some (.lst vs)∧Reps K O H xs vs:=by
 rw [Rep.res_i] at r
 obtain ⟨a,rfl,q⟩:=r
 obtain ⟨vs,h1,h2⟩:=W.at_ _ _ _ q e
 exact ⟨a,vs,rfl,q,h1,h2⟩
theorem pd_append (ho : PD X EX o fo) (ha : PD X EX a fa) (hbase : attributeBase o "append" X.env (eval o X.env) = eval o X.env := by rfl)
  (hfew:((backTo cpos (starEach [a] X.env)).all (fun x => !x.1) && (backToKw cpos (keywordEach [] X.env)).all (fun x=>x.1.isSome)
   && decide ([a].length+([]:List Keyword).length+(if ([]:List Keyword).isEmpty then 0 else 1)<30))=true:=by rfl)
  (hline : (apos.endLine == cpos.line) = true := by rfl) (hs : starEach [a] X.env = (false, eval a X.env) :: starEach [] X.env := by rfl) (hplain : (backTo cpos (starEach [] X.env)).any (·.1) = false := by rfl) : PD X EX (.Call (.Attribute o "append" apos) [a] [] cpos) (dAppend fo fa) := by
 refine PE.mono (pe_bm PySem.F.plainAttrs_list PySem.F.slot_list_append PySem.F.type_list_append mt_append ho (pda_cons ha pda_nil hs) hbase hfew hline hs hplain) ?_
 rintro σ H Q ⟨O,ρ,st,W,E,R⟩
 refine ⟨O,ρ,st,W,E,R.bind.mono fun d st1 O1 H1 k1 W1 R1 v r => ?_⟩
 cases d with
 | res i =>
  dsimp only at R1
  cases e1:st1[i]? with
  | none=>rw [e1] at R1; exact R1.elim
  | some s1 =>
   rw [e1] at R1
   cases s1 with
   | ins C fs=>exact R1.elim
   | dct kvs=>exact R1.elim
   | dtt kvs=>exact R1.elim
   | fdc kvs=>exact R1.elim
   | lst xs0 =>
    dsimp only at R1
    obtain ⟨pa,vs0,rfl,q0,h0,_⟩:=res_lst W1 r e1
    refine ⟨.inl ⟨rfl,_,SqL.of h0⟩,O1,ρ,st1,W1,E.mono k1,?_⟩
    cases hfa:fa ρ st1 with
    | bad=>rw [hfa] at R1; exact R1.elim
    | exc c st2 =>
     rw [hfa] at R1
     show Run X.K EX O1 H1 (dCons fa dNil ρ st1) _
     unfold dCons
     rw [hfa]
     exact R1
    | ok w st2 =>
     rw [hfa] at R1
     show Run X.K EX O1 H1 (dCons fa dNil ρ st1) _
     unfold dCons
     rw [hfa]
     intro O2 H2 k2 W2 ws rs
     obtain ⟨u,rfl,ru⟩:=Reps.one_of rs
     have R2:=Run.later R1 k2
     dsimp only [Out.bind] at R2
     cases e2:st2[i]? with
     | none=>rw [e2] at R2; exact R2.elim
     | some s2 =>
      rw [e2] at R2
      cases s2 with
      | ins C fs=>exact R2.elim
      | dct kvs=>exact R2.elim
      | dtt kvs=>exact R2.elim
      | fdc kvs=>exact R2.elim
      | lst xs =>
       dsimp only at R2
       by_cases hl:xs.length<small
       ·rw [if_pos hl] at R2
        obtain ⟨pa',vs,e3,q,h1,h2⟩:=res_lst W2 (Rep.mono k2 _ _ r) e2
        cases e3
        refine ⟨pa,vs,u,rfl,rfl,h1,by rw [← h2.length]; exact Nat.lt_of_lt_of_le hl small_le,?_⟩
        exact R2 O2 _ (Keep.write W2 q) (W2.writeL q (h2.append (Reps.one ru))) _ (Rep.non_i.mpr rfl)
       ·rw [if_neg hl] at R2; exact R2.elim
 | _=>exact R1.elim
noncomputable def dPop (fo:DE):DE:=fun ρ st=>(fo ρ st).bind fun d st1=>match d with
 | .res i=>match st1[i]? with
  | some (.lst xs)=>match xs[xs.length - 1]? with
   | some v => .ok v (st1.set i (.lst xs.dropLast))
   | none => .bad
  | _ => .bad
 | _ => .bad
theorem Reps.dropLast {K:PySem.W.Frag} {O:List Addr} {H:Hp} {ds:List D} {vs:List V} (r:Reps K O H ds vs):Reps K O H ds.dropLast vs.dropLast:=by
 rw [List.dropLast_eq_take,List.dropLast_eq_take,r.length]
 exact r.take _
theorem pd_pop (ho : PD X EX o fo) (hbase : attributeBase o "pop" X.env (eval o X.env) = eval o X.env := by rfl) (hline : (apos.endLine == cpos.line) = true := by rfl) : PD X EX (.Call (.Attribute o "pop" apos) [] [] cpos) (dPop fo) := by
 refine PE.mono (pe_bm0 PySem.F.plainAttrs_list PySem.F.slot_list_pop PySem.F.type_list_pop mt_pop ho hbase hline) ?_
 rintro σ H Q ⟨O,ρ,st,W,E,R⟩
 refine ⟨O,ρ,st,W,E,R.bind.mono fun d st1 O1 H1 k1 W1 R1 v r => ?_⟩
 cases d with
 | res i =>
  dsimp only at R1
  cases e1:st1[i]? with
  | none=>rw [e1] at R1; exact R1.elim
  | some s1 =>
   rw [e1] at R1
   cases s1 with
   | ins C fs=>exact R1.elim
   | dct kvs=>exact R1.elim
   | dtt kvs=>exact R1.elim
   | fdc kvs=>exact R1.elim
   | lst xs =>
    dsimp only at R1
    obtain ⟨pa,vs,rfl,q,h0,rs⟩:=res_lst W1 r e1
    cases e2:xs[xs.length - 1]? with
    | none=>rw [e2] at R1; exact R1.elim
    | some w =>
     rw [e2] at R1
     obtain ⟨u,h1,h2⟩:=rs.get e2
     refine ⟨.inl ⟨rfl,_,SqL.of h0⟩,pa,vs,u,rfl,rfl,h0,by rw [← rs.length]; exact h1,?_⟩
     exact R1 O1 _ (Keep.write W1 q) (W1.writeL q rs.dropLast) _ (Rep.mono (Keep.write W1 q) _ _ h2)
 | _=>exact R1.elim
end
end DL
end
section
namespace DL
open PySem PySem.Spec PyProof.Rows L2
section
variable {X:Cx} {EX:EXT} {a b c e o:Expr} {fa fb fc fo:DE} {pos p pT apos:Pos}
noncomputable def dNeg (f:DE):DE:=fun ρ st=>(f ρ st).bind fun d st1=>match d with
 | .int i => .ok (.int (-i)) st1
 | _ => .bad
theorem pd_neg (ha:PD X EX a fa):PD X EX (.UnaryOp .USub a pos) (dNeg fa):=by
 refine PE.mono (pe_un un_neg ha) ?_
 rintro σ H Q ⟨O,ρ,st,W,E,R⟩
 refine ⟨O,ρ,st,W,E,R.bind.mono fun d st1 O1 H1 k1 W1 R1 v r => ?_⟩
 cases d with
 | int i=>exact ⟨i,Rep.int_i.mp r,Run.now (k:=Val X.K Q) R1 W1 _ (Rep.int_i.mpr rfl)⟩
 | _=>exact R1.elim
end
structure FnAt (P:Program) (w:World) (K:PySem.W.Frag) (mg:Str→Option Value) (base:Heap) (x:Str) (k:Nat) (F:FD):Prop where
 ex:∃ (f:Addr) (fd:FuncData) (ps:List Str),FnOk P w K mg base CX0 k f fd ps (spD K F)∧mg x=some (.ref f)∧PySem.W.keepIn K (.ref f)=true∧Binds K fd ps []
section
variable {X:Cx} {EX:EXT} {e:Expr} {es:List Expr} {pos p:Pos} {x:Str} {k j:Nat} {F:FD} {g:DA}
theorem pd_fn (h:FnAt X.prog X.w X.K X.mg X.base x j F) (hr:Room k X.A) (hj:j≤k) (hg:Gl X x) (ha:PDA X EX (e :: es) g)
  (hdb : (x == ("__debug__" : Str)) = false := by decide) (he : starEach (e :: es) X.env = (false, eval e X.env) :: starEach es X.env := by rfl) (hpl : (backTo pos (starEach es X.env)).any (·.1) = false := by rfl) :
  PD X EX (.Call (.Name x p) (e :: es) [] pos) (dCall F g):=by
 obtain ⟨f,fd,ps,G,hm,hk,hb⟩:=h.ex
 exact pd_call G (hr.mono hj) hg hm hk hb xe0 ha hdb he hpl
end
theorem fnAt {P:Program} {w:World} {K:PySem.W.Frag} {mg:Str→Option Value} {base:Heap} {x qual:Str} {st:Stmt} {f:Addr} {fd:FuncData} {N ps:List Str} {k:Nat} {g:DS} (F:Fun K x qual st f fd) (S:FnScope N ps (defScope st)) (hm:mg x=some (.ref f)) (hb:Binds K fd ps [])
  (hbody:∀ (cdv:Value) (A:Around) (outer:List Env) (s:Shared) (H:Hp) (E:XK),Room k (A.deeper (envOfC qual (defScope st) s.heap.objs.size f cdv)) →
   PDS (cxOf CX0 P w K mg base N qual (defScope st) f cdv A outer s H E).nox EX0 (defBody st) g):FnAt P w K mg base x (k+1) (runF N.length ps.length g) :=
 ⟨f,fd,ps,fnD F S hbody,hm,F.kp,hb⟩
end DL
end
section
namespace HT
open PySem PyProof.Rows PyProof.Rows.LSm
section
variable {prog:Program} {w:World} {A:Around} {E:Value→Shared→Prop} {s:Shared} {l:Addr} {vs:List Value}
end
end HT
namespace DL
open PySem PySem.Spec PyProof.Rows L2
section
variable {X:Cx} {EX:EXT}
noncomputable def leX:D→D→Sto→Out D
 | .int a,.int b,st => .ok (.bl (decide (a≤b))) st
 | .str a,.str b,st => .ok (.bl (!(decide (b.cps.toList<a.cps.toList)))) st
 | _,_,_ => .bad
theorem op_leX:OpD X EX (compareOp .LtE) leX:=by
 intro pins s σ H x y v u Q I rx ry h'
 obtain ⟨O,a,b,st,W,ra,rb,R⟩:=h'
 cases a <;> cases b <;> first | exact R.elim | skip
 ·rename_i i j
  rw [Rep.int_i] at ra rb
  subst ra rb
  exact op_le pins s σ H _ _ v u Q I rx ry ⟨i,j,rfl,rfl,Run.now (k:=Val X.K Q) R W _ (Rep.bl_i.mpr rfl)⟩
 ·rename_i i j
  rw [Rep.str_i] at ra rb
  subst ra rb
  obtain ⟨t,rfl⟩:=rx
  obtain ⟨t',rfl⟩:=ry
  exact PySem.P.le_str ⟨.bl _,H,I,rfl,Run.now (k:=Val X.K Q) R W _ (Rep.bl_i.mpr rfl)⟩
end
end DL
end
section
namespace DL
open PySem PySem.Spec PyProof.Rows L2
section
variable {X:Cx} {EX:EXT} {tg e:Expr} {f:DE}
end
end DL
end
section
namespace DL
open PySem PySem.Spec PyProof.Rows L2
section
variable {X:Cx} {EX:EXT} {a b c e o i:Expr} {fa fb fc fo fi:DE} {pos p p2 apos:Pos} {ta tb:DT}
end
section
variable {X:Cx} {EX:EXT} {e o:Expr} {es:List Expr} {pos p apos:Pos} {x m:Str} {k j:Nat} {F:FD} {g:DA} {C:Addr} {fo:DE}
end
section
variable {P:Program} {w:World} {K:PySem.W.Frag} {mg:Str→Option Value} {base:Heap}
end
section
variable {ρ:Ev} {st:Sto} {f fo fi fv:DE} {da:DA} {C:Addr} {x m:Str} {F:FD}
end
end DL
end
section
namespace DL
open PySem PySem.Spec PyProof.Rows L2
section
variable {X:Cx} {EX:EXT} {es:List Expr} {k:Nat} {pt p pos:Pos} {a:Expr} {f:DE}
end
end DL
end
section
namespace DL
open PySem PySem.Spec PyProof.Rows L2
section
variable {X:Cx} {EX:EXT} {CX:CXT} {k j:Nat} {f C:Addr} {fd:FuncData} {ps:List Str} {sp:Sp} {E:XK} {x m:Str} {p pos apos:Pos} {e:Expr} {es:List Expr} {t:TA} {F:FD} {g:DA}
end
section
variable {X:Cx} {EX:EXT} {k j:Nat} {C:Addr} {x m:Str} {p pos apos:Pos} {e:Expr} {es:List Expr} {F:FD} {g:DA}
end
section
variable {P:Program} {w:World} {K:PySem.W.Frag} {mg:Str→Option Value} {base:Heap}
end
end DL
end
section
namespace DL
open PySem PySem.Spec PyProof.Rows L2
section
variable {X:Cx} {EX:EXT} {a b:Expr} {ta:TA} {p p2 pos pos2:Pos} {g:DA}
end
end DL
end
section
namespace DL
open PySem PySem.Spec PyProof.Rows L2
section
variable {X:Cx} {EX:EXT}
end
end DL
end
section
namespace HT
open PySem PyProof.Rows
section
variable {prog:Program} {w:World} {A:Around} {E:Value→Shared→Prop} {s:Shared} {R:Result→Shared→Prop} {l I S:Addr}
end
end HT
namespace DL
open PySem PySem.Spec PyProof.Rows L2
section
variable {X:Cx} {EX:EXT} {a:Expr} {ta:TE} {fa:DE} {p p1 p2 kp1 kp2 pos:Pos} {j:Nat}
end
end DL
end
section
namespace DL
open PySem PySem.Spec PyProof.Rows L2
section
variable {P:Program} {w:World} {K:PySem.W.Frag} {mg:Str→Option Value} {base:Heap} {N:List Str} {qual:Str} {scope:Scope} {f:Addr} {cd:Value} {A:Around} {outer:List Env} {s:Shared} {H:Hp} {E:XK}
end
section
variable {X:Cx} {EX:EXT} {e:Expr} {es:List Expr} {pos cpos p:Pos} {x:Str} {C:Addr} {g:DA} {B newId initId:String} {bmB:List Value}
end
section
variable {X:Cx} {EX:EXT} {e o:Expr} {es:List Expr} {pos p apos:Pos} {x m:Str} {k j:Nat} {F:FD} {g:DA} {C:Addr} {fo:DE}
end
section
variable {P:Program} {w:World} {K:PySem.W.Frag} {mg:Str→Option Value} {base:Heap}
end
end DL
end
section
namespace DL
open PySem PySem.Spec PyProof.Rows L2
noncomputable abbrev Cx.at (X:Cx) (A:Around) (pn:List (Addr×Obj)) (E:Value→Shared→Prop):Cx:={ X with A:=A,calm:=false,pn:=pn,xe:=E }
noncomputable abbrev Cx.pinned (X:Cx) (pn:List (Addr×Obj)) (E:Value→Shared→Prop):Cx:={ X with pn:=pn,xe:=E }
structure RoomH (k:Nat) (A:Around):Prop where
 dp:A.depth+3 * k+5<recursionLimit
 un:A.units+16 * k+200<cLine
theorem RoomH.mono {j k:Nat} {A:Around} (r:RoomH k A) (h:j≤k):RoomH j A:=⟨by have:=r.dp; omega,by have:=r.un; omega⟩
theorem RoomH.deeper {k:Nat} {A:Around} (r:RoomH (k+1) A) (env:Env):RoomH k (A.deeper env):=⟨by have:=r.dp; show A.depth+1+3 * k+5<_; omega,by have:=r.un; show A.units+3+16 * k+200<_; omega⟩
theorem RoomH.of {k:Nat} {A:Around} (r:Room k A) (e:Option Value):RoomH k (A.mark e):=⟨r.dp,r.un⟩
theorem RoomH.units {k:Nat} {A:Around} (r:RoomH k A):A.units+64<cLine:=by have:=r.un; omega
section
variable {P:Program} {w:World} {K:PySem.W.Frag} {mg:Str→Option Value} {base:Heap}
end
section
variable {X:Cx} {EX:EXT} {e:Expr} {es:List Expr} {pos p:Pos} {x:Str} {k j:Nat} {F:FD} {g:DA}
end
end DL
end
section
namespace DL
open PySem PySem.Spec PyProof.Rows L2
section
variable {X:Cx} {EX:EXT} {body suite:List Stmt} {b₀:Stmt} {pos hpos np:Pos} {x n:Str} {Cb:Addr} {cs:List Addr} {g gh:DS} {i:Nat}
end
end DL
end
section
namespace DL
open PySem PySem.Spec PyProof.Rows L2
section
variable {prog:Program} {w:World} {A:Around} {E:Value→Shared→Prop} {s:Shared} {K:PySem.W.Frag} {a C:Addr}
end
section
variable {X:Cx} {EX:EXT} {e:Expr} {fa:DE} {pos p pT:Pos}
end
end DL
end
section
namespace DL
open PySem PySem.Spec PyProof.Rows L2
section
variable {X:Cx} {EX:EXT} {a b c e o:Expr} {fa fb fc fo:DE} {pos p apos cpos:Pos} {es:List Expr} {g:DA}
end
section
variable {ρ:Ev} {st:Sto} {f fo:DE} {da:DA} {g:DS} {C:Addr}
@[simp] theorem z_bind_exc {α β:Type} (c:Addr) (st:Sto) (k:α→Sto→Out β):(Out.exc c st:Out α).bind k = .exc c st:=rfl
@[simp] theorem z_to_exc {α:Type} (c:Addr) (st:Sto) (k:α→Sto→OutS):(Out.exc c st:Out α).to k = .exc c st:=rfl
end
noncomputable def forBody:Stmt→List Stmt
 | .For _ _ b _ _=>b
 | _=>[]
end DL
end
section
namespace DL
open PySem PySem.Spec PyProof.Rows L2
section
variable {X:Cx} {EX:EXT} {pos p:Pos} {x:Str} {k j:Nat} {F:FD}
end
theorem us1 {P:List Value→Prop} (h:∀ a,P [a]):∀ us:List Value,us.length=1→P us
 | [a],_=>h a
theorem us2 {P:List Value→Prop} (h:∀ a b,P [a,b]):∀ us:List Value,us.length=2→P us
 | [a,b],_=>h a b
theorem us3 {P:List Value→Prop} (h:∀ a b c,P [a,b,c]):∀ us:List Value,us.length=3→P us
 | [a,b,c],_=>h a b c
end DL
end
section
namespace SO
open PySem PySem.W PyProof.Rows
noncomputable def ok {α:Type} (n:Nat) (lt:Nat→Nat→Bool):KasT α→(α→Prop)→Prop
 | .ret a,Q=>Q a
 | .ask i j k,Q=>i<n∧j<n∧ok n lt (k (lt i j)) Q
section
variable {α β:Type} {n:Nat} {lt:Nat→Nat→Bool}
theorem ok_bind {f:α→KasT β} {Q:β→Prop}:∀ {t:KasT α},ok n lt t (fun a=>ok n lt (f a) Q)→ok n lt (t.bind f) Q
 | .ret _,h=>h
 | .ask _ _ k,⟨h1,h2,h3⟩=>⟨h1,h2,ok_bind (t:=k _) h3⟩
theorem ok_mono {Q Q':α→Prop} (f:∀ a,Q a→Q' a):∀ {t:KasT α},ok n lt t Q→ok n lt t Q'
 | .ret _,h=>f _ h
 | .ask _ _ k,⟨h1,h2,h3⟩=>⟨h1,h2,ok_mono f (t:=k _) h3⟩
theorem ok_wp {cmp:Nat→Nat→(Bool→Shared→Prop)→Shared→Prop} {s:Shared} {G:α→Shared→Prop} {Q:α→Prop} (hc:∀ i j C,i<n→j<n→C (lt i j) s→cmp i j C s) (hG:∀ a,Q a→G a s):∀ {t:KasT α},ok n lt t Q→t.kasWp cmp G s
 | .ret _,h=>hG _ h
 | .ask i j k,⟨h1,h2,h3⟩=>hc i j _ h1 h2 (ok_wp hc hG (t:=k _) h3)
end
structure Ord (n:Nat) (lt:Nat→Nat→Bool):Prop where
 tot:∀ i j,i<n→j<n→i≠j→lt i j=false→lt j i=true
 asy:∀ i j,i<n→j<n→lt i j=true→lt j i=false
 trn:∀ i j k,i<n→j<n→k<n→lt i j=true→lt j k=true→lt i k=true
noncomputable def Al (n:Nat) (p:Array Nat):Prop:=p.toList.Perm (List.range n)
noncomputable abbrev G (p:Array Nat) (i:Nat):Nat:=p.getD i 0
section
variable {n:Nat} {lt:Nat→Nat→Bool} {p:Array Nat}
theorem Al.size (h:Al n p):p.size=n:=by have:=h.length_eq; simpa using this
theorem G_eq (i:Nat) (h:i<p.size):G p i=p[i]:=by simp [G,Array.getD,h]
theorem Al.bel (h:Al n p) (i:Nat) (hn:0<n):G p i<n:=by
 by_cases hi:i<p.size
 ·rw [G_eq i hi]
  have:p[i]∈p.toList:=by simp
  have:=h.mem_iff.mp this
  simpa using this
 ·simp [G,Array.getD,hi,hn]
theorem Al.inj (h:Al n p) {i j:Nat} (hi:i<n) (hj:j<n) (ne:i≠j):G p i≠G p j:=by
 have nd:p.toList.Nodup:=h.nodup_iff.mpr List.nodup_range
 have hs:=h.size
 rw [G_eq i (by omega),G_eq j (by omega)]
 intro e
 have:=(List.getElem_inj (i:=i) (j:=j) (h₀:=by simpa using (by omega:i<p.size)) (h₁:=by simpa using (by omega:j<p.size)) nd).mp (by simpa using e)
 exact ne this
theorem G_cong {q:Array Nat} {i j:Nat} (h:p[i]?=q[j]?):G p i=G q j:=by
 simp only [G,Array.getD_eq_getD_getElem?,h]
noncomputable def SP (lt:Nat→Nat→Bool) (p:Array Nat) (k:Nat):Prop:=∀ i j,i<j→j<k→lt (G p i) (G p j)=true
noncomputable def DP (lt:Nat→Nat→Bool) (p:Array Nat) (k:Nat):Prop:=∀ i j,i<j→j<k→lt (G p j) (G p i)=true
theorem SP.one:SP lt p 1:=fun i j h1 h2=>by omega
theorem SP.next (O:Ord n lt) (h:Al n p) {m:Nat} (h1:1≤m) (hm:m<n) (s:SP lt p m) (e:lt (G p (m - 1)) (G p m)=true):SP lt p (m+1):=by
 intro i j hij hj
 by_cases hjm:j<m
 ·exact s i j hij hjm
 ·have:j=m:=by omega
  subst this
  by_cases hi:i=j - 1
  ·subst hi; exact e
  ·exact O.trn _ _ _ (h.bel _ (by omega)) (h.bel _ (by omega)) (h.bel _ (by omega)) (s i (j - 1) (by omega) (by omega)) e
theorem DP.next (O:Ord n lt) (h:Al n p) {m:Nat} (h1:1≤m) (hm:m<n) (s:DP lt p m) (e:lt (G p m) (G p (m - 1))=true):DP lt p (m+1):=by
 intro i j hij hj
 by_cases hjm:j<m
 ·exact s i j hij hjm
 ·have:j=m:=by omega
  subst this
  by_cases hi:i=j - 1
  ·subst hi; exact e
  ·exact O.trn _ _ _ (h.bel _ (by omega)) (h.bel _ (by omega)) (h.bel _ (by omega)) e (s i (j - 1) (by omega) (by omega))
theorem asc_ok (O:Ord n lt) (h:Al n p):∀ (f m:Nat),1≤m→m+f=n→SP lt p m→ok n lt (kas_asc p f m) (fun r=>m≤r∧r≤n∧SP lt p r∧(r<n→lt (G p r) (G p (r - 1))=true))
 | 0,m,h1,hf,s=>⟨Nat.le_refl _,by omega,s,fun z=>by omega⟩
 | f+1,m,h1,hf,s=>by
  unfold kas_asc
  refine ⟨h.bel _ (by omega),h.bel _ (by omega),?_⟩
  cases e:lt (p.getD m 0) (p.getD (m - 1) 0) with
  | true =>
   dsimp only
   rw [if_pos rfl]
   exact ⟨Nat.le_refl _,by omega,s,fun _=>e⟩
  | false =>
   dsimp only
   rw [if_neg (by simp)]
   have e':=O.tot _ _ (h.bel _ (by omega)) (h.bel _ (by omega)) (h.inj (i:=m) (j:=m - 1) (by omega) (by omega) (by omega)) e
   exact ok_mono (fun r z=>⟨Nat.le_of_succ_le z.1,z.2⟩) (asc_ok O h f (m+1) (by omega) (by omega) (s.next O h h1 (by omega) e'))
theorem desc_ok (O:Ord n lt) (h:Al n p):∀ (f m:Nat),1≤m→m+f=n→DP lt p m→ok n lt (kas_desc f p m 0) (fun r=>r.1=p∧r.2.2=0∧m≤r.2.1∧r.2.1≤n∧DP lt p r.2.1)
 | 0,m,h1,hf,s=>⟨rfl,rfl,Nat.le_refl _,(by omega:m≤n),s⟩
 | f+1,m,h1,hf,s=>by
  unfold kas_desc
  refine ⟨h.bel _ (by omega),h.bel _ (by omega),?_⟩
  cases e:lt (p.getD m 0) (p.getD (m - 1) 0) with
  | true =>
   dsimp only
   rw [if_pos rfl,if_neg (Nat.lt_irrefl 0)]
   exact ok_mono (fun r z=>⟨z.1,z.2.1,Nat.le_of_succ_le z.2.2.1,z.2.2.2⟩) (desc_ok O h f (m+1) (by omega) (by omega) (s.next O h h1 (by omega) e))
  | false =>
   dsimp only
   rw [if_neg (by simp)]
   have e':=O.tot _ _ (h.bel _ (by omega)) (h.bel _ (by omega)) (h.inj (i:=m) (j:=m - 1) (by omega) (by omega) (by omega)) e
   refine ⟨h.bel _ (by omega),h.bel _ (by omega),?_⟩
   rw [e']
   dsimp only
   rw [if_pos rfl]
   exact ⟨rfl,rfl,Nat.le_refl _,(by omega:m≤n),s⟩
theorem Al.rev (h:Al n p) (m:Nat):Al n (kas_rev p 0 m):=((mirror_perm p 0 m _).toList).trans h
theorem G_rev {m:Nat} (hm:m≤p.size) (k:Nat):G (kas_rev p 0 m) k=if k<m then G p (m - 1 - k) else G p k:=by
 have e:=getElem?_mirror_all (xs:=p) (i:=0) hm k
 by_cases hk:k<m
 ·rw [if_pos hk]
  rw [if_pos ⟨Nat.zero_le _,hk⟩] at e
  rw [show 0+m - 1 - k=m - 1 - k by omega] at e
  exact G_cong e
 ·rw [if_neg hk]
  rw [if_neg (fun z=>hk z.2)] at e
  exact G_cong e
theorem rev_SP (h:Al n p) {m:Nat} (hm:m≤n) (d:DP lt p m):SP lt (kas_rev p 0 m) m:=by
 intro i j hij hj
 have hs:=h.size
 rw [G_rev (by omega),G_rev (by omega),if_pos (by omega),if_pos hj]
 exact d _ _ (by omega) (by omega)
theorem tail3_ok (O:Ord n lt) (h:Al n p) {m:Nat} (h1:1≤m) (hm:m≤n) (d:DP lt p m):ok n lt (kas_tail3 m n p) (fun r=>Al n r.2∧1≤r.1∧r.1≤n∧SP lt r.2 r.1):=by
 unfold kas_tail3
 refine ok_bind (ok_mono (fun r z => ?_) (asc_ok O (h.rev m) (n - m) m h1 (by omega) (rev_SP h hm d)))
 exact ⟨h.rev m,by omega,z.2.1,z.2.2.1⟩
theorem count_ok (O:Ord n lt) (h:Al n p) (hn:1≤n):ok n lt (kas_count n p) (fun r=>Al n r.2∧1≤r.1∧r.1≤n∧SP lt r.2 r.1):=by
 unfold kas_count
 refine ok_bind (ok_mono (fun r z => ?_) (asc_ok O h (n - 1) 1 (Nat.le_refl _) (by omega) SP.one))
 obtain ⟨z1,z2,z3,z4⟩:=z
 by_cases hr:r=n
 ·subst hr
  simp only [beq_self_eq_true,if_true]
  exact ⟨h,z1,z2,z3⟩
 ·have hb:(r == n)=false:=by simp [hr]
  rw [hb,if_neg (by simp)]
  by_cases h1:r > 1
  ·rw [if_pos h1]
   refine ⟨h.bel _ (by omega),h.bel _ (by omega),?_⟩
   have e:lt (p.getD 0 0) (p.getD (r - 1) 0)=true:=z3 0 (r - 1) (by omega) (by omega)
   rw [e]
   dsimp only
   rw [if_pos rfl]
   exact ⟨h,z1,z2,z3⟩
  ·rw [if_neg h1]
   have:r=1:=by omega
   subst this
   unfold kas_descPart
   have d2:DP lt p 2:=by
    intro i j hij hj
    have hi:i=0:=by omega
    have hj':j=1:=by omega
    subst hi hj'
    exact z4 (by omega)
   refine ok_bind (ok_mono (fun r w => ?_) (desc_ok O h (n - (1+1)) (1+1) (by omega) (by omega) d2))
   obtain ⟨w1,w2,w3,w4,w5⟩:=w
   obtain ⟨r1,r2,r3⟩:=r
   dsimp only at w1 w2 w3 w4 w5 ⊢
   subst w1 w2
   rw [if_neg (Nat.lt_irrefl 0)]
   exact tail3_ok O h (by omega) w4 w5
theorem place_ok (O:Ord n lt) (h:Al n p) {k:Nat} (hk:k<n):∀ (f l r:Nat),r - l≤f→l≤r→r≤k→(∀ i,i<l→lt (G p i) (G p k)=true)→(∀ i,r≤i→i<k→lt (G p k) (G p i)=true)→SP lt p k →
  ok n lt (kas_place p k f l r) (fun m=>m≤k∧(∀ i,i<m→lt (G p i) (G p k)=true)∧∀ i,m≤i→i<k→lt (G p k) (G p i)=true)
 | 0,l,r,hf,hl,hr,a,b,s=>by
  have:l=r:=by omega
  subst this
  exact ⟨hr,a,b⟩
 | f+1,l,r,hf,hl,hr,a,b,s=>by
  unfold kas_place
  by_cases hlr:l ≥ r
  ·rw [if_pos hlr]
   have:l=r:=by omega
   subst this
   exact ⟨hr,a,b⟩
  ·rw [if_neg hlr]
   refine ⟨h.bel _ (by omega),h.bel _ (by omega),?_⟩
   have hm1:l≤(l+r) / 2:=by omega
   have hm2:(l+r) / 2<r:=by omega
   cases e:lt (p.getD k 0) (p.getD ((l+r) / 2) 0) with
   | true =>
    dsimp only
    rw [if_pos rfl]
    refine place_ok O h hk f l ((l+r) / 2) (by omega) hm1 (by omega) a (fun i hi1 hi2 => ?_) s
    by_cases hi:i=(l+r) / 2
    ·subst hi; exact e
    ·exact O.trn _ _ _ (h.bel _ (by omega)) (h.bel _ (by omega)) (h.bel _ (by omega)) e (s _ _ (by omega) hi2)
   | false =>
    dsimp only
    rw [if_neg (by simp)]
    have e':=O.tot _ _ (h.bel _ (by omega)) (h.bel _ (by omega)) (h.inj (i:=k) (j:=(l+r) / 2) hk (by omega) (by omega)) e
    refine place_ok O h hk f ((l+r) / 2+1) r (by omega) (by omega) hr (fun i hi => ?_) b s
    by_cases hi2:i=(l+r) / 2
    ·subst hi2; exact e'
    ·exact O.trn _ _ _ (h.bel _ (by omega)) (h.bel _ (by omega)) (h.bel _ (by omega)) (s i ((l+r) / 2) (by omega) (by omega)) e'
theorem Al.bub (h:Al n p) (k d:Nat):Al n (bubble p k d):=((bubble_perm p k d).toList).trans h
theorem G_bub {k d:Nat} (hk:k<p.size) (hd:d≤k) (i:Nat):G (bubble p k d) i=if i=k - d then G p k else if k - d<i∧i≤k then G p (i - 1) else G p i:=by
 have e:=getElem?_bubble hk d hd i
 by_cases h1:i=k - d
 ·rw [if_pos h1] at e ⊢; exact G_cong e
 ·rw [if_neg h1] at e ⊢
  by_cases h2:k - d<i∧i≤k
  ·rw [if_pos h2] at e ⊢; exact G_cong e
  ·rw [if_neg h2] at e ⊢; exact G_cong e
theorem bin_ok (O:Ord n lt):∀ (f k:Nat) (p:Array Nat),Al n p→k+f=n→SP lt p k→ok n lt (kas_bin f p k) (fun q=>Al n q∧SP lt q n)
 | 0,k,p,h,hf,s=>by
  have:k=n:=by omega
  subst this
  exact ⟨h,s⟩
 | f+1,k,p,h,hf,s=>by
  unfold kas_bin
  refine ok_bind (ok_mono (fun m z => ?_) (place_ok O h (by omega) k 0 k (by omega) (Nat.zero_le _) (Nat.le_refl _) (fun i hi=>by omega) (fun i h1 h2=>by omega) s))
  obtain ⟨z1,z2,z3⟩:=z
  refine bin_ok O f (k+1) _ (h.bub k (k - m)) (by omega) ?_
  have hs:=h.size
  intro i j hij hj
  rw [G_bub (by omega) (by omega),G_bub (by omega) (by omega)]
  have hkm:k - (k - m)=m:=by omega
  rw [hkm]
  by_cases hi:i=m
  ·rw [if_pos hi,if_neg (by omega),if_pos (by omega)]
   exact z3 _ (by omega) (by omega)
  ·rw [if_neg hi]
   by_cases hj':j=m
   ·rw [if_pos hj',if_neg (by omega)]
    exact z2 _ (by omega)
   ·rw [if_neg hj']
    by_cases hi3:m<i∧i≤k
    ·rw [if_pos hi3,if_pos (by omega)]
     exact s _ _ (by omega) (by omega)
    ·rw [if_neg hi3]
     by_cases hj3:m<j∧j≤k
     ·rw [if_pos hj3]
      by_cases hij2:i=j - 1
      ·omega
      ·exact s _ _ (by omega) (by omega)
     ·rw [if_neg hj3]
      exact s _ _ hij (by omega)
theorem sort_ok (O:Ord n lt) (hn:1≤n):ok n lt (kas_sort n) (fun q=>Al n q∧SP lt q n):=by
 unfold kas_sort
 refine ok_bind (ok_mono (fun r z => ?_) (count_ok O (show Al n (List.toArray (List.range n)) from List.Perm.refl _) hn))
 obtain ⟨z1,z2,z3,z4⟩:=z
 by_cases hr:r.1<n
 ·rw [if_pos hr,show max r.1 1=r.1 by omega]
  exact bin_ok O _ _ _ z1 (by omega) z4
 ·rw [if_neg hr]
  have:r.1=n:=by omega
  rw [this] at z4
  exact ⟨z1,z4⟩
end
end SO
end
section
set_option maxHeartbeats 2000000
namespace SO
open PySem PySem.W PyProof.Rows
theorem SP.pw {n:Nat} {lt:Nat→Nat→Bool} {p:Array Nat} (h:Al n p) (s:SP lt p n):p.toList.Pairwise (fun i j=>lt i j=true):=by
 rw [List.pairwise_iff_getElem]
 intro i j hi hj hij
 have hs:=h.size
 simp only [Array.length_toList] at hi hj
 have:=s i j hij (by omega)
 rw [G_eq i hi,G_eq j hj] at this
 simpa using this
section
variable {prog:Program} {w:World} {A:Around} {E:Value→Shared→Prop} {s:Shared}
noncomputable abbrev KB (s:Shared) (a:Addr) (h':Heap):Prop:=∀ b o,b≠a→s.heap.get? b=some o→h'.get? b=some o
structure Cmp (prog:Program) (w:World) (s:Shared) (a:Addr) (vs:List Value) (κ:SortKind) (lt:Nat→Nat→Bool):Prop where
 kind:2≤vs.length→∀ (h':Heap) (A:Around) (E:Value→Shared→Prop) (Q:SortKind→Shared→Prop),KB s a h'→Q κ { s with heap:=h' }→wpAny (model prog w) A (keyKind' vs.toArray) Q E { s with heap:=h' }
 less:2≤vs.length→∀ (h':Heap) (A:Around) (E:Value→Shared→Prop) (Q:Bool→Shared→Prop) (i j:Nat),KB s a h'→i<vs.length→j<vs.length→Q (lt i j) { s with heap:=h' }→wpAny (model prog w) A (keyLt' κ (vs.getD i .none) (vs.getD j .none)) Q E { s with heap:=h' }
theorem fin_keep {g : Heap} {a : Addr} {e1 : Nat} {vs : List Value} {p : List Nat} {f : Bool → Sem PySem.Fin} {P : PySem.Fin → Shared → Prop} (hoa : g.get? a = some (seqObj "list" #[] e1)) (h64 : vs.length < 64) (hp : p.Perm (List.range vs.length))
  (k : ∀ h' c, (∀ b o, b ≠ a → g.get? b = some o → h'.get? b = some o) → h'.get? a = some (seqObj "list" (p.map fun i => vs.getD i .none).toArray c) → wpAny (model prog w) A (f false) P E { s with heap := h' }) :
  wpAny (model prog w) A (seqEpoch a >>= fun e=>Builtin.List.listUpdate (.ref a) (fun _=>(p.map fun i=>vs.getD i Value.none).toArray) >>= fun _=>f (e != e1)) P E { s with heap:=g }:=by
 have z:((p.map fun i=>vs.getD i Value.none).toArray).size≤sizeLine+1:=by
  rw [List.size_toArray,List.length_map,hp.length_eq,List.length_range,sizeLine_eq]
  omega
 have s2:=Heap.SameBut.update g a (Obj.mapSeq fun _=>(p.map fun i=>vs.getD i Value.none).toArray)
 refine wpAny_bind (seqEpoch_at hoa rfl (wpAny_bind (listUpdate_at hoa rfl ?_ (Nat.zero_le _) z)))
 rw [bne_self_eq_false]
 exact k _ _ (fun b o ne e=>s2.extBut b o ne e) (get?_update_seq hoa fun _=>(p.map fun i=>vs.getD i Value.none).toArray)
theorem list_sort_keep {a : Addr} {vs : List Value} {n0 : Nat} {κ : SortKind} {lt : Nat → Nat → Bool} {P : PySem.Fin → Shared → Prop} (ho : s.heap.get? a = some (seqObj "list" vs.toArray n0)) (h64 : vs.length < 64)
  (C:Cmp prog w s a vs κ lt) (O:Ord vs.length lt)
  (k : ∀ p : List Nat, p.Perm (List.range vs.length) → p.Pairwise (fun i j => lt i j = true) → ∀ h' c, KB s a h' → h'.get? a = some (seqObj "list" (p.map fun i => vs.getD i .none).toArray c) → P (.done (.ret .none)) { s with heap := h' }) :
  wpAny (model prog w) A (Builtin.«list.sort» ⟨[.ref a],[]⟩) P E s:=by
 have ha:a<s.heap.objs.size:=Heap.lt_size ho
 have s1:=Heap.SameBut.update s.heap a (Obj.mapSeq fun _=>(#[]:Array Value))
 obtain ⟨e1, ho1⟩ : ∃ e1, (s.heap.update a (Obj.mapSeq fun _ => (#[] : Array Value))).get? a = some (seqObj "list" #[] e1) := ⟨_, get?_update_seq ho fun _ => #[]⟩
 have hk : KB s a (((s.heap.update a (Obj.mapSeq fun _ => (#[] : Array Value))).push (seqObj "tuple" vs.toArray 0)).push (seqObj "list" #[] 0)) := fun b o hb e =>
  Heap.get?_push_of_some _ (Heap.get?_push_of_some _ (s1.extBut b o hb e))
 have hoa : (((s.heap.update a (Obj.mapSeq fun _ => (#[] : Array Value))).push (seqObj "tuple" vs.toArray 0)).push (seqObj "list" #[] 0)).get? a = some (seqObj "list" #[] e1) := Heap.get?_push_of_some _ (Heap.get?_push_of_some _ ho1)
 rw [list_sort_plain]
 refine wpAny_bind (listItems_at ho rfl ?_)
 refine wpAny_bind (listUpdate_at ho rfl ?_ (by rw [List.size_toArray,sizeLine_eq]; omega) (Nat.zero_le _))
 refine wpAny_bind (seqEpoch_at ho1 rfl ?_)
 refine wpAny_bind (wpAny_newTuple ?_ (by show vs.length≤_; rw [sizeLine_eq]; omega))
 refine wpAny_bind (wpAny_newList ?_ (Nat.zero_le _))
 refine wpAny_holding ?_
 show wpAny (model prog w) A _ P E { s with heap := ((s.heap.update a (Obj.mapSeq fun _ => (#[] : Array Value))).push (seqObj "tuple" vs.toArray 0)).push (seqObj "list" #[] 0) }
 generalize hg : ((s.heap.update a (Obj.mapSeq fun _ => (#[] : Array Value))).push (seqObj "tuple" vs.toArray 0)).push (seqObj "list" #[] 0) = g at hk hoa
 dsimp only
 by_cases h2:vs.length<2
 ·have hn2:vs.toArray.size<2:=by rw [List.size_toArray]; omega
  rw [if_pos hn2,if_pos hn2]
  refine wpAny_bind (wpAny_pure (wpAny_bind (wpAny_pure ?_)))
  have hm:(arrOf (SortSt.mk' general' (vs.toArray.zip vs.toArray) #[] 7 none)).map (·.2)=((List.range vs.length).map fun i=>vs.getD i Value.none).toArray:=by
   show (vs.toArray.zip vs.toArray).map (·.2)=_
   match vs,h2 with
   | [],_=>simp
   | [v],_=>simp [List.range_succ]
  have hpw:(List.range vs.length).Pairwise (fun i j=>lt i j=true):=by
   match vs,h2 with
   | [],_=>exact .nil
   | [v],_=>exact List.pairwise_singleton _ _
  have hf:failedOf (SortSt.mk' general' (vs.toArray.zip vs.toArray) #[] 7 none)=none:=rfl
  dsimp only
  rw [hm]
  refine fin_keep (f:=fun b=>if b=true then _ else _) hoa h64 (List.Perm.refl _) fun h' c hb hc => ?_
  simp only [Bool.false_eq_true,if_false]
  exact wpAny_pure (k _ (List.Perm.refl _) hpw h' c (fun b o ne e=>hb b o ne (hk b o ne e)) hc)
 ·have hn2:¬ vs.toArray.size<2:=by rw [List.size_toArray]; omega
  rw [if_neg hn2,if_neg hn2]
  refine wpAny_bind (C.kind (by omega) g A E _ hk ?_)
  refine wpAny_bind (wpAny_mono (kat_run (κ:=κ) (ks:=vs) (vs:=vs) (G:=fun p s'=>Al vs.length p∧SP lt p vs.length∧s' = { s with heap:=g }) (Q:=fun st' s' => ∃ p:Array Nat,arrOf st'=p.map (kas_item (vs.toArray.zip vs.toArray))∧failedOf st'=none∧Al vs.length p∧SP lt p vs.length∧s' = { s with heap:=g })
   rfl (by omega) h64 (fun p st' s' _ h1 h2 h3=>⟨p,h1,h2,h3⟩) ?_) ?_ fun _ _ e=>e)
  ·refine ok_wp (Q:=fun p=>Al vs.length p∧SP lt p vs.length) (fun i j D hi hj hD => ?_) (fun p z=>⟨z.1,z.2,rfl⟩) (sort_ok O (by omega))
   exact C.less (by omega) g A _ _ i j hk hi hj hD
  ·rintro ⟨⟨⟩,st'⟩ s' ⟨p,har,hf,hA,hS,rfl⟩
   dsimp only
   rw [kat_snds rfl har,hf]
   refine fin_keep (f:=fun b=>if b=true then _ else _) hoa h64 hA fun h' c hb hc => ?_
   simp only [Bool.false_eq_true,if_false]
   exact wpAny_pure (k _ hA (hS.pw hA) h' c (fun b o ne e=>hb b o ne (hk b o ne e)) hc)
theorem sorted_keep {l:Addr} {vs:List Value} {κ:SortKind} {lt:Nat→Nat→Bool} {Q:Value→Shared→Prop} (hl:s.heap.IsList l vs.toArray) (h64:vs.length<64)
  (C:∀ a h',s.heap.objs.size≤a→(∀ b o,s.heap.get? b=some o→h'.get? b=some o)→Cmp prog w { s with heap:=h' } a vs κ lt) (O:Ord vs.length lt)
  (k : ∀ p : List Nat, p.Perm (List.range vs.length) → p.Pairwise (fun i j => lt i j = true) → ∀ a h' c, s.heap.objs.size ≤ a → (∀ b o, s.heap.get? b = some o → h'.get? b = some o) → h'.get? a = some (seqObj "list" (p.map fun i => vs.getD i .none).toArray c) → Q (.ref a) { s with heap := h' }) :
  wpAny (model prog w) A (call (.builtin "sorted") [.ref l]) Q E s := by
 refine Calls.call_function_entry kind_sorted plain_sorted entry_sorted (args_sorted1 _) ?_
 unfold Builtin.«sorted»
 refine wpAny_bind (m := checkCount "sorted" 1 1 _) (wpAny_pure ?_)
 refine wpAny_bind (collect_list hl ?_ (by rw [sizeLine_eq]; omega))
 refine wpAny_bind (wpAny_newList ?_ (by rw [sizeLine_eq]; omega))
 have hsz : ((s.heap.push (seqObj "list" #[] 0)).update s.heap.objs.size (Obj.mapSeq (· ++ vs.toArray))).objs.size = s.heap.objs.size + 1 := by
  rw [Heap.size_update,size_push']
 have hoL : (((s.heap.push (seqObj "list" #[] 0)).update s.heap.objs.size (Obj.mapSeq (· ++ vs.toArray))).push (seqObj "list" vs.toArray 0)).get? (s.heap.objs.size + 1) = some (seqObj "list" vs.toArray 0) := by
  rw [← hsz]; exact Heap.get?_push_size _ rfl
 have keep : ∀ b o, s.heap.get? b = some o → (((s.heap.push (seqObj "list" #[] 0)).update s.heap.objs.size (Obj.mapSeq (· ++ vs.toArray))).push (seqObj "list" vs.toArray 0)).get? b = some o := fun b o q => by
  have hlt:b<s.heap.objs.size:=Heap.lt_size q
  rw [Heap.get?_push_ne _ _ _ (by rw [hsz]; exact Nat.ne_of_lt (Nat.lt_succ_of_lt hlt)),Heap.get?_update_ne _ _ _ _ (Nat.ne_of_lt hlt),Heap.get?_push_ne _ _ _ (Nat.ne_of_lt hlt)]
  exact q
 show wpAny _ _ _ _ _ { s with heap := ((s.heap.push (seqObj "list" #[] 0)).update s.heap.objs.size (Obj.mapSeq (· ++ vs.toArray))).push (seqObj "list" vs.toArray 0) }
 rw [hsz]
 generalize ((s.heap.push (seqObj "list" #[] 0)).update s.heap.objs.size (Obj.mapSeq (· ++ vs.toArray))).push (seqObj "list" vs.toArray 0) = g at hoL keep
 refine wpAny_bind (wpAny_holding (wpAny_call_entry slot_list_sort ⟨_,hoL,rfl⟩ entry_list_sort ?body (args_list_sort _)))
 case body =>
  refine list_sort_keep (s:={ s with heap:=g }) hoL h64 (C _ g (Nat.le_succ _) keep) O fun p hp hpw h' c hb hc => ?_
  refine ⟨_,rfl,wpAny_pure ⟨_,rfl,?_⟩⟩
  exact k p hp hpw _ h' c (Nat.le_succ _) (fun b o e=>hb b o (Nat.ne_of_lt (Nat.lt_succ_of_lt (Heap.lt_size e))) (keep b o e)) hc
end
end SO
end
section
set_option maxHeartbeats 2000000
namespace TS
open PySem PyProof.Rows
noncomputable def gallop':Bool→Keyed→Array Keyed→Nat→Nat→Nat→StateT SortSt Sem (Option Nat):=sortPriv% PySem.Builtin.gallop
noncomputable def beyond' (left:Bool) (key:Keyed) (arr:Array Keyed) (base i:Nat):StateT SortSt Sem (Option Bool):=do
  let x ← elem' arr (base+i)
  if left then lt' x key else return (← lt' key x).map (!·)
theorem gallop'_eq0 (left:Bool) (key:Keyed) (arr:Array Keyed) (base n hint:Nat):gallop' left key arr base n hint=(do
 let mut lastofs:=0
 let mut ofs:=1
 let mut lo:=0
 let mut hi:=0
 let some right ← beyond' left key arr base hint | return none
 if right then
  let maxofs:=n - hint
  for _ in [0:n] do
   if ofs ≥ maxofs then break
   let some more ← beyond' left key arr base (hint+ofs) | return none
   if !more then break
   lastofs:=ofs
   ofs:=2 * ofs+1
  lo:=hint+lastofs+1
  hi:=hint+min ofs maxofs
 else
  let maxofs:=hint+1
  for _ in [0:n] do
   if ofs ≥ maxofs then break
   let some found ← beyond' left key arr base (hint - ofs) | return none
   if found then break
   lastofs:=ofs
   ofs:=2 * ofs+1
  lo:=hint+1 - min ofs maxofs
  hi:=hint - lastofs
 for _ in [0:n] do
  if lo ≥ hi then break
  let m:=lo+(hi - lo) / 2
  let some more ← beyond' left key arr base m | return none
  if more then lo:=m+1 else hi:=m
 return some hi):=rfl
section
variable {M:Model} {A:Around} {E:Value→Shared→Prop} {s:Shared} {left:Bool} {key:Keyed} {arr:Array Keyed} {base n hint:Nat} {st:SortSt} {B:Nat→Bool}
theorem gallop_ {Q:Option Nat→SortSt→Prop} (hb:∀ i,i<n→∀ Q:Option Bool→SortSt→Prop,Q (some (B i)) st→wpS M A E s (beyond' left key arr base i) Q st)
  (mono:∀ i j,i≤j→j<n→B j=true→B i=true) (hn:hint<n)
  (h:∀ k,k≤n→(∀ i,i<k→B i=true)→(∀ i,k≤i→i<n→B i=false)→Q (some k) st):wpS M A E s (gallop' left key arr base n hint) Q st:=by
 have anti:∀ i j,i≤j→j<n→B i=false→B j=false:=fun i j h1 h2 e=>by
  cases e2:B j with
  | false=>rfl
  | true=>rw [mono i j h1 h2 e2] at e; cases e
 rw [gallop'_eq0]
 refine wpS_bind (hb hint hn _ ?_)
 cases e:B hint with
 | true =>
  dsimp only
  rw [if_pos rfl]
  refine wpS_bind (wpS_mono (wpS_forRange (fun x c st'=>st=st'∧∃ l o,c=(none,l,o)∧l<o∧x<o∧hint+l<n∧B (hint+l)=true)
   (Q:=fun c st'=>st=st'∧∃ l o,c=(none,l,o)∧l<o∧hint+l<n∧B (hint+l)=true∧(o ≥ n - hint∨B (hint+o)=false)) ?_ ?_ ⟨rfl,0,1,rfl,by omega,by omega,hn,e⟩) ?_)
  ·rintro x c st' _ hx ⟨rfl,l,o,rfl,a1,a2,a3,a4⟩
   dsimp only
   by_cases c1:o ≥ n - hint
   ·rw [if_pos c1]
    exact wpS_pure ⟨rfl,l,o,rfl,a1,a3,a4,.inl c1⟩
   ·rw [if_neg c1]
    refine wpS_bind (hb _ (by omega) _ ?_)
    cases e2:B (hint+o) with
    | true =>
     dsimp only
     rw [if_neg (by simp)]
     exact wpS_pure ⟨rfl,o,_,rfl,by omega,by omega,by omega,e2⟩
    | false =>
     dsimp only
     rw [if_pos (by simp)]
     exact wpS_pure ⟨rfl,l,o,rfl,a1,a3,a4,.inr e2⟩
  ·rintro c st' ⟨rfl,l,o,rfl,a1,a2,a3,a4⟩
   rw [Nat.zero_max] at a2
   exact ⟨rfl,l,o,rfl,a1,a3,a4,.inl (by omega)⟩
  ·rintro c st' ⟨rfl,l,o,rfl,a1,a3,a4,a5⟩
   dsimp only
   have h1:hint+l+1≤hint+min o (n - hint):=by omega
   have h2:hint+min o (n - hint)≤n:=by omega
   have hl:∀ i,i<hint+l+1→B i=true:=fun i hi=>mono i _ (by omega) a3 a4
   have hh:∀ i,hint+min o (n - hint)≤i→i<n→B i=false:=fun i h3 h4=>by
    rcases a5 with a5 | a5
    ·omega
    ·exact anti _ i (by omega) h4 a5
   refine wpS_bind (wpS_mono (wpS_forRange (fun x c st'=>st=st'∧∃ lo hi,c=(none,lo,hi)∧lo≤hi∧hi≤n∧hi - lo+x≤n∧(∀ i,i<lo→B i=true)∧∀ i,hi≤i→i<n→B i=false)
    (Q:=fun c st'=>st=st'∧∃ hi,c=(none,hi,hi)∧hi≤n∧(∀ i,i<hi→B i=true)∧∀ i,hi≤i→i<n→B i=false) ?_ ?_ ⟨rfl,hint+l+1,hint+min o (n - hint),rfl,h1,h2,by omega,hl,hh⟩) ?_)
   ·rintro x c st' _ hx ⟨rfl,lo,hi,rfl,a1,a2,a3,a4,a5⟩
    dsimp only
    by_cases c1:lo ≥ hi
    ·rw [if_pos c1]
     obtain rfl:lo=hi:=by omega
     exact wpS_pure ⟨rfl,lo,rfl,a2,a4,a5⟩
    ·rw [if_neg c1]
     refine wpS_bind (hb _ (by omega) _ ?_)
     cases e:B (lo+(hi - lo) / 2) with
     | true =>
      dsimp only
      rw [if_pos rfl]
      refine wpS_pure ⟨rfl,_,_,rfl,by omega,a2,by omega,fun i hi'=>mono i _ (by omega) (by omega) e,a5⟩
     | false =>
      dsimp only
      rw [if_neg (by simp)]
      refine wpS_pure ⟨rfl,_,_,rfl,by omega,by omega,by omega,a4,fun i h3 h4 => ?_⟩
      cases e2:B i with
      | false=>rfl
      | true=>rw [mono _ i h3 h4 e2] at e; cases e
   ·rintro c st' ⟨rfl,lo,hi,rfl,a1,a2,a3,a4,a5⟩
    rw [Nat.zero_max] at a3
    obtain rfl:lo=hi:=by omega
    exact ⟨rfl,lo,rfl,a2,a4,a5⟩
   ·rintro c st' ⟨rfl,hi,rfl,a2,a4,a5⟩
    exact wpS_pure (h hi a2 a4 a5)
 | false =>
  dsimp only
  rw [if_neg (by simp)]
  refine wpS_bind (wpS_mono (wpS_forRange (fun x c st'=>st=st'∧∃ l o,c=(none,l,o)∧l<o∧x<o∧l≤hint∧B (hint - l)=false)
   (Q:=fun c st'=>st=st'∧∃ l o,c=(none,l,o)∧l<o∧l≤hint∧B (hint - l)=false∧(o ≥ hint+1∨B (hint - o)=true)) ?_ ?_ ⟨rfl,0,1,rfl,by omega,by omega,by omega,e⟩) ?_)
  ·rintro x c st' _ hx ⟨rfl,l,o,rfl,a1,a2,a3,a4⟩
   dsimp only
   by_cases c1:o ≥ hint+1
   ·rw [if_pos c1]
    exact wpS_pure ⟨rfl,l,o,rfl,a1,a3,a4,.inl c1⟩
   ·rw [if_neg c1]
    refine wpS_bind (hb _ (by omega) _ ?_)
    cases e2:B (hint - o) with
    | true =>
     dsimp only
     rw [if_pos rfl]
     exact wpS_pure ⟨rfl,l,o,rfl,a1,a3,a4,.inr e2⟩
    | false =>
     dsimp only
     rw [if_neg (by simp)]
     exact wpS_pure ⟨rfl,o,_,rfl,by omega,by omega,by omega,e2⟩
  ·rintro c st' ⟨rfl,l,o,rfl,a1,a2,a3,a4⟩
   rw [Nat.zero_max] at a2
   exact ⟨rfl,l,o,rfl,a1,a3,a4,.inl (by omega)⟩
  ·rintro c st' ⟨rfl,l,o,rfl,a1,a3,a4,a5⟩
   dsimp only
   have h1:hint+1 - min o (hint+1)≤hint - l:=by omega
   have h2:hint - l≤n:=by omega
   have hl:∀ i,i<hint+1 - min o (hint+1)→B i=true:=fun i hi=>by
    rcases a5 with a5 | a5
    ·omega
    ·exact mono i _ (by omega) (by omega) a5
   have hh:∀ i,hint - l≤i→i<n→B i=false:=fun i h3 h4=>anti _ i (by omega) h4 a4
   refine wpS_bind (wpS_mono (wpS_forRange (fun x c st'=>st=st'∧∃ lo hi,c=(none,lo,hi)∧lo≤hi∧hi≤n∧hi - lo+x≤n∧(∀ i,i<lo→B i=true)∧∀ i,hi≤i→i<n→B i=false)
    (Q:=fun c st'=>st=st'∧∃ hi,c=(none,hi,hi)∧hi≤n∧(∀ i,i<hi→B i=true)∧∀ i,hi≤i→i<n→B i=false) ?_ ?_ ⟨rfl,hint+1 - min o (hint+1),hint - l,rfl,h1,h2,by omega,hl,hh⟩) ?_)
   ·rintro x c st' _ hx ⟨rfl,lo,hi,rfl,a1,a2,a3,a4,a5⟩
    dsimp only
    by_cases c1:lo ≥ hi
    ·rw [if_pos c1]
     obtain rfl:lo=hi:=by omega
     exact wpS_pure ⟨rfl,lo,rfl,a2,a4,a5⟩
    ·rw [if_neg c1]
     refine wpS_bind (hb _ (by omega) _ ?_)
     cases e:B (lo+(hi - lo) / 2) with
     | true =>
      dsimp only
      rw [if_pos rfl]
      refine wpS_pure ⟨rfl,_,_,rfl,by omega,a2,by omega,fun i hi'=>mono i _ (by omega) (by omega) e,a5⟩
     | false =>
      dsimp only
      rw [if_neg (by simp)]
      refine wpS_pure ⟨rfl,_,_,rfl,by omega,by omega,by omega,a4,fun i h3 h4 => ?_⟩
      cases e2:B i with
      | false=>rfl
      | true=>rw [mono _ i h3 h4 e2] at e; cases e
   ·rintro c st' ⟨rfl,lo,hi,rfl,a1,a2,a3,a4,a5⟩
    rw [Nat.zero_max] at a3
    obtain rfl:lo=hi:=by omega
    exact ⟨rfl,lo,rfl,a2,a4,a5⟩
   ·rintro c st' ⟨rfl,hi,rfl,a2,a4,a5⟩
    exact wpS_pure (h hi a2 a4 a5)
end
end TS
end
section
set_option maxHeartbeats 2000000
namespace TS
open PySem PyProof.Rows
noncomputable def mergeLo':Array Keyed→Array Keyed→StateT SortSt Sem (Array Keyed):=sortPriv% PySem.Builtin.mergeLo
noncomputable def setG:Nat→StateT SortSt Sem Unit:=sortPriv% PySem.Builtin.setMinGallop
theorem setG_eq (g:Nat):setG g=modify fun s=>SortSt.mk' (kindOf s) (arrOf s) (pendingOf s) g (failedOf s):=rfl
theorem mergeLo'_eq (a b:Array Keyed):mergeLo' a b=(do
 rule "list.sort.merge-lo"
 let total:=a.size+b.size
 let done (out:Array Keyed) (ia ib:Nat):=out++a.extract ia a.size++b.extract ib b.size
 let lastOfA (out:Array Keyed) (ia ib:Nat):=out++b.extract ib b.size++a.extract ia a.size
 let mut out:Array Keyed:=#[← elem' b 0]
 let mut ia:=0
 let mut ib:=1
 if ib == b.size then return done out ia ib
 if ia+1 == a.size then return lastOfA out ia ib
 let mut minGallop:=gallopOf (← get)
 for _ in [0:total] do
  let mut acount:=0
  let mut bcount:=0
  for _ in [0:total] do
   let some bWins ← lt' (← elem' b ib) (← elem' a ia) | return done out ia ib
   if bWins then
    out:=out.push (← elem' b ib); ib:=ib+1; bcount:=bcount+1; acount:=0
    if ib == b.size then return done out ia ib
    if bcount ≥ minGallop then break
   else
    out:=out.push (← elem' a ia); ia:=ia+1; acount:=acount+1; bcount:=0
    if ia+1 == a.size then return lastOfA out ia ib
    if acount ≥ minGallop then break
  rule "list.sort.gallop"
  minGallop:=minGallop+1
  for _ in [0:total] do
   if minGallop > 1 then minGallop:=minGallop - 1
   setG minGallop
   let some k ← gallop' false (← elem' b ib) a ia (a.size - ia) 0 | return done out ia ib
   acount:=k
   if k > 0 then
    out:=out++a.extract ia (ia+k); ia:=ia+k
    if ia+1 == a.size then return lastOfA out ia ib
    if ia == a.size then return done out ia ib
   out:=out.push (← elem' b ib); ib:=ib+1
   if ib == b.size then return done out ia ib
   let some k ← gallop' true (← elem' a ia) b ib (b.size - ib) 0 | return done out ia ib
   bcount:=k
   if k > 0 then
    out:=out++b.extract ib (ib+k); ib:=ib+k
    if ib == b.size then return done out ia ib
   out:=out.push (← elem' a ia); ia:=ia+1
   if ia+1 == a.size then return lastOfA out ia ib
   if acount<7 && bcount<7 then break
  minGallop:=minGallop+1
  setG minGallop
 unsupported "internal:list.sort.merge-bound") := rfl
structure JL (L:Keyed→Keyed→Prop) (S out A B:List Keyed):Prop where
 pm:(out++(A++B)).Perm S
 sr:out.Pairwise L
 lo:∀ o∈out,∀ z∈A++B,L o z
section
variable {L:Keyed→Keyed→Prop} {S out A B T:List Keyed}
theorem JL.takeA (h:JL L S out (T++A) B) (hp:(T++A).Pairwise L) (hx:∀ t∈T,∀ z∈B,L t z):JL L S (out++T) A B:=by
 have hq:=List.pairwise_append.mp hp
 refine ⟨?_,List.pairwise_append.mpr ⟨h.sr,hq.1,fun o ho t ht=>h.lo o ho t (by simp [ht])⟩,fun o ho z hz => ?_⟩
 ·simpa [List.append_assoc] using h.pm
 ·rcases List.mem_append.mp ho with ho | ho
  ·refine h.lo o ho z ?_
   rcases List.mem_append.mp hz with hz | hz <;> simp [hz]
  ·rcases List.mem_append.mp hz with hz | hz
   ·exact hq.2.2 o ho z hz
   ·exact hx o ho z hz
theorem JL.takeB (h:JL L S out A (T++B)) (hp:(T++B).Pairwise L) (hx:∀ t∈T,∀ z∈A,L t z):JL L S (out++T) A B:=by
 have hq:=List.pairwise_append.mp hp
 refine ⟨?_,List.pairwise_append.mpr ⟨h.sr,hq.1,fun o ho t ht=>h.lo o ho t (by simp [ht])⟩,fun o ho z hz => ?_⟩
 ·refine List.Perm.trans ?_ h.pm
  rw [List.append_assoc]
  refine List.Perm.append_left _ ?_
  rw [← List.append_assoc,← List.append_assoc]
  exact List.Perm.append_right _ List.perm_append_comm
 ·rcases List.mem_append.mp ho with ho | ho
  ·refine h.lo o ho z ?_
   rcases List.mem_append.mp hz with hz | hz <;> simp [hz]
  ·rcases List.mem_append.mp hz with hz | hz
   ·exact hx o ho z hz
   ·exact hq.2.2 o ho z hz
theorem JL.fin (h:JL L S out A B) {X:List Keyed} (hX:X.Perm (A++B)) (hp:X.Pairwise L):(out++X).Perm S∧(out++X).Pairwise L :=
 ⟨(List.Perm.append_left _ hX).trans h.pm,List.pairwise_append.mpr ⟨h.sr,hp,fun o ho z hz=>h.lo o ho z (hX.mem_iff.mp hz)⟩⟩
end
structure AB (less:Keyed→Keyed→Bool) (a b:Array Keyed):Prop where
 tr:∀ x∈a.toList++b.toList,∀ y∈a.toList++b.toList,∀ z∈a.toList++b.toList,less x y=true→less y z=true→less x z=true
 sa:a.toList.Pairwise (fun x y=>less x y=true)
 sb:b.toList.Pairwise (fun x y=>less x y=true)
 ne:∀ x∈a.toList,∀ y∈b.toList,less y x = !(less x y)
 za:0<a.size
 zb:0<b.size
 fi:∀ x∈a.toList,less (b[0]'zb) x=true
 la:∀ y∈b.toList,less y (a[a.size - 1]'(by omega))=true
noncomputable def J (less:Keyed→Keyed→Bool) (a b out:Array Keyed) (ia ib:Nat):Prop:=JL (fun x y=>less x y=true) (a.toList++b.toList) out.toList (a.toList.drop ia) (b.toList.drop ib)
noncomputable def Rz (less:Keyed→Keyed→Bool) (a b r:Array Keyed):Prop:=r.toList.Perm (a.toList++b.toList)∧r.toList.Pairwise (fun x y=>less x y=true)
noncomputable abbrev SG (st:SortSt) (g:Nat):SortSt:=SortSt.mk' (kindOf st) (arrOf st) (pendingOf st) g (failedOf st)
section
variable {less:Keyed→Keyed→Bool} {a b out:Array Keyed} {ia ib:Nat}
theorem drop_cons {x:Array Keyed} {i:Nat} (h:i<x.size):x.toList.drop i=[x[i]]++x.toList.drop (i+1):=by
 rw [List.drop_eq_getElem_cons (by simpa using h)]
 simp
theorem drop_ext {x:Array Keyed} {i k:Nat} (h:i+k≤x.size):x.toList.drop i=(x.extract i (i+k)).toList++x.toList.drop (i+k):=by
 rw [Array.toList_extract,List.extract_eq_drop_take,show i+k - i=k by omega,← List.drop_drop,List.take_append_drop]
theorem ext_drop {x:Array Keyed} {i:Nat}:(x.extract i x.size).toList=x.toList.drop i:=by
 rw [Array.toList_extract,List.extract_eq_drop_take]
 exact List.take_of_length_le (by simp)
theorem mem_at {x:Array Keyed} {i:Nat} (h:i<x.size):x[i]∈x.toList:=by simp
theorem drop_at {x:Array Keyed} {i:Nat} {z:Keyed} (h:z∈x.toList.drop i):∃ j,i≤j∧∃ hj:j<x.size,z=x[j]:=by
 obtain ⟨j,hj,rfl⟩:=List.mem_iff_getElem.mp h
 rw [List.length_drop] at hj
 refine ⟨i+j,by omega,by simp at hj; omega,?_⟩
 rw [List.getElem_drop]
 simp
theorem ext_at {x:Array Keyed} {i k:Nat} {z:Keyed} (hk:i+k≤x.size) (h:z∈(x.extract i (i+k)).toList):∃ j,j<k∧∃ hj:i+j<x.size,z=x[i+j]:=by
 obtain ⟨j,hj,rfl⟩:=List.mem_iff_getElem.mp h
 have hj':j<k:=by simp at hj; omega
 exact ⟨j,hj',by omega,by simp⟩
theorem srt_at {x:Array Keyed} (h:x.toList.Pairwise (fun x y=>less x y=true)) {i j:Nat} (hij:i<j) (hj:j<x.size):less (x[i]'(by omega)) x[j]=true:=by
 have:=List.pairwise_iff_getElem.mp h i j (by simp; omega) (by simpa using hj) hij
 simpa using this
theorem J.takeA (C:AB less a b) (h:J less a b out ia ib) {k:Nat} (hk:ia+k≤a.size) (hx:∀ j,j<k→∀ hj:ia+j<a.size,∀ z∈b.toList.drop ib,less a[ia+j] z=true):J less a b (out++a.extract ia (ia+k)) (ia+k) ib:=by
 unfold J at h ⊢
 rw [drop_ext hk] at h
 rw [Array.toList_append]
 refine h.takeA ?_ fun t ht z hz => ?_
 ·rw [← drop_ext hk]
  exact C.sa.sublist (List.drop_sublist _ _)
 ·obtain ⟨j,hj,hj2,rfl⟩:=ext_at hk ht
  exact hx j hj hj2 z hz
theorem J.takeB (C:AB less a b) (h:J less a b out ia ib) {k:Nat} (hk:ib+k≤b.size) (hx:∀ j,j<k→∀ hj:ib+j<b.size,∀ z∈a.toList.drop ia,less b[ib+j] z=true):J less a b (out++b.extract ib (ib+k)) ia (ib+k):=by
 unfold J at h ⊢
 rw [drop_ext hk] at h
 rw [Array.toList_append]
 refine h.takeB ?_ fun t ht z hz => ?_
 ·rw [← drop_ext hk]
  exact C.sb.sublist (List.drop_sublist _ _)
 ·obtain ⟨j,hj,hj2,rfl⟩:=ext_at hk ht
  exact hx j hj hj2 z hz
theorem J.pushA (C:AB less a b) (h:J less a b out ia ib) (hi:ia<a.size) (hx:∀ z∈b.toList.drop ib,less a[ia] z=true):J less a b (out.push a[ia]) (ia+1) ib:=by
 unfold J at h ⊢
 rw [drop_cons hi] at h
 rw [Array.toList_push]
 refine h.takeA ?_ fun t ht z hz => ?_
 ·rw [← drop_cons hi]
  exact C.sa.sublist (List.drop_sublist _ _)
 ·rw [List.mem_singleton.mp ht]
  exact hx z hz
theorem J.pushB (C:AB less a b) (h:J less a b out ia ib) (hi:ib<b.size) (hx:∀ z∈a.toList.drop ia,less b[ib] z=true):J less a b (out.push b[ib]) ia (ib+1):=by
 unfold J at h ⊢
 rw [drop_cons hi] at h
 rw [Array.toList_push]
 refine h.takeB ?_ fun t ht z hz => ?_
 ·rw [← drop_cons hi]
  exact C.sb.sublist (List.drop_sublist _ _)
 ·rw [List.mem_singleton.mp ht]
  exact hx z hz
theorem J.doneB (C:AB less a b) (h:J less a b out ia ib) (hb:ib=b.size):Rz less a b (out++a.extract ia a.size++b.extract ib b.size):=by
 subst hb
 unfold Rz
 rw [Array.toList_append,Array.toList_append,ext_drop,ext_drop,List.append_assoc]
 refine JL.fin h (List.Perm.refl _) ?_
 rw [List.drop_eq_nil_of_le (as:=b.toList) (by simp),List.append_nil]
 exact C.sa.sublist (List.drop_sublist _ _)
theorem J.doneA (C:AB less a b) (h:J less a b out ia ib) (hb:ia=a.size):Rz less a b (out++a.extract ia a.size++b.extract ib b.size):=by
 subst hb
 unfold Rz
 rw [Array.toList_append,Array.toList_append,ext_drop,ext_drop,List.append_assoc]
 refine JL.fin h (List.Perm.refl _) ?_
 rw [List.drop_eq_nil_of_le (by simp),List.nil_append]
 exact C.sb.sublist (List.drop_sublist _ _)
theorem J.last (C:AB less a b) (h:J less a b out ia ib) (hb:ia+1=a.size):Rz less a b (out++b.extract ib b.size++a.extract ia a.size):=by
 unfold Rz
 rw [Array.toList_append,Array.toList_append,ext_drop,ext_drop,List.append_assoc]
 refine JL.fin h List.perm_append_comm (List.pairwise_append.mpr ⟨C.sb.sublist (List.drop_sublist _ _),C.sa.sublist (List.drop_sublist _ _),fun y hy x hx => ?_⟩)
 obtain ⟨j,h1,h2,rfl⟩:=drop_at hx
 obtain rfl:j=a.size - 1:=by omega
 exact C.la y (List.mem_of_mem_drop hy)
theorem AB.all_a (C:AB less a b) {y:Keyed} (hy:y∈a.toList++b.toList) (hi:ia<a.size) (h:less y a[ia]=true):∀ z∈a.toList.drop ia,less y z=true:=by
 intro z hz
 obtain ⟨j,h1,h2,rfl⟩:=drop_at hz
 by_cases e:j=ia
 ·subst e; exact h
 ·exact C.tr y hy a[ia] (by simp) a[j] (by simp) h (srt_at C.sa (by omega) h2)
theorem AB.all_b (C:AB less a b) {y:Keyed} (hy:y∈a.toList++b.toList) (hi:ib<b.size) (h:less y b[ib]=true):∀ z∈b.toList.drop ib,less y z=true:=by
 intro z hz
 obtain ⟨j,h1,h2,rfl⟩:=drop_at hz
 by_cases e:j=ib
 ·subst e; exact h
 ·exact C.tr y hy b[ib] (by simp) b[j] (by simp) h (srt_at C.sb (by omega) h2)
end
section
variable {M:Model} {A:Around} {E:Value→Shared→Prop} {s:Shared} {less:Keyed→Keyed→Bool} {a b:Array Keyed} {st:SortSt}
theorem wpS_elem {arr:Array Keyed} {i:Nat} {Q:Keyed→SortSt→Prop} (h:i<arr.size) (hq:Q arr[i] st):wpS M A E s (elem' arr i) Q st:=by
 rw [elem'_eq,Array.getElem?_eq_getElem h]
 exact wpS_pure hq
noncomputable def HL (M:Model) (A:Around) (E:Value→Shared→Prop) (s:Shared) (κ:SortKind) (less:Keyed→Keyed→Bool) (xs:List Keyed):Prop:=∀ x∈xs,∀ y∈xs,∀ (st:SortSt) (Q:Option Bool→SortSt→Prop),kindOf st=κ→Q (some (less x y)) st→wpS M A E s (lt' x y) Q st
theorem bey_t {xs:List Keyed} {key:Keyed} {arr:Array Keyed} {base i:Nat} (H:HL M A E s (kindOf st) less xs) (hk:key∈xs) (hi:base+i<arr.size) (hx:arr[base+i]∈xs) (Q:Option Bool→SortSt→Prop) (h:Q (some (less arr[base+i] key)) st):wpS M A E s (beyond' true key arr base i) Q st:=by
 unfold beyond'
 refine wpS_bind (wpS_elem hi ?_)
 rw [if_pos rfl]
 exact H _ hx _ hk st _ rfl h
theorem bey_f {xs:List Keyed} {key:Keyed} {arr:Array Keyed} {base i:Nat} (H:HL M A E s (kindOf st) less xs) (hk:key∈xs) (hi:base+i<arr.size) (hx:arr[base+i]∈xs) (Q:Option Bool→SortSt→Prop) (h:Q (some (!less key arr[base+i])) st):wpS M A E s (beyond' false key arr base i) Q st:=by
 unfold beyond'
 refine wpS_bind (wpS_elem hi ?_)
 rw [if_neg (by simp)]
 refine wpS_bind (H _ hk _ hx st _ rfl ?_)
 exact wpS_pure h
theorem gal_a {Q:Option Nat→SortSt→Prop} (C:AB less a b) (H:HL M A E s (kindOf st) less (a.toList++b.toList)) {ia hint m:Nat} (hm:ia+m≤a.size) (hh:hint<m) {y:Keyed} (hy:y∈b.toList)
  (h:∀ k,k≤m→(∀ i,i<k→∀ hi:ia+i<a.size,less a[ia+i] y=true)→(∀ i,k≤i→i<m→∀ hi:ia+i<a.size,less y a[ia+i]=true)→Q (some k) st):wpS M A E s (gallop' false y a ia m hint) Q st:=by
 refine gallop_ (B:=fun i=>if hi:ia+i<a.size then less a[ia+i] y else false) (fun i hi Q hq => ?_) (fun i j hij hj hb => ?_) hh fun k h1 h2 h3=>h k h1 (fun i hi hi2 => ?_) fun i h4 h5 hi2 => ?_
 ·have hi':ia+i<a.size:=by omega
  rw [dif_pos hi'] at hq
  refine bey_f H (by simp [hy]) hi' (by simp) Q ?_
  rw [C.ne _ (by simp) y hy,Bool.not_not]
  exact hq
 ·have hj':ia+j<a.size:=by omega
  have hi':ia+i<a.size:=by omega
  rw [dif_pos hj'] at hb
  rw [dif_pos hi']
  by_cases e:i=j
  ·subst e; exact hb
  ·exact C.tr _ (by simp) _ (by simp) y (by simp [hy]) (srt_at C.sa (by omega) hj') hb
 ·have:=h2 i hi
  rw [dif_pos hi2] at this
  exact this
 ·have:=h3 i h4 h5
  rw [dif_pos hi2] at this
  rw [C.ne _ (by simp) y hy,this]
  rfl
theorem gal_b {Q:Option Nat→SortSt→Prop} (C:AB less a b) (H:HL M A E s (kindOf st) less (a.toList++b.toList)) {ib hint m:Nat} (hm:ib+m≤b.size) (hh:hint<m) {x:Keyed} (hx:x∈a.toList)
  (h:∀ k,k≤m→(∀ i,i<k→∀ hi:ib+i<b.size,less b[ib+i] x=true)→(∀ i,k≤i→i<m→∀ hi:ib+i<b.size,less x b[ib+i]=true)→Q (some k) st):wpS M A E s (gallop' true x b ib m hint) Q st:=by
 refine gallop_ (B:=fun i=>if hi:ib+i<b.size then less b[ib+i] x else false) (fun i hi Q hq => ?_) (fun i j hij hj hb => ?_) hh fun k h1 h2 h3=>h k h1 (fun i hi hi2 => ?_) fun i h4 h5 hi2 => ?_
 ·have hi':ib+i<b.size:=by omega
  rw [dif_pos hi'] at hq
  exact bey_t H (by simp [hx]) hi' (by simp) Q hq
 ·have hj':ib+j<b.size:=by omega
  have hi':ib+i<b.size:=by omega
  rw [dif_pos hj'] at hb
  rw [dif_pos hi']
  by_cases e:i=j
  ·subst e; exact hb
  ·exact C.tr _ (by simp) _ (by simp) x (by simp [hx]) (srt_at C.sb (by omega) hj') hb
 ·have:=h2 i hi
  rw [dif_pos hi2] at this
  exact this
 ·have:=h3 i h4 h5
  rw [dif_pos hi2] at this
  rw [C.ne x hx _ (by simp)] at this
  simpa using this
end
section
variable {M:Model} {A:Around} {E:Value→Shared→Prop} {s:Shared} {less:Keyed→Keyed→Bool} {a b:Array Keyed} {st:SortSt}
theorem wpS_ite {α:Type} {c:Prop} [Decidable c] {x y:StateT SortSt Sem α} {Q:α→SortSt→Prop} (h1:c→wpS M A E s x Q st) (h2:¬ c→wpS M A E s y Q st):wpS M A E s (if c then x else y) Q st:=by
 by_cases h:c
 ·rw [if_pos h]; exact h1 h
 ·rw [if_neg h]; exact h2 h
noncomputable def In2 (less:Keyed→Keyed→Bool) (a b:Array Keyed) (st:SortSt) (base:Nat) (c:Option (Array Keyed)×Array Keyed×Nat×Nat×Nat×Nat×Nat) (st':SortSt):Prop:=∃ g out ia ib mg ac bc,st'=SG st g∧c=(none,out,ia,ib,mg,ac,bc)∧J less a b out ia ib∧ia+1<a.size∧ib<b.size∧base≤ia+ib
noncomputable def Po2 (less:Keyed→Keyed→Bool) (a b:Array Keyed) (st:SortSt) (base:Nat) (c:Option (Array Keyed)×Array Keyed×Nat×Nat×Nat×Nat×Nat) (st':SortSt):Prop:=(∃ g r q,st'=SG st g∧c=(some r,q)∧Rz less a b r)∨In2 less a b st base c st'
noncomputable def In1 (less:Keyed→Keyed→Bool) (a b:Array Keyed) (st':SortSt) (base:Nat) (c:Option (Array Keyed)×Array Keyed×Nat×Nat×Nat×Nat) (st'':SortSt):Prop:=∃ out ia ib ac bc,st''=st'∧c=(none,out,ia,ib,ac,bc)∧J less a b out ia ib∧ia+1<a.size∧ib<b.size∧base≤ia+ib
noncomputable def Po1 (less:Keyed→Keyed→Bool) (a b:Array Keyed) (st':SortSt) (base:Nat) (c:Option (Array Keyed)×Array Keyed×Nat×Nat×Nat×Nat) (st'':SortSt):Prop:=(∃ r q,st''=st'∧c=(some r,q)∧Rz less a b r)∨In1 less a b st' base c st''
theorem mergeLo_ {Q:Array Keyed→SortSt→Prop} (C:AB less a b) (H:HL M A E s (kindOf st) less (a.toList++b.toList)) (hr:∀ {Q':Unit→Shared→Prop} (x:String),Q' () s→wpAny M A (rule x) Q' E s) (h:∀ r g,Rz less a b r→Q r (SG st g)):wpS M A E s (mergeLo' a b) Q st:=by
 rw [mergeLo'_eq]
 refine wpS_bind (wpS_lift (hr _ ⟨rfl,?_⟩))
 have za:=C.za
 have zb:=C.zb
 refine wpS_bind (wpS_elem zb ?_)
 have j0:J less a b #[b[0]] 0 1:=by
  have:J less a b #[] 0 0:=⟨by simp,by simp,by simp⟩
  exact J.pushB C this zb fun z hz=>C.fi z (List.mem_of_mem_drop hz)
 refine wpS_ite (fun c=>wpS_pure (h _ (gallopOf st) (j0.doneB C (by simpa using c)))) fun c => ?_
 refine wpS_ite (fun c'=>wpS_pure (h _ (gallopOf st) (j0.last C (by simpa using c')))) fun c' => ?_
 refine wpS_bind (wpS_get ?_)
 have g1:0+1<a.size:=by simp at c'; omega
 have g2:1<b.size:=by simp at c; omega
 refine wpS_bind (wpS_mono (wpS_forRange (fun x c st' => ∃ g out ia ib mg,st'=SG st g∧c=(none,out,ia,ib,mg)∧J less a b out ia ib∧ia+1<a.size∧ib<b.size∧x+1≤ia+ib)
  (Q:=fun c st' => ∃ g r q,st'=SG st g∧c=(some r,q)∧Rz less a b r) ?_ ?_ ⟨gallopOf st,_,0,1,_,rfl,rfl,j0,g1,g2,by omega⟩) ?_)
 ·rintro x c st' _ hx ⟨g,out,ia,ib,mg,rfl,rfl,j,h1,h2,h3⟩
  dsimp only
  refine wpS_bind (wpS_mono (wpS_forRange (fun y c st'=>In1 less a b (SG st g) (ia+ib+y) c st') (Q:=fun c st'=>Po1 less a b (SG st g) (ia+ib+1) c st') ?_ ?_ ⟨_,_,_,_,_,rfl,rfl,j,h1,h2,by omega⟩) ?_)
  ·rintro y c st' _ hy ⟨out,ia',ib',ac,bc,rfl,rfl,j,h1,h2,h3⟩
   dsimp only
   refine wpS_bind (wpS_elem h2 ?_)
   refine wpS_bind (wpS_elem (by omega) ?_)
   refine wpS_bind (H _ (by simp) _ (by simp) _ _ rfl ?_)
   dsimp only
   refine wpS_ite (fun e => ?_) fun e => ?_
   ·refine wpS_bind (wpS_elem h2 ?_)
    have jb:=J.pushB C j h2 (C.all_a (by simp) (by omega) e)
    refine wpS_ite (fun c4=>wpS_pure (.inl ⟨_,_,rfl,rfl,jb.doneB C (by simpa using c4)⟩)) fun c4 => ?_
    have h2':ib' + 1<b.size:=by simp at c4; omega
    refine wpS_ite (fun c5=>wpS_pure (.inr ⟨_,_,_,_,_,rfl,rfl,jb,h1,h2',by omega⟩)) fun c5=>wpS_pure ⟨_,_,_,_,_,rfl,rfl,jb,h1,h2',by omega⟩
   ·refine wpS_bind (wpS_elem (by omega) ?_)
    have e':less (a[ia']'(by omega)) b[ib']=true:=by
     have:=C.ne (a[ia']'(by omega)) (by simp) b[ib'] (by simp)
     rw [this] at e
     simpa using e
    have ja:=J.pushA C j (by omega) (C.all_b (by simp) h2 e')
    refine wpS_ite (fun c4=>wpS_pure (.inl ⟨_,_,rfl,rfl,ja.last C (by simpa using c4)⟩)) fun c4 => ?_
    have h1':ia' + 1+1<a.size:=by simp at c4; omega
    refine wpS_ite (fun c5=>wpS_pure (.inr ⟨_,_,_,_,_,rfl,rfl,ja,h1',h2,by omega⟩)) fun c5=>wpS_pure ⟨_,_,_,_,_,rfl,rfl,ja,h1',h2,by omega⟩
  ·rintro c st' ⟨out,ia',ib',ac,bc,e1,e2,j,h1,h2,h3⟩
   rw [Nat.zero_max] at h3
   exact .inr ⟨out,ia',ib',ac,bc,e1,e2,j,h1,h2,by omega⟩
  rintro c st' (⟨r,q,rfl,rfl,hz⟩ | ⟨out,ia',ib',ac,bc,rfl,rfl,j,h1,h2,h4⟩)
  ·exact wpS_pure ⟨_,r,_,rfl,rfl,hz⟩
  dsimp only
  refine wpS_bind (wpS_lift (hr _ ⟨rfl,?_⟩))
  refine wpS_bind (wpS_mono (wpS_forRange (fun y c st'=>In2 less a b st (x+2) c st') (Q:=fun c st'=>Po2 less a b st (x+2) c st') ?_ ?_ ⟨g,_,_,_,_,_,_,rfl,rfl,j,h1,h2,by omega⟩) ?_)
  ·clear h4 h3 j h1 h2
   rintro y c st' _ hy ⟨g,out,ia,ib,mg,ac,bc,rfl,rfl,j,h1,h2,h3⟩
   dsimp only
   refine wpS_ite (fun c0 => ?_) fun c0 => ?_
   ·rw [setG_eq]
    refine wpS_bind (wpS_modify ?_)
    show wpS _ _ _ _ _ _ (SG st (mg - 1))
    refine wpS_bind (wpS_elem h2 ?_)
    refine wpS_bind (gal_a (st:=SG st (mg - 1)) C H (ia:=ia) (hint:=0) (m:=a.size - ia) (by omega) (by omega) (mem_at h2) fun k k1 k2 k3 => ?_)
    dsimp only
    refine wpS_ite (fun c1 => ?_) fun c1 => ?_
    ·have ja:=j.takeA C (k:=k) (by omega) (fun i hi hi2 z hz=>C.all_b (by simp) h2 (k2 i hi hi2) z hz)
     refine wpS_ite (fun c2=>wpS_pure (.inl ⟨_,_,_,rfl,rfl,ja.last C (by simpa using c2)⟩)) fun c2 => ?_
     refine wpS_ite (fun c3=>wpS_pure (.inl ⟨_,_,_,rfl,rfl,ja.doneA C (by simpa using c3)⟩)) fun c3 => ?_
     have h1':ia+k+1<a.size:=by simp at c2 c3; omega
     have hz:∀ z∈a.toList.drop (ia+k),less b[ib] z=true:=C.all_a (by simp) (by omega) (k3 k (Nat.le_refl _) (by omega) (by omega))
     refine wpS_bind (wpS_elem h2 ?_)
     have jb:=J.pushB C ja h2 hz
     refine wpS_ite (fun c4=>wpS_pure (.inl ⟨_,_,_,rfl,rfl,jb.doneB C (by simpa using c4)⟩)) fun c4 => ?_
     have h2':ib+1<b.size:=by simp at c4; omega
     refine wpS_bind (wpS_elem (by omega) ?_)
     refine wpS_bind (gal_b (st:=SG st (mg - 1)) C H (ib:=ib+1) (hint:=0) (m:=b.size - (ib+1)) (by omega) (by omega) (mem_at (show ia+k<a.size by omega)) fun q q1 q2 q3 => ?_)
     dsimp only
     refine wpS_ite (fun c5 => ?_) fun c5 => ?_
     ·have jc:=jb.takeB C (k:=q) (by omega) (fun i hi hi2 z hz=>C.all_a (by simp) (show ia+k<a.size by omega) (q2 i hi hi2) z hz)
      refine wpS_ite (fun c6=>wpS_pure (.inl ⟨_,_,_,rfl,rfl,jc.doneB C (by simpa using c6)⟩)) fun c6 => ?_
      have h2z:ib+1+q<b.size:=by simp at c6; omega
      have hy:∀ z∈b.toList.drop (ib+1+q),less (a[ia+k]'(by omega)) z=true:=C.all_b (by simp) h2z (q3 q (Nat.le_refl _) (by omega) h2z)
      refine wpS_bind (wpS_elem (by omega) ?_)
      have jd:=J.pushA C jc (show ia+k<a.size by omega) hy
      refine wpS_ite (fun c7=>wpS_pure (.inl ⟨_,_,_,rfl,rfl,jd.last C (by simpa using c7)⟩)) fun c7 => ?_
      have h1z:ia+k+1+1<a.size:=by simp at c7; omega
      refine wpS_ite (fun c8=>wpS_pure (.inr ⟨_,_,_,_,_,_,_,rfl,rfl,jd,h1z,by omega,by omega⟩)) fun c8 => ?_
      exact wpS_pure ⟨_,_,_,_,_,_,_,rfl,rfl,jd,h1z,by omega,by omega⟩
     ·obtain rfl:q=0:=by omega
      have hy:∀ z∈b.toList.drop (ib+1),less (a[ia+k]'(by omega)) z=true:=C.all_b (by simp) h2' (q3 0 (Nat.le_refl _) (by omega) h2')
      refine wpS_bind (wpS_elem (by omega) ?_)
      have jd:=J.pushA C jb (show ia+k<a.size by omega) hy
      refine wpS_ite (fun c7=>wpS_pure (.inl ⟨_,_,_,rfl,rfl,jd.last C (by simpa using c7)⟩)) fun c7 => ?_
      have h1z:ia+k+1+1<a.size:=by simp at c7; omega
      refine wpS_ite (fun c8=>wpS_pure (.inr ⟨_,_,_,_,_,_,_,rfl,rfl,jd,h1z,by omega,by omega⟩)) fun c8 => ?_
      exact wpS_pure ⟨_,_,_,_,_,_,_,rfl,rfl,jd,h1z,by omega,by omega⟩
    ·obtain rfl:k=0:=by omega
     have hz:∀ z∈a.toList.drop ia,less b[ib] z=true:=C.all_a (by simp) (by omega) (k3 0 (Nat.le_refl _) (by omega) (by omega))
     refine wpS_bind (wpS_elem h2 ?_)
     have jb:=J.pushB C j h2 hz
     refine wpS_ite (fun c4=>wpS_pure (.inl ⟨_,_,_,rfl,rfl,jb.doneB C (by simpa using c4)⟩)) fun c4 => ?_
     have h2':ib+1<b.size:=by simp at c4; omega
     refine wpS_bind (wpS_elem (by omega) ?_)
     refine wpS_bind (gal_b (st:=SG st (mg - 1)) C H (ib:=ib+1) (hint:=0) (m:=b.size - (ib+1)) (by omega) (by omega) (mem_at (show ia<a.size by omega)) fun q q1 q2 q3 => ?_)
     dsimp only
     refine wpS_ite (fun c5 => ?_) fun c5 => ?_
     ·have jc:=jb.takeB C (k:=q) (by omega) (fun i hi hi2 z hz=>C.all_a (by simp) (show ia<a.size by omega) (q2 i hi hi2) z hz)
      refine wpS_ite (fun c6=>wpS_pure (.inl ⟨_,_,_,rfl,rfl,jc.doneB C (by simpa using c6)⟩)) fun c6 => ?_
      have h2z:ib+1+q<b.size:=by simp at c6; omega
      have hy:∀ z∈b.toList.drop (ib+1+q),less (a[ia]'(by omega)) z=true:=C.all_b (by simp) h2z (q3 q (Nat.le_refl _) (by omega) h2z)
      refine wpS_bind (wpS_elem (by omega) ?_)
      have jd:=J.pushA C jc (show ia<a.size by omega) hy
      refine wpS_ite (fun c7=>wpS_pure (.inl ⟨_,_,_,rfl,rfl,jd.last C (by simpa using c7)⟩)) fun c7 => ?_
      have h1z:ia+1+1<a.size:=by simp at c7; omega
      refine wpS_ite (fun c8=>wpS_pure (.inr ⟨_,_,_,_,_,_,_,rfl,rfl,jd,h1z,by omega,by omega⟩)) fun c8 => ?_
      exact wpS_pure ⟨_,_,_,_,_,_,_,rfl,rfl,jd,h1z,by omega,by omega⟩
     ·obtain rfl:q=0:=by omega
      have hy:∀ z∈b.toList.drop (ib+1),less (a[ia]'(by omega)) z=true:=C.all_b (by simp) h2' (q3 0 (Nat.le_refl _) (by omega) h2')
      refine wpS_bind (wpS_elem (by omega) ?_)
      have jd:=J.pushA C jb (show ia<a.size by omega) hy
      refine wpS_ite (fun c7=>wpS_pure (.inl ⟨_,_,_,rfl,rfl,jd.last C (by simpa using c7)⟩)) fun c7 => ?_
      have h1z:ia+1+1<a.size:=by simp at c7; omega
      refine wpS_ite (fun c8=>wpS_pure (.inr ⟨_,_,_,_,_,_,_,rfl,rfl,jd,h1z,by omega,by omega⟩)) fun c8 => ?_
      exact wpS_pure ⟨_,_,_,_,_,_,_,rfl,rfl,jd,h1z,by omega,by omega⟩
   ·rw [setG_eq]
    refine wpS_bind (wpS_modify ?_)
    show wpS _ _ _ _ _ _ (SG st mg)
    refine wpS_bind (wpS_elem h2 ?_)
    refine wpS_bind (gal_a (st:=SG st mg) C H (ia:=ia) (hint:=0) (m:=a.size - ia) (by omega) (by omega) (mem_at h2) fun k k1 k2 k3 => ?_)
    dsimp only
    refine wpS_ite (fun c1 => ?_) fun c1 => ?_
    ·have ja:=j.takeA C (k:=k) (by omega) (fun i hi hi2 z hz=>C.all_b (by simp) h2 (k2 i hi hi2) z hz)
     refine wpS_ite (fun c2=>wpS_pure (.inl ⟨_,_,_,rfl,rfl,ja.last C (by simpa using c2)⟩)) fun c2 => ?_
     refine wpS_ite (fun c3=>wpS_pure (.inl ⟨_,_,_,rfl,rfl,ja.doneA C (by simpa using c3)⟩)) fun c3 => ?_
     have h1':ia+k+1<a.size:=by simp at c2 c3; omega
     have hz:∀ z∈a.toList.drop (ia+k),less b[ib] z=true:=C.all_a (by simp) (by omega) (k3 k (Nat.le_refl _) (by omega) (by omega))
     refine wpS_bind (wpS_elem h2 ?_)
     have jb:=J.pushB C ja h2 hz
     refine wpS_ite (fun c4=>wpS_pure (.inl ⟨_,_,_,rfl,rfl,jb.doneB C (by simpa using c4)⟩)) fun c4 => ?_
     have h2':ib+1<b.size:=by simp at c4; omega
     refine wpS_bind (wpS_elem (by omega) ?_)
     refine wpS_bind (gal_b (st:=SG st mg) C H (ib:=ib+1) (hint:=0) (m:=b.size - (ib+1)) (by omega) (by omega) (mem_at (show ia+k<a.size by omega)) fun q q1 q2 q3 => ?_)
     dsimp only
     refine wpS_ite (fun c5 => ?_) fun c5 => ?_
     ·have jc:=jb.takeB C (k:=q) (by omega) (fun i hi hi2 z hz=>C.all_a (by simp) (show ia+k<a.size by omega) (q2 i hi hi2) z hz)
      refine wpS_ite (fun c6=>wpS_pure (.inl ⟨_,_,_,rfl,rfl,jc.doneB C (by simpa using c6)⟩)) fun c6 => ?_
      have h2z:ib+1+q<b.size:=by simp at c6; omega
      have hy:∀ z∈b.toList.drop (ib+1+q),less (a[ia+k]'(by omega)) z=true:=C.all_b (by simp) h2z (q3 q (Nat.le_refl _) (by omega) h2z)
      refine wpS_bind (wpS_elem (by omega) ?_)
      have jd:=J.pushA C jc (show ia+k<a.size by omega) hy
      refine wpS_ite (fun c7=>wpS_pure (.inl ⟨_,_,_,rfl,rfl,jd.last C (by simpa using c7)⟩)) fun c7 => ?_
      have h1z:ia+k+1+1<a.size:=by simp at c7; omega
      refine wpS_ite (fun c8=>wpS_pure (.inr ⟨_,_,_,_,_,_,_,rfl,rfl,jd,h1z,by omega,by omega⟩)) fun c8 => ?_
      exact wpS_pure ⟨_,_,_,_,_,_,_,rfl,rfl,jd,h1z,by omega,by omega⟩
     ·obtain rfl:q=0:=by omega
      have hy:∀ z∈b.toList.drop (ib+1),less (a[ia+k]'(by omega)) z=true:=C.all_b (by simp) h2' (q3 0 (Nat.le_refl _) (by omega) h2')
      refine wpS_bind (wpS_elem (by omega) ?_)
      have jd:=J.pushA C jb (show ia+k<a.size by omega) hy
      refine wpS_ite (fun c7=>wpS_pure (.inl ⟨_,_,_,rfl,rfl,jd.last C (by simpa using c7)⟩)) fun c7 => ?_
      have h1z:ia+k+1+1<a.size:=by simp at c7; omega
      refine wpS_ite (fun c8=>wpS_pure (.inr ⟨_,_,_,_,_,_,_,rfl,rfl,jd,h1z,by omega,by omega⟩)) fun c8 => ?_
      exact wpS_pure ⟨_,_,_,_,_,_,_,rfl,rfl,jd,h1z,by omega,by omega⟩
    ·obtain rfl:k=0:=by omega
     have hz:∀ z∈a.toList.drop ia,less b[ib] z=true:=C.all_a (by simp) (by omega) (k3 0 (Nat.le_refl _) (by omega) (by omega))
     refine wpS_bind (wpS_elem h2 ?_)
     have jb:=J.pushB C j h2 hz
     refine wpS_ite (fun c4=>wpS_pure (.inl ⟨_,_,_,rfl,rfl,jb.doneB C (by simpa using c4)⟩)) fun c4 => ?_
     have h2':ib+1<b.size:=by simp at c4; omega
     refine wpS_bind (wpS_elem (by omega) ?_)
     refine wpS_bind (gal_b (st:=SG st mg) C H (ib:=ib+1) (hint:=0) (m:=b.size - (ib+1)) (by omega) (by omega) (mem_at (show ia<a.size by omega)) fun q q1 q2 q3 => ?_)
     dsimp only
     refine wpS_ite (fun c5 => ?_) fun c5 => ?_
     ·have jc:=jb.takeB C (k:=q) (by omega) (fun i hi hi2 z hz=>C.all_a (by simp) (show ia<a.size by omega) (q2 i hi hi2) z hz)
      refine wpS_ite (fun c6=>wpS_pure (.inl ⟨_,_,_,rfl,rfl,jc.doneB C (by simpa using c6)⟩)) fun c6 => ?_
      have h2z:ib+1+q<b.size:=by simp at c6; omega
      have hy:∀ z∈b.toList.drop (ib+1+q),less (a[ia]'(by omega)) z=true:=C.all_b (by simp) h2z (q3 q (Nat.le_refl _) (by omega) h2z)
      refine wpS_bind (wpS_elem (by omega) ?_)
      have jd:=J.pushA C jc (show ia<a.size by omega) hy
      refine wpS_ite (fun c7=>wpS_pure (.inl ⟨_,_,_,rfl,rfl,jd.last C (by simpa using c7)⟩)) fun c7 => ?_
      have h1z:ia+1+1<a.size:=by simp at c7; omega
      refine wpS_ite (fun c8=>wpS_pure (.inr ⟨_,_,_,_,_,_,_,rfl,rfl,jd,h1z,by omega,by omega⟩)) fun c8 => ?_
      exact wpS_pure ⟨_,_,_,_,_,_,_,rfl,rfl,jd,h1z,by omega,by omega⟩
     ·obtain rfl:q=0:=by omega
      have hy:∀ z∈b.toList.drop (ib+1),less (a[ia]'(by omega)) z=true:=C.all_b (by simp) h2' (q3 0 (Nat.le_refl _) (by omega) h2')
      refine wpS_bind (wpS_elem (by omega) ?_)
      have jd:=J.pushA C jb (show ia<a.size by omega) hy
      refine wpS_ite (fun c7=>wpS_pure (.inl ⟨_,_,_,rfl,rfl,jd.last C (by simpa using c7)⟩)) fun c7 => ?_
      have h1z:ia+1+1<a.size:=by simp at c7; omega
      refine wpS_ite (fun c8=>wpS_pure (.inr ⟨_,_,_,_,_,_,_,rfl,rfl,jd,h1z,by omega,by omega⟩)) fun c8 => ?_
      exact wpS_pure ⟨_,_,_,_,_,_,_,rfl,rfl,jd,h1z,by omega,by omega⟩
  ·rintro c st' hI
   exact .inr hI
  rintro c st' (⟨g,r,q,rfl,rfl,hz⟩ | ⟨g,out,ia,ib,mg,ac,bc,rfl,rfl,j,h1,h2,h3⟩)
  ·exact wpS_pure ⟨_,r,_,rfl,rfl,hz⟩
  dsimp only
  rw [setG_eq]
  refine wpS_bind (wpS_modify ?_)
  exact wpS_pure ⟨_,_,_,_,_,rfl,rfl,j,h1,h2,by omega⟩
 ·rintro c st' ⟨g,out,ia,ib,mg,rfl,rfl,j,h1,h2,h3⟩
  rw [Nat.zero_max] at h3
  omega
 ·rintro c st' ⟨g,r,q,rfl,rfl,hz⟩
  exact wpS_pure (h r g hz)
end
end TS
end
section
set_option maxHeartbeats 2000000
namespace TS
open PySem PyProof.Rows
noncomputable def mergeHi':Array Keyed→Array Keyed→StateT SortSt Sem (Array Keyed):=sortPriv% PySem.Builtin.mergeHi
theorem mergeHi'_eq (a b:Array Keyed):mergeHi' a b=(do
 rule "list.sort.merge-hi"
 let total:=a.size+b.size
 let done (out:Array Keyed) (na nb:Nat):=a.extract 0 na++b.extract 0 nb++out.reverse
 let firstOfB (out:Array Keyed) (na nb:Nat):=b.extract 0 nb++a.extract 0 na++out.reverse
 let mut na:=a.size - 1
 let mut nb:=b.size
 let mut out:Array Keyed:=#[← elem' a na]
 if na == 0 then return done out na nb
 if nb == 1 then return firstOfB out na nb
 let mut minGallop:=gallopOf (← get)
 for _ in [0:total] do
  let mut acount:=0
  let mut bcount:=0
  for _ in [0:total] do
   let some aWins ← lt' (← elem' b (nb - 1)) (← elem' a (na - 1)) | return done out na nb
   if aWins then
    na:=na - 1; out:=out.push (← elem' a na); acount:=acount+1; bcount:=0
    if na == 0 then return done out na nb
    if acount ≥ minGallop then break
   else
    nb:=nb - 1; out:=out.push (← elem' b nb); bcount:=bcount+1; acount:=0
    if nb == 1 then return firstOfB out na nb
    if bcount ≥ minGallop then break
  rule "list.sort.gallop"
  minGallop:=minGallop+1
  for _ in [0:total] do
   if minGallop > 1 then minGallop:=minGallop - 1
   setG minGallop
   let some at_ ← gallop' false (← elem' b (nb - 1)) a 0 na (na - 1) | return done out na nb
   let k:=na - at_
   acount:=k
   if k > 0 then
    out:=out++(a.extract at_ na).reverse; na:=at_
    if na == 0 then return done out na nb
   nb:=nb - 1; out:=out.push (← elem' b nb)
   if nb == 1 then return firstOfB out na nb
   let some at_ ← gallop' true (← elem' a (na - 1)) b 0 nb (nb - 1) | return done out na nb
   let k:=nb - at_
   bcount:=k
   if k > 0 then
    out:=out++(b.extract at_ nb).reverse; nb:=at_
    if nb == 1 then return firstOfB out na nb
    if nb == 0 then return done out na nb
   na:=na - 1; out:=out.push (← elem' a na)
   if na == 0 then return done out na nb
   if acount<7 && bcount<7 then break
  minGallop:=minGallop+1
  setG minGallop
 unsupported "internal:list.sort.merge-bound") := rfl
noncomputable def JH (less:Keyed→Keyed→Bool) (a b out:Array Keyed) (na nb:Nat):Prop:=JL (fun x y=>less y x=true) (a.toList++b.toList) out.toList (a.toList.take na).reverse (b.toList.take nb).reverse
section
variable {less:Keyed→Keyed→Bool} {a b out:Array Keyed} {na nb:Nat}
theorem take_cons {x:Array Keyed} {n:Nat} (h:n<x.size):(x.toList.take (n+1)).reverse=[x[n]]++(x.toList.take n).reverse:=by
 rw [List.take_succ_eq_append_getElem (by simpa using h)]
 simp
theorem take_ext {x:Array Keyed} {i n:Nat} (h:i≤n) (hn:n≤x.size):(x.toList.take n).reverse=(x.extract i n).reverse.toList++(x.toList.take i).reverse:=by
 rw [Array.toList_reverse,Array.toList_extract,List.extract_eq_drop_take,← List.reverse_append]
 congr 1
 obtain ⟨k,rfl⟩:∃ k,n=i+k:=⟨n - i,by omega⟩
 rw [show i+k - i=k by omega,List.take_add]
theorem ext_take {x:Array Keyed} {n:Nat}:(x.extract 0 n).toList=x.toList.take n:=by
 rw [Array.toList_extract,List.extract_eq_drop_take]
 simp
theorem take_at {x:Array Keyed} {n:Nat} {z:Keyed} (h:z∈(x.toList.take n).reverse):∃ j,j<n∧∃ hj:j<x.size,z=x[j]:=by
 rw [List.mem_reverse] at h
 obtain ⟨j,hj,rfl⟩:=List.mem_iff_getElem.mp h
 rw [List.length_take] at hj
 refine ⟨j,by omega,by simp at hj; omega,?_⟩
 rw [List.getElem_take]
 simp
theorem rext_at {x:Array Keyed} {i n:Nat} {z:Keyed} (hk:n≤x.size) (h:z∈(x.extract i n).reverse.toList):∃ j,i≤j∧j<n∧∃ hj:j<x.size,z=x[j]:=by
 rw [Array.toList_reverse,List.mem_reverse] at h
 obtain ⟨j,hj,rfl⟩:=List.mem_iff_getElem.mp h
 have hj':j<n - i:=by simp at hj; omega
 exact ⟨i+j,by omega,by omega,by omega,by simp⟩
theorem rev_pw {x:Array Keyed} (h:x.toList.Pairwise (fun x y=>less x y=true)) (n:Nat):(x.toList.take n).reverse.Pairwise (fun x y=>less y x=true):=List.pairwise_reverse.mpr (h.sublist (List.take_sublist _ _))
theorem JH.takeA (C:AB less a b) (h:JH less a b out na nb) {i:Nat} (hi:i≤na) (hn:na≤a.size) (hx:∀ j,i≤j→j<na→∀ hj:j<a.size,∀ z∈(b.toList.take nb).reverse,less z a[j]=true):JH less a b (out++(a.extract i na).reverse) i nb:=by
 unfold JH at h ⊢
 rw [take_ext hi hn] at h
 rw [Array.toList_append]
 refine h.takeA ?_ fun t ht z hz => ?_
 ·rw [← take_ext hi hn]
  exact rev_pw C.sa _
 ·obtain ⟨j,h1,h2,h3,rfl⟩:=rext_at hn ht
  exact hx j h1 h2 h3 z hz
theorem JH.takeB (C:AB less a b) (h:JH less a b out na nb) {i:Nat} (hi:i≤nb) (hn:nb≤b.size) (hx:∀ j,i≤j→j<nb→∀ hj:j<b.size,∀ z∈(a.toList.take na).reverse,less z b[j]=true):JH less a b (out++(b.extract i nb).reverse) na i:=by
 unfold JH at h ⊢
 rw [take_ext hi hn] at h
 rw [Array.toList_append]
 refine h.takeB ?_ fun t ht z hz => ?_
 ·rw [← take_ext hi hn]
  exact rev_pw C.sb _
 ·obtain ⟨j,h1,h2,h3,rfl⟩:=rext_at hn ht
  exact hx j h1 h2 h3 z hz
theorem JH.pushA (C:AB less a b) {m:Nat} (h:JH less a b out (m+1) nb) (hi:m<a.size) (hx:∀ z∈(b.toList.take nb).reverse,less z a[m]=true):JH less a b (out.push a[m]) m nb:=by
 unfold JH at h ⊢
 rw [take_cons hi] at h
 rw [Array.toList_push]
 refine h.takeA ?_ fun t ht z hz => ?_
 ·rw [← take_cons hi]
  exact rev_pw C.sa _
 ·rw [List.mem_singleton.mp ht]
  exact hx z hz
theorem JH.pushB (C:AB less a b) {m:Nat} (h:JH less a b out na (m+1)) (hi:m<b.size) (hx:∀ z∈(a.toList.take na).reverse,less z b[m]=true):JH less a b (out.push b[m]) na m:=by
 unfold JH at h ⊢
 rw [take_cons hi] at h
 rw [Array.toList_push]
 refine h.takeB ?_ fun t ht z hz => ?_
 ·rw [← take_cons hi]
  exact rev_pw C.sb _
 ·rw [List.mem_singleton.mp ht]
  exact hx z hz
theorem JH.close (h:JH less a b out na nb) {X:List Keyed} (hX:X.Perm (a.toList.take na++b.toList.take nb)) (hp:X.Pairwise (fun x y=>less x y=true)):(X++out.toList.reverse).Perm (a.toList++b.toList)∧(X++out.toList.reverse).Pairwise (fun x y=>less x y=true):=by
 have:=JL.fin h (X:=X.reverse) ((List.reverse_perm X).trans (hX.trans ((List.Perm.append (List.reverse_perm _) (List.reverse_perm _)).symm))) (List.pairwise_reverse.mpr hp)
 rw [show X++out.toList.reverse=(out.toList++X.reverse).reverse by simp]
 exact ⟨(List.reverse_perm _).trans this.1,List.pairwise_reverse.mpr this.2⟩
theorem JH.doneA (C:AB less a b) (h:JH less a b out na nb) (hb:na=0):Rz less a b (a.extract 0 na++b.extract 0 nb++out.reverse):=by
 subst hb
 unfold Rz
 rw [Array.toList_append,Array.toList_append,ext_take,ext_take,Array.toList_reverse]
 refine h.close (List.Perm.refl _) ?_
 rw [List.take_zero,List.nil_append]
 exact C.sb.sublist (List.take_sublist _ _)
theorem JH.doneB (C:AB less a b) (h:JH less a b out na nb) (hb:nb=0):Rz less a b (a.extract 0 na++b.extract 0 nb++out.reverse):=by
 subst hb
 unfold Rz
 rw [Array.toList_append,Array.toList_append,ext_take,ext_take,Array.toList_reverse]
 refine h.close (List.Perm.refl _) ?_
 rw [List.take_zero,List.append_nil]
 exact C.sa.sublist (List.take_sublist _ _)
theorem JH.first (C:AB less a b) (h:JH less a b out na nb) (hb:nb=1):Rz less a b (b.extract 0 nb++a.extract 0 na++out.reverse):=by
 subst hb
 unfold Rz
 rw [Array.toList_append,Array.toList_append,ext_take,ext_take,Array.toList_reverse]
 refine h.close List.perm_append_comm (List.pairwise_append.mpr ⟨C.sb.sublist (List.take_sublist _ _),C.sa.sublist (List.take_sublist _ _),fun y hy x hx => ?_⟩)
 obtain ⟨j,h1,h2,rfl⟩:=take_at (List.mem_reverse.mpr hy)
 obtain rfl:j=0:=by omega
 exact C.fi x (List.mem_of_mem_take hx)
theorem AB.all_a' (C:AB less a b) {y:Keyed} (hy:y∈a.toList++b.toList) {m:Nat} (hi:m<a.size) (h:less a[m] y=true):∀ z∈(a.toList.take (m+1)).reverse,less z y=true:=by
 intro z hz
 obtain ⟨j,h1,h2,rfl⟩:=take_at hz
 by_cases e:j=m
 ·subst e; exact h
 ·exact C.tr a[j] (by simp) a[m] (by simp) y hy (srt_at C.sa (by omega) hi) h
theorem AB.all_b' (C:AB less a b) {y:Keyed} (hy:y∈a.toList++b.toList) {m:Nat} (hi:m<b.size) (h:less b[m] y=true):∀ z∈(b.toList.take (m+1)).reverse,less z y=true:=by
 intro z hz
 obtain ⟨j,h1,h2,rfl⟩:=take_at hz
 by_cases e:j=m
 ·subst e; exact h
 ·exact C.tr b[j] (by simp) b[m] (by simp) y hy (srt_at C.sb (by omega) hi) h
end
section
variable {M:Model} {A:Around} {E:Value→Shared→Prop} {s:Shared} {less:Keyed→Keyed→Bool} {a b:Array Keyed} {st:SortSt}
noncomputable def Hn2 (less:Keyed→Keyed→Bool) (a b:Array Keyed) (st:SortSt) (base:Nat) (c:Option (Array Keyed)×Nat×Nat×Array Keyed×Nat×Nat×Nat) (st':SortSt):Prop:=∃ g out na nb mg ac bc,st'=SG st g∧c=(none,na,nb,out,mg,ac,bc)∧JH less a b out na nb∧0<na∧1<nb∧na≤a.size∧nb≤b.size∧na+nb+base≤a.size+b.size
noncomputable def Ho2 (less:Keyed→Keyed→Bool) (a b:Array Keyed) (st:SortSt) (base:Nat) (c:Option (Array Keyed)×Nat×Nat×Array Keyed×Nat×Nat×Nat) (st':SortSt):Prop:=(∃ g r q,st'=SG st g∧c=(some r,q)∧Rz less a b r)∨Hn2 less a b st base c st'
noncomputable def Hn1 (less:Keyed→Keyed→Bool) (a b:Array Keyed) (st':SortSt) (base:Nat) (c:Option (Array Keyed)×Nat×Nat×Array Keyed×Nat×Nat) (st'':SortSt):Prop:=∃ out na nb ac bc,st''=st'∧c=(none,na,nb,out,ac,bc)∧JH less a b out na nb∧0<na∧1<nb∧na≤a.size∧nb≤b.size∧na+nb+base≤a.size+b.size
noncomputable def Ho1 (less:Keyed→Keyed→Bool) (a b:Array Keyed) (st':SortSt) (base:Nat) (c:Option (Array Keyed)×Nat×Nat×Array Keyed×Nat×Nat) (st'':SortSt):Prop:=(∃ r q,st''=st'∧c=(some r,q)∧Rz less a b r)∨Hn1 less a b st' base c st''
theorem mergeHi_ {Q:Array Keyed→SortSt→Prop} (C:AB less a b) (H:HL M A E s (kindOf st) less (a.toList++b.toList)) (hr:∀ {Q':Unit→Shared→Prop} (x:String),Q' () s→wpAny M A (rule x) Q' E s) (h:∀ r g,Rz less a b r→Q r (SG st g)):wpS M A E s (mergeHi' a b) Q st:=by
 rw [mergeHi'_eq]
 refine wpS_bind (wpS_lift (hr _ ⟨rfl,?_⟩))
 have za:=C.za
 have zb:=C.zb
 obtain ⟨n,hn⟩:∃ n,a.size=n+1:=⟨a.size - 1,by omega⟩
 have hn':a.size - 1=n:=by omega
 dsimp only
 refine wpS_bind (wpS_elem (show a.size - 1<a.size by omega) ?_)
 have j0:JH less a b #[a[a.size - 1]'(by omega)] (a.size - 1) b.size:=by
  have e:JH less a b #[] a.size b.size:=by
   refine ⟨?_,by simp,by simp⟩
   rw [← Array.length_toList,List.take_length,← Array.length_toList (xs:=b),List.take_length]
   simpa using (List.Perm.append (List.reverse_perm _) (List.reverse_perm _))
  have e2:JH less a b #[] (a.size - 1+1) b.size:=by rw [show a.size - 1+1=a.size by omega]; exact e
  exact JH.pushA C e2 (show a.size - 1<a.size by omega) fun z hz=>C.la z (List.mem_of_mem_take (List.mem_reverse.mp hz))
 refine wpS_ite (fun c=>wpS_pure (h _ (gallopOf st) (j0.doneA C (by simpa using c)))) fun c => ?_
 refine wpS_ite (fun c'=>wpS_pure (h _ (gallopOf st) (j0.first C (by simpa using c')))) fun c' => ?_
 refine wpS_bind (wpS_get ?_)
 have g1:0<a.size - 1:=by simp at c; omega
 have g2:1<b.size:=by simp at c'; omega
 refine wpS_bind (wpS_mono (wpS_forRange (fun x c st' => ∃ g out na nb mg,st'=SG st g∧c=(none,na,nb,out,mg)∧JH less a b out na nb∧0<na∧1<nb∧na≤a.size∧nb≤b.size∧na+nb+(x+1)≤a.size+b.size)
  (Q:=fun c st' => ∃ g r q,st'=SG st g∧c=(some r,q)∧Rz less a b r) ?_ ?_ ⟨gallopOf st,_,_,_,_,rfl,rfl,j0,g1,g2,by omega,by omega,by omega⟩) ?_)
 ·rintro x c st' _ hx ⟨g,out,na,nb,mg,rfl,rfl,j,h1,h2,h5,h6,h3⟩
  dsimp only
  refine wpS_bind (wpS_mono (wpS_forRange (fun y c st'=>Hn1 less a b (SG st g) (x+1+y) c st') (Q:=fun c st'=>Ho1 less a b (SG st g) (x+2) c st') ?_ ?_ ⟨_,_,_,_,_,rfl,rfl,j,h1,h2,h5,h6,by omega⟩) ?_)
  ·clear j h1 h2 h5 h6 h3
   rintro y c st' _ hy ⟨out,na',nb',ac,bc,rfl,rfl,j,h1,h2,h5,h6,h3⟩
   obtain ⟨p,rfl⟩:∃ p,na'=p+1:=⟨na' - 1,by omega⟩
   obtain ⟨q,rfl⟩:∃ q,nb'=q+1:=⟨nb' - 1,by omega⟩
   dsimp only
   show wpS _ _ _ _ (elem' b q >>= _) _ _
   refine wpS_bind (wpS_elem (show q<b.size by omega) ?_)
   show wpS _ _ _ _ (elem' a p >>= _) _ _
   refine wpS_bind (wpS_elem (show p<a.size by omega) ?_)
   refine wpS_bind (H _ (by simp) _ (by simp) _ _ rfl ?_)
   dsimp only
   refine wpS_ite (fun e => ?_) fun e => ?_
   ·show wpS _ _ _ _ (elem' a p >>= _) _ _
    refine wpS_bind (wpS_elem (show p<a.size by omega) ?_)
    have ja:=JH.pushA C j (show p<a.size by omega) (C.all_b' (by simp) (show q<b.size by omega) e)
    refine wpS_ite (fun c4=>wpS_pure (.inl ⟨_,_,rfl,rfl,ja.doneA C (by simpa using c4)⟩)) fun c4 => ?_
    have h1':0<p:=by simp at c4; omega
    refine wpS_ite (fun c5=>wpS_pure (.inr ⟨_,_,_,_,_,rfl,rfl,ja,h1',h2,by omega,by omega,by omega⟩)) fun c5=>wpS_pure ⟨_,_,_,_,_,rfl,rfl,ja,h1',h2,by omega,by omega,by omega⟩
   ·show wpS _ _ _ _ (elem' b q >>= _) _ _
    refine wpS_bind (wpS_elem (show q<b.size by omega) ?_)
    have e':less (a[p]'(by omega)) (b[q]'(by omega))=true:=by
     have:=C.ne (a[p]'(by omega)) (by simp) (b[q]'(by omega)) (by simp)
     rw [this] at e
     simpa using e
    have jb:=JH.pushB C j (show q<b.size by omega) (C.all_a' (by simp) (show p<a.size by omega) e')
    refine wpS_ite (fun c4=>wpS_pure (.inl ⟨_,_,rfl,rfl,jb.first C (by simpa using c4)⟩)) fun c4 => ?_
    have h2':1<q:=by simp at c4; omega
    refine wpS_ite (fun c5=>wpS_pure (.inr ⟨_,_,_,_,_,rfl,rfl,jb,h1,h2',by omega,by omega,by omega⟩)) fun c5=>wpS_pure ⟨_,_,_,_,_,rfl,rfl,jb,h1,h2',by omega,by omega,by omega⟩
  ·rintro c st' ⟨out,na',nb',ac,bc,e1,e2,j,h1,h2,h5,h6,h3⟩
   rw [Nat.zero_max] at h3
   exact .inr ⟨out,na',nb',ac,bc,e1,e2,j,h1,h2,h5,h6,by omega⟩
  clear j h1 h2 h5 h6 h3
  rintro c st' (⟨r,q,rfl,rfl,hz⟩ | ⟨out,na,nb,ac,bc,rfl,rfl,j,h1,h2,h5,h6,h4⟩)
  ·exact wpS_pure ⟨_,r,_,rfl,rfl,hz⟩
  dsimp only
  refine wpS_bind (wpS_lift (hr _ ⟨rfl,?_⟩))
  refine wpS_bind (wpS_mono (wpS_forRange (fun y c st'=>Hn2 less a b st (x+2) c st') (Q:=fun c st'=>Ho2 less a b st (x+2) c st') ?_ ?_ ⟨g,_,_,_,_,_,_,rfl,rfl,j,h1,h2,h5,h6,by omega⟩) ?_)
  ·clear h4 j h1 h2 h5 h6
   rintro y c st' _ hy ⟨g,out,na,nb,mg,ac,bc,rfl,rfl,j,h1,h2,h5,h6,h3⟩
   obtain ⟨p,rfl⟩:∃ p,na=p+1:=⟨na - 1,by omega⟩
   obtain ⟨q,rfl⟩:∃ q,nb=q+1+1:=⟨nb - 2,by omega⟩
   dsimp only
   refine wpS_ite (fun c0 => ?_) fun c0 => ?_
   ·rw [setG_eq]
    refine wpS_bind (wpS_modify ?_)
    show wpS _ _ _ _ _ _ (SG st (mg - 1))
    show wpS _ _ _ _ (elem' b (q+1) >>= _) _ _
    refine wpS_bind (wpS_elem (show q+1<b.size by omega) ?_)
    refine wpS_bind (gal_a (st:=SG st (mg - 1)) C H (ia:=0) (hint:=p+1 - 1) (m:=p+1) (by omega) (by omega) (mem_at (show q+1<b.size by omega)) fun at_ k1 k2 k3 => ?_)
    dsimp only
    refine wpS_ite (fun c1 => ?_) fun c1 => ?_
    ·have ja:=j.takeA C (i:=at_) k1 (by omega) (fun i hi hi2 hi3 z hz=>C.all_b' (by simp) (show q+1<b.size by omega) (by have:=k3 i hi hi2 (by omega); simpa using this) z hz)
     refine wpS_ite (fun c3=>wpS_pure (.inl ⟨_,_,_,rfl,rfl,ja.doneA C (by simpa using c3)⟩)) fun c3 => ?_
     obtain ⟨v,rfl⟩:∃ v,at_=v+1:=⟨at_ - 1,by simp at c3; omega⟩
     have hz:∀ z∈(a.toList.take (v+1)).reverse,less z (b[q+1]'(by omega))=true:=C.all_a' (by simp) (show v<a.size by omega) (by have:=k2 v (by omega) (by omega); simpa using this)
     show wpS _ _ _ _ (elem' b (q+1) >>= _) _ _
     refine wpS_bind (wpS_elem (show q+1<b.size by omega) ?_)
     have jb:=JH.pushB C ja (show q+1<b.size by omega) hz
     refine wpS_ite (fun c4=>wpS_pure (.inl ⟨_,_,_,rfl,rfl,jb.first C (by simpa using c4)⟩)) fun c4 => ?_
     have h2':0<q:=by simp at c4; omega
     show wpS _ _ _ _ (elem' a (v) >>= _) _ _
     refine wpS_bind (wpS_elem (show v<a.size by omega) ?_)
     refine wpS_bind (gal_b (st:=SG st (mg - 1)) C H (ib:=0) (hint:=q+1 - 1) (m:=q+1) (by omega) (by omega) (mem_at (show v<a.size by omega)) fun at2 r1 r2 r3 => ?_)
     dsimp only
     refine wpS_ite (fun c5 => ?_) fun c5 => ?_
     ·have jc:=jb.takeB C (i:=at2) r1 (by omega) (fun i hi hi2 hi3 z hz=>C.all_a' (by simp) (show v<a.size by omega) (by have:=r3 i hi hi2 (by omega); simpa using this) z hz)
      refine wpS_ite (fun c6=>wpS_pure (.inl ⟨_,_,_,rfl,rfl,jc.first C (by simpa using c6)⟩)) fun c6 => ?_
      refine wpS_ite (fun c9=>wpS_pure (.inl ⟨_,_,_,rfl,rfl,jc.doneB C (by simpa using c9)⟩)) fun c9 => ?_
      have h2z:1<at2:=by simp at c6 c9; omega
      obtain ⟨u,rfl⟩:∃ u,at2=u+1:=⟨at2 - 1,by omega⟩
      have hy:∀ z∈(b.toList.take (u+1)).reverse,less z (a[v]'(by omega))=true:=C.all_b' (by simp) (show u<b.size by omega) (by have:=r2 u (by omega) (by omega); simpa using this)
      refine wpS_bind (wpS_elem (show v<a.size by omega) ?_)
      have jd:=JH.pushA C jc (show v<a.size by omega) hy
      refine wpS_ite (fun c7=>wpS_pure (.inl ⟨_,_,_,rfl,rfl,jd.doneA C (by simpa using c7)⟩)) fun c7 => ?_
      have h1z:0<v:=by simp at c7; omega
      refine wpS_ite (fun c8=>wpS_pure (.inr ⟨_,_,_,_,_,_,_,rfl,rfl,jd,h1z,by omega,by omega,by omega,by omega⟩)) fun c8 => ?_
      exact wpS_pure ⟨_,_,_,_,_,_,_,rfl,rfl,jd,h1z,by omega,by omega,by omega,by omega⟩
     ·obtain rfl:at2=q+1:=by omega
      have hy:∀ z∈(b.toList.take (q+1)).reverse,less z (a[v]'(by omega))=true:=C.all_b' (by simp) (show q<b.size by omega) (by have:=r2 q (by omega) (by omega); simpa using this)
      refine wpS_bind (wpS_elem (show v<a.size by omega) ?_)
      have jd:=JH.pushA C jb (show v<a.size by omega) hy
      refine wpS_ite (fun c7=>wpS_pure (.inl ⟨_,_,_,rfl,rfl,jd.doneA C (by simpa using c7)⟩)) fun c7 => ?_
      have h1z:0<v:=by simp at c7; omega
      refine wpS_ite (fun c8=>wpS_pure (.inr ⟨_,_,_,_,_,_,_,rfl,rfl,jd,h1z,by omega,by omega,by omega,by omega⟩)) fun c8 => ?_
      exact wpS_pure ⟨_,_,_,_,_,_,_,rfl,rfl,jd,h1z,by omega,by omega,by omega,by omega⟩
    ·obtain rfl:at_=p+1:=by omega
     have hz:∀ z∈(a.toList.take (p+1)).reverse,less z (b[q+1]'(by omega))=true:=C.all_a' (by simp) (show p<a.size by omega) (by have:=k2 p (by omega) (by omega); simpa using this)
     show wpS _ _ _ _ (elem' b (q+1) >>= _) _ _
     refine wpS_bind (wpS_elem (show q+1<b.size by omega) ?_)
     have jb:=JH.pushB C j (show q+1<b.size by omega) hz
     refine wpS_ite (fun c4=>wpS_pure (.inl ⟨_,_,_,rfl,rfl,jb.first C (by simpa using c4)⟩)) fun c4 => ?_
     have h2':0<q:=by simp at c4; omega
     show wpS _ _ _ _ (elem' a (p) >>= _) _ _
     refine wpS_bind (wpS_elem (show p<a.size by omega) ?_)
     refine wpS_bind (gal_b (st:=SG st (mg - 1)) C H (ib:=0) (hint:=q+1 - 1) (m:=q+1) (by omega) (by omega) (mem_at (show p<a.size by omega)) fun at2 r1 r2 r3 => ?_)
     dsimp only
     refine wpS_ite (fun c5 => ?_) fun c5 => ?_
     ·have jc:=jb.takeB C (i:=at2) r1 (by omega) (fun i hi hi2 hi3 z hz=>C.all_a' (by simp) (show p<a.size by omega) (by have:=r3 i hi hi2 (by omega); simpa using this) z hz)
      refine wpS_ite (fun c6=>wpS_pure (.inl ⟨_,_,_,rfl,rfl,jc.first C (by simpa using c6)⟩)) fun c6 => ?_
      refine wpS_ite (fun c9=>wpS_pure (.inl ⟨_,_,_,rfl,rfl,jc.doneB C (by simpa using c9)⟩)) fun c9 => ?_
      have h2z:1<at2:=by simp at c6 c9; omega
      obtain ⟨u,rfl⟩:∃ u,at2=u+1:=⟨at2 - 1,by omega⟩
      have hy:∀ z∈(b.toList.take (u+1)).reverse,less z (a[p]'(by omega))=true:=C.all_b' (by simp) (show u<b.size by omega) (by have:=r2 u (by omega) (by omega); simpa using this)
      refine wpS_bind (wpS_elem (show p<a.size by omega) ?_)
      have jd:=JH.pushA C jc (show p<a.size by omega) hy
      refine wpS_ite (fun c7=>wpS_pure (.inl ⟨_,_,_,rfl,rfl,jd.doneA C (by simpa using c7)⟩)) fun c7 => ?_
      have h1z:0<p:=by simp at c7; omega
      refine wpS_ite (fun c8=>wpS_pure (.inr ⟨_,_,_,_,_,_,_,rfl,rfl,jd,h1z,by omega,by omega,by omega,by omega⟩)) fun c8 => ?_
      exact wpS_pure ⟨_,_,_,_,_,_,_,rfl,rfl,jd,h1z,by omega,by omega,by omega,by omega⟩
     ·obtain rfl:at2=q+1:=by omega
      have hy:∀ z∈(b.toList.take (q+1)).reverse,less z (a[p]'(by omega))=true:=C.all_b' (by simp) (show q<b.size by omega) (by have:=r2 q (by omega) (by omega); simpa using this)
      refine wpS_bind (wpS_elem (show p<a.size by omega) ?_)
      have jd:=JH.pushA C jb (show p<a.size by omega) hy
      refine wpS_ite (fun c7=>wpS_pure (.inl ⟨_,_,_,rfl,rfl,jd.doneA C (by simpa using c7)⟩)) fun c7 => ?_
      have h1z:0<p:=by simp at c7; omega
      refine wpS_ite (fun c8=>wpS_pure (.inr ⟨_,_,_,_,_,_,_,rfl,rfl,jd,h1z,by omega,by omega,by omega,by omega⟩)) fun c8 => ?_
      exact wpS_pure ⟨_,_,_,_,_,_,_,rfl,rfl,jd,h1z,by omega,by omega,by omega,by omega⟩
   ·rw [setG_eq]
    refine wpS_bind (wpS_modify ?_)
    show wpS _ _ _ _ _ _ (SG st mg)
    show wpS _ _ _ _ (elem' b (q+1) >>= _) _ _
    refine wpS_bind (wpS_elem (show q+1<b.size by omega) ?_)
    refine wpS_bind (gal_a (st:=SG st mg) C H (ia:=0) (hint:=p+1 - 1) (m:=p+1) (by omega) (by omega) (mem_at (show q+1<b.size by omega)) fun at_ k1 k2 k3 => ?_)
    dsimp only
    refine wpS_ite (fun c1 => ?_) fun c1 => ?_
    ·have ja:=j.takeA C (i:=at_) k1 (by omega) (fun i hi hi2 hi3 z hz=>C.all_b' (by simp) (show q+1<b.size by omega) (by have:=k3 i hi hi2 (by omega); simpa using this) z hz)
     refine wpS_ite (fun c3=>wpS_pure (.inl ⟨_,_,_,rfl,rfl,ja.doneA C (by simpa using c3)⟩)) fun c3 => ?_
     obtain ⟨v,rfl⟩:∃ v,at_=v+1:=⟨at_ - 1,by simp at c3; omega⟩
     have hz:∀ z∈(a.toList.take (v+1)).reverse,less z (b[q+1]'(by omega))=true:=C.all_a' (by simp) (show v<a.size by omega) (by have:=k2 v (by omega) (by omega); simpa using this)
     show wpS _ _ _ _ (elem' b (q+1) >>= _) _ _
     refine wpS_bind (wpS_elem (show q+1<b.size by omega) ?_)
     have jb:=JH.pushB C ja (show q+1<b.size by omega) hz
     refine wpS_ite (fun c4=>wpS_pure (.inl ⟨_,_,_,rfl,rfl,jb.first C (by simpa using c4)⟩)) fun c4 => ?_
     have h2':0<q:=by simp at c4; omega
     show wpS _ _ _ _ (elem' a (v) >>= _) _ _
     refine wpS_bind (wpS_elem (show v<a.size by omega) ?_)
     refine wpS_bind (gal_b (st:=SG st mg) C H (ib:=0) (hint:=q+1 - 1) (m:=q+1) (by omega) (by omega) (mem_at (show v<a.size by omega)) fun at2 r1 r2 r3 => ?_)
     dsimp only
     refine wpS_ite (fun c5 => ?_) fun c5 => ?_
     ·have jc:=jb.takeB C (i:=at2) r1 (by omega) (fun i hi hi2 hi3 z hz=>C.all_a' (by simp) (show v<a.size by omega) (by have:=r3 i hi hi2 (by omega); simpa using this) z hz)
      refine wpS_ite (fun c6=>wpS_pure (.inl ⟨_,_,_,rfl,rfl,jc.first C (by simpa using c6)⟩)) fun c6 => ?_
      refine wpS_ite (fun c9=>wpS_pure (.inl ⟨_,_,_,rfl,rfl,jc.doneB C (by simpa using c9)⟩)) fun c9 => ?_
      have h2z:1<at2:=by simp at c6 c9; omega
      obtain ⟨u,rfl⟩:∃ u,at2=u+1:=⟨at2 - 1,by omega⟩
      have hy:∀ z∈(b.toList.take (u+1)).reverse,less z (a[v]'(by omega))=true:=C.all_b' (by simp) (show u<b.size by omega) (by have:=r2 u (by omega) (by omega); simpa using this)
      refine wpS_bind (wpS_elem (show v<a.size by omega) ?_)
      have jd:=JH.pushA C jc (show v<a.size by omega) hy
      refine wpS_ite (fun c7=>wpS_pure (.inl ⟨_,_,_,rfl,rfl,jd.doneA C (by simpa using c7)⟩)) fun c7 => ?_
      have h1z:0<v:=by simp at c7; omega
      refine wpS_ite (fun c8=>wpS_pure (.inr ⟨_,_,_,_,_,_,_,rfl,rfl,jd,h1z,by omega,by omega,by omega,by omega⟩)) fun c8 => ?_
      exact wpS_pure ⟨_,_,_,_,_,_,_,rfl,rfl,jd,h1z,by omega,by omega,by omega,by omega⟩
     ·obtain rfl:at2=q+1:=by omega
      have hy:∀ z∈(b.toList.take (q+1)).reverse,less z (a[v]'(by omega))=true:=C.all_b' (by simp) (show q<b.size by omega) (by have:=r2 q (by omega) (by omega); simpa using this)
      refine wpS_bind (wpS_elem (show v<a.size by omega) ?_)
      have jd:=JH.pushA C jb (show v<a.size by omega) hy
      refine wpS_ite (fun c7=>wpS_pure (.inl ⟨_,_,_,rfl,rfl,jd.doneA C (by simpa using c7)⟩)) fun c7 => ?_
      have h1z:0<v:=by simp at c7; omega
      refine wpS_ite (fun c8=>wpS_pure (.inr ⟨_,_,_,_,_,_,_,rfl,rfl,jd,h1z,by omega,by omega,by omega,by omega⟩)) fun c8 => ?_
      exact wpS_pure ⟨_,_,_,_,_,_,_,rfl,rfl,jd,h1z,by omega,by omega,by omega,by omega⟩
    ·obtain rfl:at_=p+1:=by omega
     have hz:∀ z∈(a.toList.take (p+1)).reverse,less z (b[q+1]'(by omega))=true:=C.all_a' (by simp) (show p<a.size by omega) (by have:=k2 p (by omega) (by omega); simpa using this)
     show wpS _ _ _ _ (elem' b (q+1) >>= _) _ _
     refine wpS_bind (wpS_elem (show q+1<b.size by omega) ?_)
     have jb:=JH.pushB C j (show q+1<b.size by omega) hz
     refine wpS_ite (fun c4=>wpS_pure (.inl ⟨_,_,_,rfl,rfl,jb.first C (by simpa using c4)⟩)) fun c4 => ?_
     have h2':0<q:=by simp at c4; omega
     show wpS _ _ _ _ (elem' a (p) >>= _) _ _
     refine wpS_bind (wpS_elem (show p<a.size by omega) ?_)
     refine wpS_bind (gal_b (st:=SG st mg) C H (ib:=0) (hint:=q+1 - 1) (m:=q+1) (by omega) (by omega) (mem_at (show p<a.size by omega)) fun at2 r1 r2 r3 => ?_)
     dsimp only
     refine wpS_ite (fun c5 => ?_) fun c5 => ?_
     ·have jc:=jb.takeB C (i:=at2) r1 (by omega) (fun i hi hi2 hi3 z hz=>C.all_a' (by simp) (show p<a.size by omega) (by have:=r3 i hi hi2 (by omega); simpa using this) z hz)
      refine wpS_ite (fun c6=>wpS_pure (.inl ⟨_,_,_,rfl,rfl,jc.first C (by simpa using c6)⟩)) fun c6 => ?_
      refine wpS_ite (fun c9=>wpS_pure (.inl ⟨_,_,_,rfl,rfl,jc.doneB C (by simpa using c9)⟩)) fun c9 => ?_
      have h2z:1<at2:=by simp at c6 c9; omega
      obtain ⟨u,rfl⟩:∃ u,at2=u+1:=⟨at2 - 1,by omega⟩
      have hy:∀ z∈(b.toList.take (u+1)).reverse,less z (a[p]'(by omega))=true:=C.all_b' (by simp) (show u<b.size by omega) (by have:=r2 u (by omega) (by omega); simpa using this)
      refine wpS_bind (wpS_elem (show p<a.size by omega) ?_)
      have jd:=JH.pushA C jc (show p<a.size by omega) hy
      refine wpS_ite (fun c7=>wpS_pure (.inl ⟨_,_,_,rfl,rfl,jd.doneA C (by simpa using c7)⟩)) fun c7 => ?_
      have h1z:0<p:=by simp at c7; omega
      refine wpS_ite (fun c8=>wpS_pure (.inr ⟨_,_,_,_,_,_,_,rfl,rfl,jd,h1z,by omega,by omega,by omega,by omega⟩)) fun c8 => ?_
      exact wpS_pure ⟨_,_,_,_,_,_,_,rfl,rfl,jd,h1z,by omega,by omega,by omega,by omega⟩
     ·obtain rfl:at2=q+1:=by omega
      have hy:∀ z∈(b.toList.take (q+1)).reverse,less z (a[p]'(by omega))=true:=C.all_b' (by simp) (show q<b.size by omega) (by have:=r2 q (by omega) (by omega); simpa using this)
      refine wpS_bind (wpS_elem (show p<a.size by omega) ?_)
      have jd:=JH.pushA C jb (show p<a.size by omega) hy
      refine wpS_ite (fun c7=>wpS_pure (.inl ⟨_,_,_,rfl,rfl,jd.doneA C (by simpa using c7)⟩)) fun c7 => ?_
      have h1z:0<p:=by simp at c7; omega
      refine wpS_ite (fun c8=>wpS_pure (.inr ⟨_,_,_,_,_,_,_,rfl,rfl,jd,h1z,by omega,by omega,by omega,by omega⟩)) fun c8 => ?_
      exact wpS_pure ⟨_,_,_,_,_,_,_,rfl,rfl,jd,h1z,by omega,by omega,by omega,by omega⟩
  ·rintro c st' hI
   exact .inr hI
  rintro c st' (⟨g,r,q,rfl,rfl,hz⟩ | ⟨g,out,na,nb,mg,ac,bc,rfl,rfl,j,h1,h2,h5,h6,h3⟩)
  ·exact wpS_pure ⟨_,r,_,rfl,rfl,hz⟩
  dsimp only
  rw [setG_eq]
  refine wpS_bind (wpS_modify ?_)
  exact wpS_pure ⟨_,_,_,_,_,rfl,rfl,j,h1,h2,h5,h6,by omega⟩
 ·rintro c st' ⟨g,out,na,nb,mg,rfl,rfl,j,h1,h2,h5,h6,h3⟩
  rw [Nat.zero_max] at h3
  omega
 ·rintro c st' ⟨g,r,q,rfl,rfl,hz⟩
  exact wpS_pure (h r g hz)
end
end TS
end
section
set_option maxHeartbeats 2000000
namespace TS
open PySem PyProof.Rows
theorem mergeAt'_eq (i:Nat):mergeAt' i=(do
 let s ← get
 let (some (sa, na, power), some (sb, nb, _)) := ((pendingOf s)[i]?, (pendingOf s)[i + 1]?) | unsupported "internal:list.sort.pending"
 set (setPending s (((pendingOf s).setIfInBounds i (sa,na+nb,power)).eraseIdxIfInBounds (i+1)))
 let some k ← gallop' false (← elem' (arrOf s) sb) (arrOf s) sa na 0 | return false
 let (sa,na):=(sa+k,na - k)
 if na == 0 then return true
 let some nb ← gallop' true (← elem' (arrOf s) (sa+na - 1)) (arrOf s) sb nb (nb - 1) | return false
 if nb == 0 then return true
 let x:=(arrOf s).extract sa sb
 let y:=(arrOf s).extract sb (sb+nb)
 let merged ← if na≤nb then mergeLo' x y else mergeHi' x y
 modify fun s=>setArr s (merged.toList.zipIdx.foldl (fun a (p,j)=>a.setIfInBounds (sa+j) p) (arrOf s))
 return (failedOf (← get)).isNone):=rfl
theorem wpS_set {M:Model} {A:Around} {E:Value→Shared→Prop} {s:Shared} {st:SortSt} {x:SortSt} {Q:PUnit→SortSt→Prop} (h:Q ⟨⟩ x):wpS M A E s (set x:StateT SortSt Sem PUnit) Q st:=by
 unfold wpS; rw [StateT.run_set]; exact wpAny_pure ⟨rfl,h⟩
theorem splice (k:Nat):∀ (r:List Keyed) (o:Nat) (arr:Array Keyed),k+o+r.length≤arr.size→((r.zipIdx o).foldl (fun a x=>a.setIfInBounds (k+x.snd) x.fst) arr).toList=arr.toList.take (k+o)++r++arr.toList.drop (k+o+r.length)
 | [],o,arr,h=>by simp
 | x :: r,o,arr,h=>by
  rw [List.zipIdx_cons,List.foldl_cons,splice k r (o+1) _ (by simp at h ⊢; omega)]
  have hlt:k+o<arr.size:=by simp at h; omega
  have e1:(arr.setIfInBounds (k+o) x).toList.take (k+(o+1))=arr.toList.take (k+o)++[x]:=by
   rw [Array.toList_setIfInBounds,show k+(o+1)=k+o+1 by omega,List.take_succ_eq_append_getElem (by simpa using hlt),List.take_set_of_le (Nat.le_refl _)]
   simp
  have e2:(arr.setIfInBounds (k+o) x).toList.drop (k+(o+1)+r.length)=arr.toList.drop (k+o+(x :: r).length):=by
   rw [Array.toList_setIfInBounds,List.drop_set_of_lt (by omega)]
   simp
   congr 1
   omega
  rw [e1,e2]
  simp
structure Tot (less:Keyed→Keyed→Bool) (xs:List Keyed):Prop where
 tr:∀ x∈xs,∀ y∈xs,∀ z∈xs,less x y=true→less y z=true→less x z=true
 ne:xs.Pairwise (fun x y=>less y x = !(less x y))
theorem Tot.perm {less:Keyed→Keyed→Bool} {xs ys:List Keyed} (T:Tot less xs) (h:ys.Perm xs):Tot less ys :=
 ⟨fun x hx y hy z hz=>T.tr x (h.mem_iff.mp hx) y (h.mem_iff.mp hy) z (h.mem_iff.mp hz),(h.pairwise_iff (fun {x y} e=>by rw [e,Bool.not_not])).mpr T.ne⟩
theorem Tot.at_ {less:Keyed→Keyed→Bool} {x:Array Keyed} (T:Tot less x.toList) {i j:Nat} (hi:i<x.size) (hj:j<x.size) (h:i≠j):less x[j] x[i] = !(less x[i] x[j]):=by
 rcases Nat.lt_or_gt_of_ne h with h | h
 ·have:=List.pairwise_iff_getElem.mp T.ne i j (by simpa using hi) (by simpa using hj) h
  simp only [Array.getElem_toList] at this
  exact this
 ·have:=List.pairwise_iff_getElem.mp T.ne j i (by simpa using hj) (by simpa using hi) h
  simp only [Array.getElem_toList] at this
  rw [this,Bool.not_not]
noncomputable def Srt (less:Keyed→Keyed→Bool) (x:Array Keyed) (lo hi:Nat):Prop:=∀ i j (hij:i<j) (hj:j<x.size),lo≤i→j<hi→less (x[i]'(by omega)) x[j]=true
theorem ex_at {x:Array Keyed} {i n:Nat} {z:Keyed} (h:z∈(x.extract i n).toList):∃ j,i≤j∧j<n∧∃ hj:j<x.size,z=x[j]:=by
 obtain ⟨j,hj,rfl⟩:=List.mem_iff_getElem.mp h
 have hj':j<min n x.size - i:=by simp at hj; omega
 exact ⟨i+j,by omega,by omega,by omega,by simp⟩
theorem pw_of {less:Keyed→Keyed→Bool} {x:Array Keyed} {i n:Nat} (h:Srt less x i n):(x.extract i n).toList.Pairwise (fun x y=>less x y=true):=by
 rw [List.pairwise_iff_getElem]
 intro p q hp hq hpq
 have hq':q<min n x.size - i:=by simp at hq; omega
 have:=h (i+p) (i+q) (by omega) (by omega) (by omega) (by omega)
 simpa using this
theorem srt_of {less:Keyed→Keyed→Bool} {x:Array Keyed} (h:Srt less x 0 x.size):x.toList.Pairwise (fun x y=>less x y=true):=by
 have:=pw_of h
 rw [ext_drop] at this
 simpa using this
section
variable {M:Model} {A:Around} {E:Value→Shared→Prop} {s:Shared} {less:Keyed→Keyed→Bool} {st:SortSt}
theorem merge0_ {Q:Bool→SortSt→Prop} {n1 n2 pw:Nat} (hp:pendingOf st = #[(0,n1,pw),(n1,n2,0)]) (hf:failedOf st=none) (hs:(arrOf st).size=n1+n2) (h1:0<n1) (h2:0<n2)
  (T:Tot less (arrOf st).toList) (s1:Srt less (arrOf st) 0 n1) (s2:Srt less (arrOf st) n1 (n1+n2)) (H:HL M A E s (kindOf st) less (arrOf st).toList) (hr:∀ {Q':Unit→Shared→Prop} (x:String),Q' () s→wpAny M A (rule x) Q' E s)
  (h:∀ arr' g,arr'.toList.Perm (arrOf st).toList→arr'.toList.Pairwise (fun x y=>less x y=true)→Q true (SortSt.mk' (kindOf st) arr' #[(0,n1+n2,pw)] g none)):wpS M A E s (mergeAt' 0) Q st:=by
 rw [mergeAt'_eq]
 refine wpS_bind (wpS_get ?_)
 rw [hp]
 dsimp only
 show wpS _ _ _ _ (set _ >>= _) _ _
 refine wpS_bind (wpS_set ?_)
 have hpend:(((#[(0,n1,pw),(n1,n2,0)]:Array (Nat×Nat×Nat)).setIfInBounds 0 (0,n1+n2,pw)).eraseIdxIfInBounds (0+1)) = #[(0,n1+n2,pw)]:=by
  apply Array.toList_inj.mp
  simp [Array.eraseIdxIfInBounds]
 rw [hpend]
 have hst:∀ Q':Bool→SortSt→Prop,True:=fun _=>trivial
 generalize hx:arrOf st=x at *
 rw [show setPending st #[(0,n1+n2,pw)]=SortSt.mk' (kindOf st) x #[(0,n1+n2,pw)] (gallopOf st) (failedOf st) from by rw [← hx]]
 have whole0:Srt less x 0 x.size→Q true (SortSt.mk' (kindOf st) x #[(0,n1+n2,pw)] (gallopOf st) none):=fun w=>h x _ (List.Perm.refl _) (srt_of w)
 refine wpS_bind (wpS_elem (show n1<x.size by omega) ?_)
 refine wpS_bind (gallop_ (st:=SortSt.mk' (kindOf st) x #[(0,n1+n2,pw)] (gallopOf st) (failedOf st)) (B:=fun i=>if hi:i<x.size then less x[i] (x[n1]'(by omega)) else false) (fun i hi Q hq => ?_) (fun i j hij hj hb => ?_) h1 fun k k1 k2 k3 => ?_)
 ·have hi':i<x.size:=by omega
  rw [dif_pos hi'] at hq
  refine bey_f (st:=SortSt.mk' (kindOf st) x #[(0,n1+n2,pw)] (gallopOf st) (failedOf st)) H (mem_at (show n1<x.size by omega)) (show 0+i<x.size by omega) (mem_at (show 0+i<x.size by omega)) Q ?_
  have:=T.at_ hi' (show n1<x.size by omega) (by omega)
  simp only [Nat.zero_add]
  rw [this,Bool.not_not]
  exact hq
 ·have hj':j<x.size:=by omega
  have hi':i<x.size:=by omega
  rw [dif_pos hj'] at hb
  rw [dif_pos hi']
  by_cases e:i=j
  ·subst e; exact hb
  ·exact T.tr _ (by simp) _ (by simp) _ (by simp) (s1 i j (by omega) hj' (by omega) hj) hb
 have low:∀ i (hi:i<k) (hi':i<x.size),less x[i] (x[n1]'(by omega))=true:=fun i hi hi'=>by
  have:=k2 i hi
  rw [dif_pos hi'] at this
  exact this
 have high:∀ i (hi:k≤i) (hi':i<n1),less (x[n1]'(by omega)) (x[i]'(by omega))=true:=fun i hi hi'=>by
  have:=k3 i hi hi'
  rw [dif_pos (show i<x.size by omega)] at this
  rw [T.at_ (show i<x.size by omega) (show n1<x.size by omega) (by omega),this]
  rfl
 have lowb:∀ i (hi:i<k) j (hj:n1≤j) (hj':j<x.size),less (x[i]'(by omega)) x[j]=true:=fun i hi j hj hj'=>by
  by_cases e:j=n1
  ·subst e; exact low i hi (by omega)
  ·exact T.tr _ (by simp) _ (by simp) _ (by simp) (low i hi (by omega)) (s2 n1 j (by omega) hj' (by omega) (by omega))
 dsimp only
 refine wpS_ite (fun c => ?_) fun c => ?_
 ·have hk:k=n1:=by simp at c; omega
  have hz:=whole0 fun i j hij hj _ _=>by
   by_cases e1:j<n1
   ·exact s1 i j hij hj (by omega) e1
   ·by_cases e2:n1≤i
    ·exact s2 i j hij hj e2 (by omega)
    ·exact lowb i (by omega) j (by omega) hj
  rw [← hf] at hz
  exact wpS_pure hz
 have hk:k<n1:=by simp at c; omega
 refine wpS_bind (wpS_elem (show 0+k+(n1 - k) - 1<x.size by omega) ?_)
 have ei:0+k+(n1 - k) - 1=n1 - 1:=by omega
 simp only [ei]
 refine wpS_bind (gallop_ (st:=SortSt.mk' (kindOf st) x #[(0,n1+n2,pw)] (gallopOf st) (failedOf st)) (B:=fun i=>if hi:n1+i<x.size then less x[n1+i] (x[n1 - 1]'(by omega)) else false) (fun i hi Q hq => ?_) (fun i j hij hj hb => ?_) (show n2 - 1<n2 by omega) fun m m1 m2 m3 => ?_)
 ·have hi':n1+i<x.size:=by omega
  rw [dif_pos hi'] at hq
  exact bey_t (st:=SortSt.mk' (kindOf st) x #[(0,n1+n2,pw)] (gallopOf st) (failedOf st)) H (mem_at (show n1 - 1<x.size by omega)) hi' (mem_at hi') Q hq
 ·have hj':n1+j<x.size:=by omega
  have hi':n1+i<x.size:=by omega
  rw [dif_pos hj'] at hb
  rw [dif_pos hi']
  by_cases e:i=j
  ·subst e; exact hb
  ·exact T.tr _ (by simp) _ (by simp) _ (by simp) (s2 (n1+i) (n1+j) (by omega) hj' (by omega) (by omega)) hb
 have low2:∀ i (hi:i<m) (hi':n1+i<x.size),less x[n1+i] (x[n1 - 1]'(by omega))=true:=fun i hi hi'=>by
  have:=m2 i hi
  rw [dif_pos hi'] at this
  exact this
 have high2:∀ i (hi:m≤i) (hi':i<n2),less (x[n1 - 1]'(by omega)) (x[n1+i]'(by omega))=true:=fun i hi hi'=>by
  have:=m3 i hi hi'
  rw [dif_pos (show n1+i<x.size by omega)] at this
  rw [T.at_ (show n1+i<x.size by omega) (show n1 - 1<x.size by omega) (by omega),this]
  rfl
 have higha:∀ i (hi:i<n1) j (hj:n1+m≤j) (hj':j<x.size),less (x[i]'(by omega)) x[j]=true:=fun i hi j hj hj'=>by
  have e0:=high2 (j - n1) (by omega) (by omega)
  simp only [show n1+(j - n1)=j by omega] at e0
  by_cases e:i=n1 - 1
  ·subst e; exact e0
  ·exact T.tr _ (by simp) _ (mem_at (show n1 - 1<x.size by omega)) _ (by simp) (s1 i (n1 - 1) (by omega) (by omega) (by omega) (by omega)) e0
 dsimp only
 refine wpS_ite (fun c2 => ?_) fun c2 => ?_
 ·have hm:m=0:=by simpa using c2
  have hz:=whole0 fun i j hij hj _ _=>by
   by_cases e1:j<n1
   ·exact s1 i j hij hj (by omega) e1
   ·by_cases e2:n1≤i
    ·exact s2 i j hij hj e2 (by omega)
    ·exact higha i (by omega) j (by omega) hj
  rw [← hf] at hz
  exact wpS_pure hz
 have hm:0<m:=by simp at c2; omega
 have hsub:∀ z∈(x.extract (0+k) n1).toList++(x.extract n1 (n1+m)).toList,z∈x.toList:=fun z hz=>by
  rcases List.mem_append.mp hz with hz | hz
  ·obtain ⟨j,_,_,hj,rfl⟩:=ex_at hz
   simp
  ·obtain ⟨j,_,_,hj,rfl⟩:=ex_at hz
   simp
 have C:AB less (x.extract (0+k) n1) (x.extract n1 (n1+m)):=by
  have z1:0<(x.extract (0+k) n1).size:=by simp; omega
  have z2:0<(x.extract n1 (n1+m)).size:=by simp; omega
  refine ⟨fun u hu v hv w hw=>T.tr u (hsub u hu) v (hsub v hv) w (hsub w hw),pw_of fun i j a b c d=>s1 i j a b (by omega) d,pw_of fun i j a b c d=>s2 i j a b c (by omega),fun u hu v hv => ?_,z1,z2,fun u hu => ?_,fun v hv => ?_⟩
  ·obtain ⟨i,i1,i2,hi,rfl⟩:=ex_at hu
   obtain ⟨j,j1,j2,hj,rfl⟩:=ex_at hv
   exact T.at_ hi hj (by omega)
  ·obtain ⟨i,i1,i2,hi,rfl⟩:=ex_at hu
   have:=high i (by omega) i2
   simpa using this
  ·obtain ⟨j,j1,j2,hj,rfl⟩:=ex_at hv
   have:=low2 (j - n1) (by omega) (by omega)
   simp only [show n1+(j - n1)=j by omega] at this
   have el:(x.extract (0+k) n1).size - 1=n1 - 1 - k:=by simp; omega
   simp only [Array.getElem_extract,el,show 0+k+(n1 - 1 - k)=n1 - 1 by omega]
   exact this
 have whole:∀ r,Rz less (x.extract (0+k) n1) (x.extract n1 (n1+m)) r→(r.toList.zipIdx.foldl (fun a x=>a.setIfInBounds (0+k+x.snd) x.fst) x).toList.Perm x.toList∧(r.toList.zipIdx.foldl (fun a x=>a.setIfInBounds (0+k+x.snd) x.fst) x).toList.Pairwise (fun x y=>less x y=true):=by
  rintro r ⟨r1,r2⟩
  have hlen:r.toList.length=n1+m - k:=by
   rw [r1.length_eq]
   simp
   omega
  rw [splice (0+k) r.toList 0 x (by omega),hlen]
  simp only [Nat.add_zero,Nat.zero_add] at r1 ⊢
  rw [show k+(n1+m - k)=n1+m by omega]
  have hdec:x.toList=x.toList.take k++((x.extract k n1).toList++(x.extract n1 (n1+m)).toList)++x.toList.drop (n1+m):=by
   have e1:(x.extract k n1).toList++(x.extract n1 (n1+m)).toList=(x.extract k (n1+m)).toList:=by
    rw [← Array.toList_append,Array.extract_append_extract]
    congr 2
    ·omega
    ·omega
   rw [e1,List.append_assoc,show n1+m=k+(n1+m - k) by omega,← drop_ext (by omega),List.take_append_drop]
  have mem:∀ v∈r.toList,(∃ j,k≤j∧j<n1∧∃ hj:j<x.size,v=x[j])∨∃ j,n1≤j∧j<n1+m∧∃ hj:j<x.size,v=x[j]:=fun v hv=>by
   rcases List.mem_append.mp (r1.mem_iff.mp hv) with hv | hv
   ·exact .inl (ex_at hv)
   ·exact .inr (ex_at hv)
  constructor
  ·conv=>rhs; rw [hdec]
   exact ((r1.append_left _).append_right _)
  ·refine List.pairwise_append.mpr ⟨List.pairwise_append.mpr ⟨?_,r2,fun u hu v hv => ?_⟩,?_,fun u hu w hw => ?_⟩
   ·have:=pw_of (x:=x) (i:=0) (n:=k) fun i j a b c d=>s1 i j a b c (by omega)
    rw [ext_take] at this
    exact this
   ·obtain ⟨i,i1,hi,rfl⟩:=take_at (List.mem_reverse.mpr hu)
    rcases mem v hv with ⟨j,j1,j2,hj,rfl⟩ | ⟨j,j1,j2,hj,rfl⟩
    ·exact s1 i j (by omega) hj (by omega) j2
    ·exact lowb i i1 j j1 hj
   ·have:=pw_of (x:=x) (i:=n1+m) (n:=x.size) fun i j a b c d=>s2 i j a b (by omega) (by omega)
    rw [ext_drop] at this
    exact this
   ·obtain ⟨j,j1,hj,rfl⟩:=drop_at hw
    rcases List.mem_append.mp hu with hu | hu
    ·obtain ⟨i,i1,hi,rfl⟩:=take_at (List.mem_reverse.mpr hu)
     exact lowb i i1 j (by omega) hj
    ·rcases mem u hu with ⟨i,i1,i2,hi,rfl⟩ | ⟨i,i1,i2,hi,rfl⟩
     ·exact higha i i2 j j1 hj
     ·exact s2 i j (by omega) hj i1 (by omega)
 refine wpS_ite (fun c3 => ?_) fun c3 => ?_
 ·refine wpS_bind (mergeLo_ (st:=SortSt.mk' (kindOf st) x #[(0,n1+n2,pw)] (gallopOf st) (failedOf st)) C (fun x hx y hy st Q e q=>H x (hsub x hx) y (hsub y hy) st Q e q) hr fun r g R => ?_)
  refine wpS_bind (wpS_modify (wpS_bind (wpS_get (wpS_pure ?_))))
  have hz:=h _ g (whole r R).1 (whole r R).2
  rw [← hf] at hz
  have hi:(failedOf st).isNone=true:=by rw [hf]; rfl
  rw [← hi] at hz
  exact hz
 ·refine wpS_bind (mergeHi_ (st:=SortSt.mk' (kindOf st) x #[(0,n1+n2,pw)] (gallopOf st) (failedOf st)) C (fun x hx y hy st Q e q=>H x (hsub x hx) y (hsub y hy) st Q e q) hr fun r g R => ?_)
  refine wpS_bind (wpS_modify (wpS_bind (wpS_get (wpS_pure ?_))))
  have hz:=h _ g (whole r R).1 (whole r R).2
  rw [← hf] at hz
  have hi:(failedOf st).isNone=true:=by rw [hf]; rfl
  rw [← hi] at hz
  exact hz
end
end TS
end
section
set_option maxHeartbeats 2000000
namespace TS
open PySem PyProof.Rows
section
variable {less:Keyed→Keyed→Bool} {x:Array Keyed}
theorem mir_at {i j k:Nat} (hj:j≤x.size) (hk:k<x.size):(mirror x i j ((j - i) / 2))[k]'(by rw [mirror_size]; exact hk)=if h:i≤k∧k<j then x[i+j - 1 - k]'(by omega) else x[k]:=by
 have e:=getElem?_mirror_all (i:=i) hj k
 rw [Array.getElem?_eq_getElem (by rw [mirror_size]; exact hk)] at e
 by_cases h:i≤k∧k<j
 ·rw [if_pos h,Array.getElem?_eq_getElem (by omega)] at e
  rw [dif_pos h]
  exact Option.some.inj e
 ·rw [if_neg h,Array.getElem?_eq_getElem hk] at e
  rw [dif_neg h]
  exact Option.some.inj e
theorem bub_at {src d k:Nat} (hs:src<x.size) (hd:d≤src) (hk:k<x.size):(bubble x src d)[k]'(by rw [bubble_size]; exact hk)=if k=src - d then x[src] else if src - d<k∧k≤src then x[k - 1]'(by omega) else x[k]:=by
 have e:=getElem?_bubble hs d hd k
 rw [Array.getElem?_eq_getElem (by rw [bubble_size]; exact hk)] at e
 by_cases h:k=src - d
 ·rw [if_pos h,Array.getElem?_eq_getElem hs] at e
  rw [if_pos h]
  exact Option.some.inj e
 ·rw [if_neg h] at e
  rw [if_neg h]
  by_cases h2:src - d<k∧k≤src
  ·rw [if_pos h2,Array.getElem?_eq_getElem (by omega)] at e
   rw [if_pos h2]
   exact Option.some.inj e
  ·rw [if_neg h2,Array.getElem?_eq_getElem hk] at e
   rw [if_neg h2]
   exact Option.some.inj e
noncomputable def Dsc (less:Keyed→Keyed→Bool) (x:Array Keyed) (lo hi:Nat):Prop:=∀ i j (hij:i<j) (hj:j<x.size),lo≤i→j<hi→less x[j] (x[i]'(by omega))=true
theorem Srt.next (T:Tot less x.toList) {lo m:Nat} (h:Srt less x lo (lo+m)) (h1:1≤m) (hm:lo+m<x.size) (e:less (x[lo+m - 1]'(by omega)) x[lo+m]=true):Srt less x lo (lo+(m+1)):=by
 intro i j hij hj hi hj2
 by_cases c:j<lo+m
 ·exact h i j hij hj hi c
 ·obtain rfl:j=lo+m:=by omega
  by_cases c2:i=lo+m - 1
  ·subst c2; exact e
  ·exact T.tr _ (mem_at (by omega)) _ (mem_at (by omega)) _ (mem_at (by omega)) (h i (lo+m - 1) (by omega) (by omega) hi (by omega)) e
theorem Dsc.next (T:Tot less x.toList) {lo m:Nat} (h:Dsc less x lo (lo+m)) (h1:1≤m) (hm:lo+m<x.size) (e:less x[lo+m] (x[lo+m - 1]'(by omega))=true):Dsc less x lo (lo+(m+1)):=by
 intro i j hij hj hi hj2
 by_cases c:j<lo+m
 ·exact h i j hij hj hi c
 ·obtain rfl:j=lo+m:=by omega
  by_cases c2:i=lo+m - 1
  ·subst c2; exact e
  ·exact T.tr _ (mem_at (by omega)) _ (mem_at (by omega)) _ (mem_at (by omega)) e (h i (lo+m - 1) (by omega) (by omega) hi (by omega))
theorem Srt.one {lo:Nat}:Srt less x lo (lo+1):=fun i j hij hj hi hj2=>by omega
noncomputable def Out_ (x y:Array Keyed) (lo hi:Nat):Prop:=y.size=x.size∧∀ k (h1:k<x.size) (h2:k<y.size),k<lo∨hi≤k→y[k]=x[k]
theorem Out_.refl {lo hi:Nat}:Out_ x x lo hi:=⟨rfl,fun _ _ _ _=>rfl⟩
end
section
variable {M:Model} {A:Around} {E:Value→Shared→Prop} {s:Shared} {less:Keyed→Keyed→Bool} {st:SortSt}
theorem ltAt_ {i j:Nat} {Q:Option Bool→SortSt→Prop} (H:HL M A E s (kindOf st) less (arrOf st).toList) (hi:i<(arrOf st).size) (hj:j<(arrOf st).size) (h:Q (some (less (arrOf st)[i] (arrOf st)[j])) st):wpS M A E s (ltAt' i j) Q st:=by
 rw [ltAt'_eq]
 refine wpS_bind (wpS_get ?_)
 dsimp only
 refine wpS_bind (wpS_elem hi (wpS_bind (wpS_elem hj ?_)))
 exact H _ (mem_at hi) _ (mem_at hj) st _ rfl h
theorem count_ {Q:Option Nat→SortSt→Prop} {lo nrem:Nat} (H:HL M A E s (kindOf st) less (arrOf st).toList) (T:Tot less (arrOf st).toList) (h1:1≤nrem) (hz:lo+nrem≤(arrOf st).size) (hr:∀ {Q':Unit→Shared→Prop} (x:String),Q' () s→wpAny M A (rule x) Q' E s)
  (h:∀ m y,1≤m→m≤nrem→y.toList.Perm (arrOf st).toList→Out_ (arrOf st) y lo (lo+nrem)→Srt less y lo (lo+m)→Q (some m) (setArr st y)):wpS M A E s (countRun' lo nrem) Q st:=by
 rw [countRun'_eq]
 obtain ⟨x,hx⟩:∃ x,x=arrOf st:=⟨_,rfl⟩
 rw [← hx] at T hz h
 have hxs:(arrOf st).size=x.size:=by rw [hx]
 have ES:setArr st x=st:=by rw [hx]
 have fin0:∀ m,1≤m→m≤nrem→Srt less x lo (lo+m)→Q (some m) st:=fun m a1 a2 a3=>by
  have:=h m x a1 a2 (List.Perm.refl _) Out_.refl a3
  rw [ES] at this
  exact this
 refine wpS_bind (wpS_mono (wpS_forRange (fun y c st'=>st=st'∧c=(none,y)∧Srt less (arrOf st) lo (lo+y)) (Q:=fun c st'=>st=st'∧∃ n,c=(none,n)∧1≤n∧n≤nrem∧Srt less (arrOf st) lo (lo+n)∧(n=nrem∨∃ h:lo+n<(arrOf st).size,less (arrOf st)[lo+n] ((arrOf st)[lo+n - 1]'(by omega))=true)) ?_ ?_ ⟨rfl,rfl,Srt.one⟩) ?_)
 ·rintro y c st' hy1 hy2 ⟨rfl,rfl,hS⟩
  dsimp only
  refine wpS_bind (ltAt_ H (show lo+y<(arrOf st).size by omega) (show lo+y - 1<(arrOf st).size by omega) ?_)
  dsimp only
  refine wpS_ite (fun e=>wpS_pure ⟨rfl,y,rfl,hy1,by omega,hS,.inr ⟨by omega,e⟩⟩) fun e=>wpS_pure ⟨rfl,rfl,?_⟩
  refine hS.next (hx ▸ T) (by omega) (by omega) ?_
  have:=Tot.at_ (hx ▸ T) (show lo+y - 1<(arrOf st).size by omega) (show lo+y<(arrOf st).size by omega) (by omega)
  rw [this] at e
  simpa using e
 ·rintro c st' ⟨rfl,rfl,hS⟩
  rw [Nat.max_eq_right (by omega)] at hS ⊢
  exact ⟨rfl,nrem,rfl,by omega,Nat.le_refl _,hS,.inl rfl⟩
 rintro c st' ⟨rfl,n,rfl,n1,n2,hS,hE⟩
 rw [← hx] at hS
 dsimp only
 refine wpS_ite (fun c1=>wpS_pure (fin0 n n1 n2 hS)) fun c1 => ?_
 have hn:n<nrem:=by simp at c1; omega
 refine wpS_ite (fun c2 => ?_) fun c2 => ?_
 ·refine wpS_bind (ltAt_ H (show lo<(arrOf st).size by rw [← hx]; omega) (show lo+n - 1<(arrOf st).size by rw [← hx]; omega) ?_)
  dsimp only
  refine wpS_ite (fun e=>wpS_pure (fin0 n n1 n2 hS)) fun e=>absurd ?_ e
  have:=hS lo (lo+n - 1) (by omega) (by omega) (Nat.le_refl _) (by omega)
  simpa only [hx] using this
 obtain rfl:n=1:=by omega
 have e0:less (x[lo+1]'(by omega)) (x[lo]'(by omega))=true:=by
  rcases hE with hE | ⟨hE,e⟩
  ·omega
  ·simpa only [hx,Nat.add_sub_cancel] using e
 refine wpS_bind (wpS_lift (hr _ ⟨rfl,?_⟩))
 refine wpS_bind (wpS_mono (wpS_forRange (fun y c st'=>st=st'∧c=(none,y,0)∧Dsc less x lo (lo+y)) (Q:=fun c st'=>st=st'∧∃ n,c=(none,n,0)∧2≤n∧n≤nrem∧Dsc less x lo (lo+n)) ?_ ?_ ⟨rfl,rfl,?_⟩) ?_)
 ·rintro y c st' hy1 hy2 ⟨rfl,rfl,hD⟩
  dsimp only
  refine wpS_bind (ltAt_ H (show lo+y<(arrOf st).size by rw [← hx]; omega) (show lo+y - 1<(arrOf st).size by rw [← hx]; omega) ?_)
  dsimp only
  refine wpS_ite (fun e => ?_) fun e => ?_
  ·refine wpS_ite (fun c3=>absurd c3 (by omega)) fun c3=>wpS_pure ⟨rfl,rfl,?_⟩
   exact hD.next T (by omega) (by omega) (by simpa only [hx] using e)
  ·refine wpS_bind (ltAt_ H (show lo+y - 1<(arrOf st).size by rw [← hx]; omega) (show lo+y<(arrOf st).size by rw [← hx]; omega) ?_)
   dsimp only
   refine wpS_ite (fun e2=>wpS_pure ⟨rfl,y,rfl,by omega,by omega,hD⟩) fun e2=>absurd ?_ e2
   have:=Tot.at_ T (show lo+y - 1<x.size by omega) (show lo+y<x.size by omega) (by omega)
   simp only [hx] at this
   rw [this] at e
   simpa using e
 ·rintro c st' ⟨rfl,rfl,hD⟩
  rw [Nat.max_eq_right (by omega)] at hD ⊢
  exact ⟨rfl,nrem,rfl,by omega,Nat.le_refl _,hD⟩
 ·intro i j hij hj hi hj2
  obtain rfl:i=lo:=by omega
  obtain rfl:j=i+1:=by omega
  exact e0
 rintro c st' ⟨rfl,n,rfl,n3,n4,hD⟩
 dsimp only
 refine wpS_ite (fun c3=>absurd c3 (by omega)) fun c3 => ?_
 rw [reverseSlice'_eq]
 refine wpS_bind (wpS_modify ?_)
 rw [← hx]
 obtain ⟨y,hy⟩:∃ y,y=mirror x lo (lo+n) ((lo+n - lo) / 2):=⟨_,rfl⟩
 rw [← hy]
 have hp:y.toList.Perm x.toList:=by rw [hy]; exact (mirror_perm _ _ _ _).toList
 have hsz:y.size=x.size:=by rw [hy,mirror_size]
 have hat:∀ k (hk:k<x.size) (hk':k<y.size),y[k]=if h:lo≤k∧k<lo+n then x[lo+(lo+n) - 1 - k]'(by omega) else x[k]:=fun k hk hk'=>by
  subst hy
  exact mir_at (by omega) hk
 have hO:Out_ x y lo (lo+nrem):=⟨hsz,fun k k1 k2 k3=>by rw [hat k k1 k2,dif_neg (by omega)]⟩
 have hS2:Srt less y lo (lo+n):=by
  intro i j hij hj hi hj2
  rw [hat i (by omega) (by omega),hat j (by omega) hj,dif_pos (by omega),dif_pos (by omega)]
  exact hD (lo+(lo+n) - 1 - j) (lo+(lo+n) - 1 - i) (by omega) (by omega) (by omega) (by omega)
 have T2:Tot less y.toList:=T.perm hp
 have H2:HL M A E s (kindOf (setArr st y)) less (arrOf (setArr st y)).toList:=fun u hu v hv=>H u (by rw [← hx]; exact hp.mem_iff.mp hu) v (by rw [← hx]; exact hp.mem_iff.mp hv)
 refine wpS_bind (wpS_mono (wpS_forRange (fun q c st'=>setArr st y=st'∧c=(none,q)∧Srt less y lo (lo+q)) (Q:=fun c st'=>setArr st y=st'∧∃ k0,c=(none,k0)∧n≤k0∧k0≤nrem∧Srt less y lo (lo+k0)∧True) ?_ ?_ ⟨rfl,rfl,hS2⟩) ?_)
 ·rintro q c st' hy1 hy2 ⟨rfl,rfl,hS⟩
  dsimp only
  refine wpS_bind (ltAt_ (st:=setArr st y) H2 (show lo+q<(y).size by omega) (show lo+q - 1<(y).size by omega) ?_)
  dsimp only
  refine wpS_ite (fun e=>wpS_pure ⟨rfl,q,rfl,hy1,by omega,hS,trivial⟩) fun e=>wpS_pure ⟨rfl,rfl,?_⟩
  refine hS.next T2 (by omega) (by omega) ?_
  have:=Tot.at_ T2 (show lo+q - 1<(y).size by omega) (show lo+q<(y).size by omega) (by omega)
  rw [this] at e
  simpa using e
 ·rintro c st' ⟨rfl,rfl,hS⟩
  rw [Nat.max_eq_right (by omega)] at hS ⊢
  exact ⟨rfl,nrem,rfl,by omega,Nat.le_refl _,hS,trivial⟩
 rintro c st' ⟨rfl,m,rfl,m1,m2,hS3,_⟩
 exact wpS_pure (h m y (by omega) m2 hp hO hS3)
theorem binary_ {Q:Bool→SortSt→Prop} {lo n ok:Nat} (H:HL M A E s (kindOf st) less (arrOf st).toList) (T:Tot less (arrOf st).toList) (h1:1≤ok) (hok:ok≤n) (hz:lo+n≤(arrOf st).size) (hs:Srt less (arrOf st) lo (lo+ok))
  (h:∀ y,y.toList.Perm (arrOf st).toList→Out_ (arrOf st) y lo (lo+n)→Srt less y lo (lo+n)→Q true (setArr st y)):wpS M A E s (binarySort' lo n ok) Q st:=by
 rw [binarySort'_eq]
 rw [show max ok 1=ok by omega]
 obtain ⟨x,hx⟩:∃ x,x=arrOf st:=⟨_,rfl⟩
 rw [← hx] at T hz h hs
 have ES:st=setArr st x:=by rw [hx]
 refine wpS_bind (wpS_mono (wpS_forRange (fun k c st'=>c=(none,())∧∃ y,st'=setArr st y∧y.toList.Perm x.toList∧Out_ x y lo (lo+n)∧Srt less y lo (lo+k)) (Q:=fun c st'=>c=(none,())∧∃ y,st'=setArr st y∧y.toList.Perm x.toList∧Out_ x y lo (lo+n)∧Srt less y lo (lo+n)) ?_ ?_ ⟨rfl,x,ES,List.Perm.refl _,Out_.refl,hs⟩) ?_)
 ·rintro k c st' hk1 hk2 ⟨rfl,y,rfl,hp,hO,hS⟩
  have T2:Tot less y.toList:=T.perm hp
  have H2:HL M A E s (kindOf (setArr st y)) less (arrOf (setArr st y)).toList:=fun u hu v hv=>H u (by rw [← hx]; exact hp.mem_iff.mp hu) v (by rw [← hx]; exact hp.mem_iff.mp hv)
  have hsz:=hO.1
  dsimp only
  refine wpS_bind (wpS_mono (wpS_forRange (fun z c st'=>st'=setArr st y∧∃ l r,c=(none,l,r)∧l≤r∧r≤k∧r - l+z≤k∧(∀ i (hi:i<l) (hi2:i<k),less (y[lo+i]'(by omega)) (y[lo+k]'(by omega))=true)∧∀ i (hi:r≤i) (hi2:i<k),less (y[lo+k]'(by omega)) (y[lo+i]'(by omega))=true)
   (Q:=fun c st'=>st'=setArr st y∧∃ l,c=(none,l,l)∧l≤k∧(∀ i (hi:i<l) (hi2:i<k),less (y[lo+i]'(by omega)) (y[lo+k]'(by omega))=true)∧∀ i (hi:l≤i) (hi2:i<k),less (y[lo+k]'(by omega)) (y[lo+i]'(by omega))=true) ?_ ?_ ⟨rfl,0,k,rfl,by omega,by omega,by omega,fun i hi hi2=>by omega,fun i hi hi2=>by omega⟩) ?_)
  ·rintro z c st' _ hz2 ⟨rfl,l,r,rfl,a1,a2,a3,a4,a5⟩
   dsimp only
   refine wpS_ite (fun c1 => ?_) fun c1 => ?_
   ·obtain rfl:l=r:=by omega
    exact wpS_pure ⟨rfl,l,rfl,a2,a4,a5⟩
   ·refine wpS_bind (ltAt_ (st:=setArr st y) H2 (show lo+k<y.size by omega) (show lo+(l+r) / 2<y.size by omega) ?_)
    dsimp only
    refine wpS_ite (fun e => ?_) fun e => ?_
    ·refine wpS_pure ⟨rfl,l,_,rfl,by omega,by omega,by omega,a4,fun i hi hi2 => ?_⟩
     by_cases c2:i=(l+r) / 2
     ·subst c2; exact e
     ·exact T2.tr _ (mem_at (by omega)) _ (mem_at (show lo+(l+r) / 2<y.size by omega)) _ (mem_at (by omega)) e (hS (lo+(l+r) / 2) (lo+i) (by omega) (by omega) (by omega) (by omega))
    ·refine wpS_pure ⟨rfl,_,r,rfl,by omega,by omega,by omega,fun i hi hi2 => ?_,a5⟩
     have e':less (y[lo+(l+r) / 2]'(by omega)) (y[lo+k]'(by omega))=true:=by
      have:=Tot.at_ T2 (show lo+(l+r) / 2<y.size by omega) (show lo+k<y.size by omega) (by omega)
      have e2:¬ less (y[lo+k]'(by omega)) (y[lo+(l+r) / 2]'(by omega))=true:=e
      rw [this] at e2
      simpa using e2
     by_cases c2:i=(l+r) / 2
     ·subst c2; exact e'
     ·exact T2.tr _ (mem_at (by omega)) _ (mem_at (show lo+(l+r) / 2<y.size by omega)) _ (mem_at (by omega)) (hS (lo+i) (lo+(l+r) / 2) (by omega) (by omega) (by omega) (by omega)) e'
  ·rintro c st' ⟨rfl,l,r,rfl,a1,a2,a3,a4,a5⟩
   rw [Nat.zero_max] at a3
   obtain rfl:l=r:=by omega
   exact ⟨rfl,l,rfl,a2,a4,a5⟩
  rintro c st' ⟨rfl,l,rfl,a2,a4,a5⟩
  dsimp only
  rw [moveDown'_eq]
  refine wpS_bind (wpS_modify (wpS_pure ?_))
  show _∧∃ v,SortSt.mk' _ _ _ _ _=setArr st v∧_
  obtain ⟨v,hv⟩:∃ v,v=bubble y (lo+k) (lo+k - (lo+l)):=⟨_,rfl⟩
  have hvs:v.size=y.size:=by rw [hv,bubble_size]
  have hat:∀ j (hj:j<y.size) (hj':j<v.size),v[j]=if j=lo+l then y[lo+k]'(by omega) else if lo+l<j∧j≤lo+k then y[j - 1]'(by omega) else y[j]:=fun j hj hj'=>by
   subst hv
   rw [bub_at (by omega) (by omega) hj]
   simp only [show lo+k - (lo+k - (lo+l))=lo+l by omega]
  refine ⟨rfl,v,by rw [hv],?_,⟨by omega,fun j j1 j2 j3 => ?_⟩,fun i j hij hj hi hj2 => ?_⟩
  ·rw [hv]
   exact (bubble_perm _ _ _).toList.trans hp
  ·rw [hat j (by omega) j2,if_neg (by omega),if_neg (by omega)]
   exact hO.2 j j1 (by omega) j3
  ·rw [hat i (by omega) (by omega),hat j (by omega) hj]
   by_cases c1:j=lo+l
   ·rw [if_pos c1,if_neg (by omega),if_neg (by omega)]
    have:=a4 (i - lo) (by omega) (by omega)
    simpa only [show lo+(i - lo)=i by omega] using this
   ·rw [if_neg c1]
    by_cases c2:lo+l<j∧j≤lo+k
    ·rw [if_pos c2]
     by_cases c3:i=lo+l
     ·rw [if_pos c3]
      have:=a5 (j - 1 - lo) (by omega) (by omega)
      simpa only [show lo+(j - 1 - lo)=j - 1 by omega] using this
     ·rw [if_neg c3]
      by_cases c4:lo+l<i∧i≤lo+k
      ·rw [if_pos c4]
       exact hS (i - 1) (j - 1) (by omega) (by omega) (by omega) (by omega)
      ·rw [if_neg c4]
       exact hS i (j - 1) (by omega) (by omega) (by omega) (by omega)
    ·rw [if_neg c2,if_neg (by omega),if_neg (by omega)]
     exact hS i j hij (by omega) hi (by omega)
 ·rintro c st' ⟨rfl,y,rfl,hp,hO,hS⟩
  rw [Nat.max_eq_right hok] at hS
  exact ⟨rfl,y,rfl,hp,hO,hS⟩
 ·rintro c st' ⟨rfl,y,rfl,hp,hO,hS⟩
  exact wpS_pure (h y hp hO hS)
end
end TS
end
section
set_option maxHeartbeats 2000000
namespace TS
open PySem PyProof.Rows
theorem mr_ok {n:Nat} (h2:2≤n) (h:n≤127):1≤minRun' n n 0∧minRun' n n 0≤n∧n≤2 * minRun' n n 0:=by
 obtain ⟨k,hk⟩:∃ k,n=k+2:=⟨n - 2,by omega⟩
 have e:minRun' n n 0=if n<64 then n+0 else if n / 2<64 then n / 2+max 0 (n % 2) else minRun' k (n / 2 / 2) (max (max 0 (n % 2)) (n / 2 % 2)):=by
  conv=>lhs; arg 1; rw [hk]
  rw [minRun'_succ,minRun'_succ]
 rw [e]
 by_cases c:n<64
 ·rw [if_pos c]; omega
 ·rw [if_neg c,if_pos (by omega)]; omega
section
variable {M:Model} {A:Around} {E:Value→Shared→Prop} {s:Shared} {less:Keyed→Keyed→Bool} {st:SortSt}
noncomputable abbrev ST (st:SortSt) (y:Array Keyed) (p:Array (Nat×Nat×Nat)) (g:Nat):SortSt:=SortSt.mk' (kindOf st) y p g none
noncomputable def Two (less:Keyed→Keyed→Bool) (x:Array Keyed) (st st':SortSt):Prop:=∃ y g,y.toList.Perm x.toList∧((∃ pw,st'=ST st y #[(0,x.size,pw)] g∧Srt less y 0 x.size)∨∃ n1 n2 pw,st'=ST st y #[(0,n1,pw),(n1,n2,0)] g∧0<n1∧0<n2∧n1+n2=x.size∧Srt less y 0 n1∧Srt less y n1 (n1+n2))
theorem runs_ {Q:Unit→SortSt→Prop} (H:HL M A E s (kindOf st) less (arrOf st).toList) (T:Tot less (arrOf st).toList) (hp:pendingOf st = #[]) (hf:failedOf st=none) (h2:2≤(arrOf st).size) (h127:(arrOf st).size≤127)
  (hr:∀ {Q':Unit→Shared→Prop} (x:String),Q' () s→wpAny M A (rule x) Q' E s) (h:∀ st',(arrOf st').toList.Perm (arrOf st).toList→(arrOf st').toList.Pairwise (fun x y=>less x y=true)→failedOf st'=none→Q () st'):wpS M A E s sortRuns' Q st:=by
 rw [sortRuns'_eq]
 refine wpS_bind (wpS_get ?_)
 obtain ⟨x,hx⟩:∃ x,x=arrOf st:=⟨_,rfl⟩
 dsimp only
 rw [← hx] at T h2 h127 h H ⊢
 have ES:st=ST st x #[] (gallopOf st):=by
  have e1:ST st x #[] (gallopOf st)=SortSt.mk' (kindOf st) (arrOf st) (pendingOf st) (gallopOf st) (failedOf st):=by rw [hp,hf,hx]
  rw [e1]
 obtain ⟨r1,r2,r3⟩:=mr_ok h2 h127
 generalize minRun' x.size x.size 0=mr at *
 have HH:∀ (y:Array Keyed) (p:Array (Nat×Nat×Nat)) (g:Nat),y.toList.Perm x.toList→HL M A E s (kindOf (ST st y p g)) less (arrOf (ST st y p g)).toList:=fun y p g hy u hu v hv=>H u (hy.mem_iff.mp hu) v (hy.mem_iff.mp hv)
 refine wpS_bind (wpS_mono (wpS_forRange (fun k c st'=>(k=0∧c=(none,0)∧st'=ST st x #[] (gallopOf st))∨(k=1∧∃ n1 y,c=(none,n1)∧st'=ST st y #[(0,n1,0)] (gallopOf st)∧y.toList.Perm x.toList∧Srt less y 0 n1∧mr≤n1∧n1<x.size)∨(c=(none,x.size)∧Two less x st st'))
  (Q:=fun c st'=>c=(none,x.size)∧Two less x st st') ?_ ?_ (.inl ⟨rfl,rfl,ES⟩)) ?_)
 ·rintro k c st' _ hk (⟨rfl,rfl,rfl⟩ | ⟨rfl,n1,y,rfl,rfl,hy,hS,g1,g2⟩ | ⟨rfl,hT⟩)
  ·dsimp only
   refine wpS_ite (fun c1=>absurd c1 (by omega)) fun _ => ?_
   refine wpS_bind (count_ (st:=ST st x #[] (gallopOf st)) (HH x #[] _ (List.Perm.refl _)) T (show 1≤x.size - 0 by omega) (show 0+(x.size - 0)≤x.size by omega) hr fun m y m1 m2 hy hO hS => ?_)
   have hsz:y.size=x.size:=hO.1
   have fin:∀ n z,1≤n→mr≤n→n≤x.size→z.toList.Perm x.toList→Srt less z 0 n→(0+1=0∧((none:Option Unit),0+n)=(none,0)∧ST st z #[(0,n,0)] (gallopOf st)=ST st x #[] (gallopOf st))∨(0+1=1∧∃ n1 y,((none:Option Unit),0+n)=(none,n1)∧ST st z #[(0,n,0)] (gallopOf st)=ST st y #[(0,n1,0)] (gallopOf st)∧y.toList.Perm x.toList∧Srt less y 0 n1∧mr≤n1∧n1<x.size)∨(((none:Option Unit),0+n)=(none,x.size)∧Two less x st (ST st z #[(0,n,0)] (gallopOf st))):=fun n z a1 a2 a3 a4 a5=>by
    by_cases c2:n<x.size
    ·exact .inr (.inl ⟨rfl,n,z,by rw [Nat.zero_add],rfl,a4,a5,a2,c2⟩)
    ·obtain rfl:n=x.size:=by omega
     exact .inr (.inr ⟨by rw [Nat.zero_add],z,_,a4,.inl ⟨0,rfl,a5⟩⟩)
   dsimp only
   refine wpS_ite (fun c1 => ?_) fun c1 => ?_
   ·refine wpS_bind (wpS_lift (hr _ ⟨rfl,?_⟩))
    rw [show min (x.size - 0) mr=mr by omega]
    refine wpS_bind (binary_ (st:=ST st y #[] (gallopOf st)) (HH y #[] _ hy) (T.perm hy) m1 (show m≤mr by omega) (show 0+mr≤y.size by omega) hS fun z hz hO2 hS2 => ?_)
    refine wpS_ite (fun c2=>absurd c2 (by simp)) fun _ => ?_
    refine wpS_bind (wpS_get ?_)
    show wpS _ _ _ _ (modify _ >>= _) _ _
    refine wpS_bind (wpS_modify (wpS_pure ?_))
    exact fin mr z r1 (Nat.le_refl _) r2 (hz.trans hy) (by simpa only [Nat.zero_add] using hS2)
   ·refine wpS_bind (wpS_get ?_)
    show wpS _ _ _ _ (modify _ >>= _) _ _
    refine wpS_bind (wpS_modify (wpS_pure ?_))
    exact fin m y m1 (by omega) (by omega) hy (by simpa only [Nat.zero_add] using hS)
  ·have hys:y.size=x.size:=by
    have:=hy.length_eq
    simpa using this
   dsimp only
   refine wpS_ite (fun c1=>absurd c1 (by omega)) fun _ => ?_
   refine wpS_bind (count_ (st:=ST st y #[(0,n1,0)] (gallopOf st)) (HH y _ _ hy) (T.perm hy) (show 1≤x.size - n1 by omega) (show n1+(x.size - n1)≤y.size by omega) hr fun m z m1 m2 hz hO hS2 => ?_)
   have hzs:z.size=y.size:=hO.1
   have low:∀ v:Array Keyed,Out_ y v n1 x.size→Srt less v 0 n1:=fun v hv i j hij hj hi hj2=>by
    rw [hv.2 i (by have:=hv.1; omega) (by omega) (.inl (by omega)),hv.2 j (by have:=hv.1; omega) hj (.inl hj2)]
    exact hS i j hij (by have:=hv.1; omega) hi hj2
   have fin:∀ v:Array Keyed,v.toList.Perm x.toList→Srt less v 0 n1→Srt less v n1 (n1+(x.size - n1))→∀ pw,(1+1=0∧((none:Option Unit),n1+(x.size - n1))=(none,0)∧ST st v #[(0,n1,pw),(n1,x.size - n1,0)] (gallopOf st)=ST st x #[] (gallopOf st))∨(1+1=1∧∃ m1 y,((none:Option Unit),n1+(x.size - n1))=(none,m1)∧ST st v #[(0,n1,pw),(n1,x.size - n1,0)] (gallopOf st)=ST st y #[(0,m1,0)] (gallopOf st)∧y.toList.Perm x.toList∧Srt less y 0 m1∧mr≤m1∧m1<x.size)∨(((none:Option Unit),n1+(x.size - n1))=(none,x.size)∧Two less x st (ST st v #[(0,n1,pw),(n1,x.size - n1,0)] (gallopOf st))):=fun v a1 a2 a3 pw =>
    .inr (.inr ⟨by rw [show n1+(x.size - n1)=x.size by omega],v,_,a1,.inr ⟨n1,x.size - n1,pw,rfl,by omega,by omega,by omega,a2,a3⟩⟩)
   have ex:n1+(x.size - n1)=x.size:=by omega
   dsimp only
   refine wpS_ite (fun c1 => ?_) fun c1 => ?_
   ·refine wpS_bind (wpS_lift (hr _ ⟨rfl,?_⟩))
    rw [show min (x.size - n1) mr=x.size - n1 by omega]
    refine wpS_bind (binary_ (st:=ST st z #[(0,n1,0)] (gallopOf st)) (HH z _ _ (hz.trans hy)) (T.perm (hz.trans hy)) m1 (show m≤x.size - n1 by omega) (show n1+(x.size - n1)≤z.size by omega) hS2 fun v hv hO2 hS3 => ?_)
    refine wpS_ite (fun c2=>absurd c2 (by simp)) fun _ => ?_
    have hO2:Out_ z v n1 (n1+(x.size - n1)):=hO2
    have hO:Out_ y z n1 (n1+(x.size - n1)):=hO
    have hO3:Out_ y v n1 x.size:=⟨by have:=hO2.1; omega,fun k k1 k2 k3=>by rw [ex] at hO hO2; rw [hO2.2 k (by omega) k2 k3,hO.2 k k1 (by omega) k3]⟩
    refine wpS_bind (wpS_get ?_)
    show wpS _ _ _ _ (forIn _ _ _ >>= _) _ _
    refine wpS_bind (wpS_mono (wpS_forRange (fun k c st'=>k=0∧c=(none,())∧st'=ST st v #[(0,n1,0)] (gallopOf st)) (Q:=fun c st'=>c=(none,())∧st'=ST st v #[(0,n1,0)] (gallopOf st)) ?_ ?_ ⟨rfl,rfl,rfl⟩) ?_)
    ·rintro k c st' _ _ ⟨rfl,rfl,rfl⟩
     refine wpS_bind (wpS_get ?_)
     exact wpS_pure ⟨rfl,rfl⟩
    ·rintro c st' ⟨h0,h1,h3⟩
     exact ⟨h1,h3⟩
    rintro c st' ⟨rfl,rfl⟩
    dsimp only
    refine wpS_bind (wpS_modify (wpS_bind (wpS_modify (wpS_pure ?_))))
    exact fin v (hv.trans (hz.trans hy)) (low v hO3) hS3 _
   ·obtain rfl:m=x.size - n1:=by omega
    have hO3:Out_ y z n1 x.size:=by rw [ex] at hO; exact hO
    refine wpS_bind (wpS_get ?_)
    show wpS _ _ _ _ (forIn _ _ _ >>= _) _ _
    refine wpS_bind (wpS_mono (wpS_forRange (fun k c st'=>k=0∧c=(none,())∧st'=ST st z #[(0,n1,0)] (gallopOf st)) (Q:=fun c st'=>c=(none,())∧st'=ST st z #[(0,n1,0)] (gallopOf st)) ?_ ?_ ⟨rfl,rfl,rfl⟩) ?_)
    ·rintro k c st' _ _ ⟨rfl,rfl,rfl⟩
     refine wpS_bind (wpS_get ?_)
     exact wpS_pure ⟨rfl,rfl⟩
    ·rintro c st' ⟨h0,h1,h3⟩
     exact ⟨h1,h3⟩
    rintro c st' ⟨rfl,rfl⟩
    dsimp only
    refine wpS_bind (wpS_modify (wpS_bind (wpS_modify (wpS_pure ?_))))
    exact fin z (hz.trans hy) (low z hO3) hS2 _
  ·dsimp only
   refine wpS_ite (fun _=>wpS_pure ⟨rfl,hT⟩) fun c1=>absurd (Nat.le_refl _) c1
 ·rintro c st' (⟨h0,_,_⟩ | ⟨h0,_⟩ | hT)
  ·omega
  ·omega
  ·exact hT
 rintro c st' ⟨rfl,hT⟩
 dsimp only
 refine wpS_bind (wpS_mono (wpS_forRange (fun k c st'=>c=(none,())∧Two less x st st'∧(k=0∨∃ y pw g,st'=ST st y #[(0,x.size,pw)] g)) (Q:=fun c st'=>c=(none,())∧∃ y pw g,st'=ST st y #[(0,x.size,pw)] g∧y.toList.Perm x.toList∧Srt less y 0 x.size) ?_ ?_ ⟨rfl,hT,.inl rfl⟩) ?_)
 ·rintro k c st' _ _ ⟨rfl,⟨y,g,hy,hT⟩,_⟩
  have hys:y.size=x.size:=by
   have:=hy.length_eq
   simpa using this
  refine wpS_bind (wpS_get ?_)
  rcases hT with ⟨pw,rfl,hS⟩ | ⟨n1,n2,pw,rfl,a1,a2,a3,a4,a5⟩
  ·refine wpS_ite (fun _=>wpS_pure ⟨rfl,y,pw,g,rfl,hy,hS⟩) fun c1=>absurd (Nat.le_refl 1) c1
  ·refine wpS_ite (fun c1=>absurd c1 (by show ¬ (2≤1); decide)) fun _ => ?_
   show wpS _ _ _ _ (mergeAt' 0 >>= _) _ _
   refine wpS_bind (merge0_ (st:=ST st y #[(0,n1,pw),(n1,n2,0)] g) rfl rfl (show y.size=n1+n2 by omega) a1 a2 (T.perm hy) a4 a5 (HH y _ _ hy) hr fun z g' hz1 hz2 => ?_)
   refine wpS_ite (fun c2=>absurd c2 (by simp)) fun _=>wpS_pure ⟨rfl,?_⟩
   have hzs:z.size=x.size:=by
    have:=(hz1.trans hy).length_eq
    simpa using this
   refine ⟨⟨z,g',hz1.trans hy,.inl ⟨pw,by rw [a3],fun i j hij hj _ _=>srt_at hz2 hij hj⟩⟩,.inr ⟨z,pw,g',by rw [a3]⟩⟩
 ·rintro c st' ⟨h0,⟨y,g,hy,hT⟩,h3⟩
  rcases h3 with h3 | ⟨y2,pw2,g2,h3⟩
  ·omega
  ·rcases hT with ⟨pw,rfl,hS⟩ | ⟨n1,n2,pw,rfl,a1,a2,a3,a4,a5⟩
   ·exact ⟨h0,y,pw,g,rfl,hy,hS⟩
   ·have:=congrArg pendingOf h3
    have h4:(#[(0,n1,pw),(n1,n2,0)]:Array (Nat×Nat×Nat)) = #[(0,x.size,pw2)]:=this
    have:=congrArg Array.size h4
    simp at this
 rintro c st' ⟨rfl,y,pw,g,rfl,hy,hS⟩
 have hys:y.size=x.size:=by
  have:=hy.length_eq
  simpa using this
 exact wpS_pure (h _ hy (srt_of (by rw [hys]; exact hS)) rfl)
end
end TS
end
section
set_option maxHeartbeats 2000000
namespace SO
open PySem PySem.W PyProof.Rows TS
section
variable {prog:Program} {w:World} {A:Around} {E:Value→Shared→Prop} {s:Shared}
theorem zip_self (vs:List Value):(vs.toArray.zip vs.toArray).toList=(List.range vs.length).map fun i=>(vs.getD i Value.none,vs.getD i Value.none):=by
 refine List.ext_getElem (by simp) fun i h1 h2 => ?_
 have hi:i<vs.length:=by simpa using h1
 simp [List.getD_eq_getElem?_getD,List.getElem?_eq_getElem hi]
theorem run128 {vs:List Value} {κ:SortKind} {lt:Nat→Nat→Bool} {Q:SortSt→Shared→Prop} (h2:2≤vs.length) (h128:vs.length<128)
  (inj:∀ i j,i<vs.length→j<vs.length→vs.getD i .none=vs.getD j .none→i=j)
  (hl:∀ (E:Value→Shared→Prop) (Q:Bool→Shared→Prop) (i j:Nat),i<vs.length→j<vs.length→Q (lt i j) s→wpAny (model prog w) A (keyLt' κ (vs.getD i .none) (vs.getD j .none)) Q E s) (O:Ord vs.length lt)
  (h:∀ (st':SortSt) (p:Array Nat),p.toList.Perm (List.range vs.length)→p.toList.Pairwise (fun i j=>lt i j=true)→arrOf st'=p.map (kas_item (vs.toArray.zip vs.toArray))→failedOf st'=none→Q st' s) :
  wpAny (model prog w) A ((sortRuns').run (SortSt.mk' κ (vs.toArray.zip vs.toArray) #[] 7 none)) (fun r s'=>Q r.2 s') E s:=by
 classical
 obtain ⟨idx,hidx⟩:∃ idx:Keyed→Nat,∀ i,i<vs.length→idx (vs.getD i Value.none,vs.getD i Value.none)=i:=by
  refine ⟨fun x=>if h:∃ i,i<vs.length∧vs.getD i Value.none=x.1 then Classical.choose h else 0,fun i hi => ?_⟩
  have h:∃ k,k<vs.length∧vs.getD k Value.none=vs.getD i Value.none:=⟨i,hi,rfl⟩
  dsimp only
  rw [dif_pos h]
  exact inj _ _ (Classical.choose_spec h).1 hi (Classical.choose_spec h).2
 have mem:∀ x∈(vs.toArray.zip vs.toArray).toList,∃ i,i<vs.length∧x=(vs.getD i Value.none,vs.getD i Value.none):=fun x hx=>by
  rw [zip_self] at hx
  obtain ⟨i,hi,rfl⟩:=List.mem_map.mp hx
  exact ⟨i,List.mem_range.mp hi,rfl⟩
 have hsz:(vs.toArray.zip vs.toArray).size=vs.length:=by simp
 have run:=runs_ (M:=model prog w) (A:=A) (E:=E) (s:=s) (less:=fun x y=>lt (idx x) (idx y)) (st:=SortSt.mk' κ (vs.toArray.zip vs.toArray) #[] 7 none) (Q:=fun _ st'=>Q st' s) ?H ?T rfl rfl (show 2≤(vs.toArray.zip vs.toArray).size by omega) (show (vs.toArray.zip vs.toArray).size≤127 by omega) (fun x q=>wpAny_rule q) ?K
 ·exact wpAny_mono run (fun r s' h'=>by obtain ⟨rfl,q⟩:=h'; exact q) fun _ _ e=>e
 case H =>
  intro x hx y hy st Q hk q
  obtain ⟨i,hi,rfl⟩:=mem x hx
  obtain ⟨j,hj,rfl⟩:=mem y hy
  rw [lt'_eq]
  refine wpS_bind (wpS_get ?_)
  have hk':kindOf st=κ:=hk
  rw [hk']
  refine wpS_bind (wpS_lift (wpAny_attempt (hl _ _ i j hi hj ⟨rfl,?_⟩)))
  dsimp only at q
  rw [hidx i hi,hidx j hj] at q
  exact wpS_pure q
 case T =>
  refine ⟨fun x hx y hy z hz h1 h2 => ?_,?_⟩
  ·obtain ⟨i,hi,rfl⟩:=mem x hx
   obtain ⟨j,hj,rfl⟩:=mem y hy
   obtain ⟨k,hk,rfl⟩:=mem z hz
   try dsimp only at h1 h2 ⊢
   rw [hidx i hi,hidx j hj] at h1
   rw [hidx j hj,hidx k hk] at h2
   rw [hidx i hi,hidx k hk]
   exact O.trn i j k hi hj hk h1 h2
  ·show List.Pairwise _ (vs.toArray.zip vs.toArray).toList
   rw [zip_self,List.pairwise_map]
   refine List.Pairwise.imp_of_mem (R:=fun i j=>i<j) (fun {i j} hi hj hij => ?_) (List.pairwise_lt_range)
   have hi':=List.mem_range.mp hi
   have hj':=List.mem_range.mp hj
   rw [hidx i hi',hidx j hj']
   cases e:lt i j with
   | true=>exact O.asy i j hi' hj' e
   | false=>exact O.tot i j hi' hj' (by omega) e
 case K =>
  intro st' hp hw hf
  have hp':(arrOf st').toList.Perm (vs.toArray.zip vs.toArray).toList:=hp
  have hm:∀ x∈(arrOf st').toList,∃ i,i<vs.length∧x=(vs.getD i Value.none,vs.getD i Value.none):=fun x hx=>mem x (hp'.mem_iff.mp hx)
  refine h st' ((arrOf st').map idx) ?_ ?_ ?_ hf
  ·rw [Array.toList_map]
   refine (hp'.map idx).trans (List.Perm.of_eq ?_)
   rw [zip_self,List.map_map]
   refine (List.map_congr_left fun i hi => ?_).trans (List.map_id _)
   exact hidx i (List.mem_range.mp hi)
  ·rw [Array.toList_map,List.pairwise_map]
   exact hw
  ·rw [Array.map_map]
   apply Array.toList_inj.mp
   rw [Array.toList_map]
   symm
   refine (List.map_congr_left fun x hx => ?_).trans (List.map_id _)
   obtain ⟨i,hi,rfl⟩:=hm x hx
   show kas_item (vs.toArray.zip vs.toArray) (idx _)=_
   rw [hidx i hi]
   exact kas_item_eq vs i
end
end SO
end
section
set_option maxHeartbeats 2000000
namespace DL
open PySem PySem.Spec PyProof.Rows L2 PySem.W
section
variable {X:Cx} {EX:EXT}
theorem vals_map {α:Type} {f:α→V} {g:α→Value}:∀ (l:List α),(∀ i∈l,RelV (f i) (g i))→Vals (l.map f) (l.map g)
 | [],_ => .nil
 | i :: l,h => .cons (h i (.head _)) (vals_map l fun j hj=>h j (.tail _ hj))
theorem reps_map {α:Type} {K:PySem.W.Frag} {O:List Addr} {H:Hp} {f:α→D} {g:α→V}:∀ (l:List α),(∀ i∈l,Rep K O H (f i) (g i))→Reps K O H (l.map f) (l.map g)
 | [],_=>Reps.nil_i.mpr rfl
 | i :: l,h=>Reps.cons_i.mpr ⟨_,_,rfl,h i (.head _),reps_map l fun j hj=>h j (.tail _ hj)⟩
end
end DL
namespace DL
open PySem PySem.Spec PyProof.Rows L2
section
variable {X:Cx} {EX:EXT} {e:Expr} {pos:Pos}
theorem pdf_callB {x : Str} {p : Pos} {es : List Expr} {id : String} {g : List D → Sto → Out (List D)} {f : DA} (hc : CallF X EX (.builtin id) g) (hg : Gl X x) (hm : X.mg x = none) (hv : bootBuiltins x = some (.builtin id)) (ha : PDA X EX (e :: es) f) (hn : x ≠ "__name__" := by decide) (hdb : (x == ("__debug__" : Str)) = false := by decide)
  (he:starEach (e :: es) X.env=(false,eval e X.env) :: starEach es X.env:=by rfl) (hpl:(backTo pos (starEach es X.env)).any (·.1)=false:=by rfl):PDF X EX (.Call (.Name x p) (e :: es) [] pos) (dCall g f):=PE.mono (pe_callB hc hg hm hv ha hn hdb he hpl) callF_imp
end
end DL
end
section
set_option maxHeartbeats 2000000
namespace HT
open PySem PySem.Builtin PySem.Builtin.Str
section
variable {prog:Program} {w:World} {A:Around} {E:Value→Shared→Prop} {s:Shared} {x y:Str} {t u:Tok} {Q:Value→Shared→Prop}
end
end HT
namespace DL
open PySem PySem.Spec PyProof.Rows L2
section
variable {X:Cx} {EX:EXT} {o a e:Expr} {es:List Expr} {fo fa:DE} {g:DA} {cpos apos:Pos}
end
end DL
namespace DL
open PySem PySem.Spec PyProof.Rows L2
end DL
end
section
namespace L2
open PySem PySem.Spec PyProof.Rows
end L2
namespace L2
open PySem PySem.Spec PyProof.Rows
section
variable (P:Program) (w:World)
end
section
variable {P:Program} {w:World} {H H':Hp} {h h':Heap} {a:Addr} {o:HO}
end
section
variable {P:Program} {w:World} {H:Hp} {h h':Heap} {x e:Addr} {o':HO}
end
section
variable {fs fs' ex ex':List Addr} {H H1 H2:Hp} {h h1 h2 h':Heap} {a x e:Addr} {o:HO}
end
end L2
namespace L2
open PySem PySem.Spec PyProof.Rows
section
variable {X:Cx} {pins:List (Addr×Obj)} {σ:List (Option V)} {H H':Hp} {s:Shared} {h':Heap}
end
end L2
namespace L2
open PySem PySem.Spec PyProof.Rows
section
variable {X:Cx}
variable {a b:Expr} {ta tb:TE} {pos:Pos}
variable {tA tB':TT} {rest:List Expr}
end
end L2
namespace L2
open PySem PySem.Spec PyProof.Rows
section
variable {X:Cx} {pins:List (Addr×Obj)} {σ:St} {H:Hp} {s:Shared} {a:Addr} {xs ys:List V}
end
section
variable {X:Cx} {pins:List (Addr×Obj)} {σ:St} {H:Hp} {s:Shared} {E:Value→Shared→Prop}
end
section
variable {X:Cx} {st:Stmt} {rest:List Stmt} {t u:TS} {e:Expr} {te:TE} {pos:Pos}
end
section
variable {X:Cx} {pos:Pos}
end
section
variable {X:Cx} {pos:Pos}
end
end L2
namespace L2
open PySem PySem.Spec PyProof.Rows
section
variable {X:Cx} {tg:Expr}
end
end L2
namespace L2
open PySem PySem.Spec PyProof.Rows
section
variable {X:Cx} {a b c:Expr} {ta tb tc:TE} {pos:Pos}
end
section
variable {X:Cx} {a b c:Expr} {ta tb tc:TE} {pos:Pos}
end
end L2
namespace L2
open PySem PySem.Spec PyProof.Rows
section
variable {prog:Program} {w:World} {A:Around} {E:Value→Shared→Prop} {s:Shared} {K:PySem.W.Frag} {x dx C f:Addr} {mA:Str→Option Value} {name:Str} {v:Value}
end
section
variable {P:Program} {w:World} {H H':Hp} {h h':Heap} {a C dx:Addr} {fs fs':List (Str×V)}
end
section
variable {X:Cx} {pins:List (Addr×Obj)} {σ:St} {H:Hp} {s:Shared} {a C dx:Addr} {fs:List (Str×V)} {f:Str} {v:V} {A:Around} {E:Value→Shared→Prop}
end
section
variable {X:Cx} {o e value:Expr} {f:Str} {pos pos' tpos:Pos} {ta tv:TE}
end
section
variable {X:Cx} {pins:List (Addr×Obj)} {σ:St} {H:Hp} {s:Shared} {A:Around} {E:Value→Shared→Prop} {Q:Value→Shared→Prop} {c:Value} {b:Bool}
end
end L2
namespace L2
open PySem PySem.Spec PyProof.Rows
section
variable {X:Cx} {e:Expr} {es:List Expr} {te:TE} {t:TA} {pos:Pos}
end
section
variable {X:Cx} {pins:List (Addr×Obj)} {σ:St} {H:Hp} {s s':Shared}
end
section
variable {X:Cx} {CX:CXT} {k:Nat} {f C:Addr} {fd:FuncData} {ps:List Str} {sp:Sp} {dvs:List V} {ds:List Value} {E:XK} {x m:Str} {p pos apos:Pos} {e o:Expr} {es:List Expr} {ta:TE} {t:TA}
end
section
variable {X:Cx} {CX:CXT} {k:Nat} {f C:Addr} {fd:FuncData} {ps ks:List Str} {sp:Sp} {E:XK} {x m:Str} {p pos apos kpos:Pos} {e o:Expr} {es:List Expr} {kws:List Keyword} {te ta:TE} {t tk:TA} {nm:Option Str}
variable {g:List Value→List Value→List Value} {gV:List V→List V→List V}
end
end L2
namespace L2
open PySem PySem.Spec PyProof.Rows
section
variable {X:Cx} {x:Str} {p pos:Pos} {e:Expr} {es:List Expr} {t:TA} {id T:String} {r:List V→Hp→VK→Prop}
end
end L2
namespace L2
open PySem PySem.Spec PyProof.Rows
section
variable {κ:Type} [DecidableEq κ]
noncomputable def valV (kvs:List (κ×V)) (k:κ):Option V:=(kvs.find? fun kv=>decide (kv.1=k)).map (·.2)
noncomputable def putK (kvs:List (κ×V)) (k:κ) (v:V):List (κ×V) :=
 if (kvs.any fun kv=>decide (kv.1=k))=true then kvs.map (fun kv=>if kv.1=k then (kv.1,v) else kv) else kvs++[(k,v)]
noncomputable def dropK (kvs:List (κ×V)) (k:κ):List (κ×V):=kvs.filter fun kv=>decide (kv.1≠k)
theorem valV_pos {p:κ×V} {r:List (κ×V)} {k:κ} (e:p.1=k):valV (p :: r) k=some p.2:=by simp [valV,List.find?_cons,e]
theorem valV_neg {p:κ×V} {r:List (κ×V)} {k:κ} (e:¬ p.1=k):valV (p :: r) k=valV r k:=by simp [valV,List.find?_cons,e]
theorem valV_any (k:κ):∀ kvs:List (κ×V),(kvs.any fun kv=>decide (kv.1=k))=(valV kvs k).isSome
 | []=>rfl
 | p :: r=>by
  rw [List.any_cons]
  by_cases e:p.1=k
  ·simp only [valV_pos e,decide_eq_true e,Bool.true_or,Option.isSome_some]
  ·rw [valV_neg e,decide_eq_false e,Bool.false_or]; exact valV_any k r
theorem length_putK (kvs:List (κ×V)) (k:κ) (v:V):(putK kvs k v).length≤kvs.length+1:=by
 unfold putK
 split
 ·rw [List.length_map]; omega
 ·rw [List.length_append,List.length_cons,List.length_nil]; omega
theorem RelO.isSome_eq {o:Option V} {u:Option Value} (r:RelO o u):o.isSome=u.isSome:=by
 cases o with
 | none=>cases u with
  | none=>rfl
  | some _=>exact (show False from r).elim
 | some _=>cases u with
  | none=>exact (show False from r).elim
  | some _=>rfl
theorem RelO.getD {o:Option V} {u:Option Value} {d:V} {d':Value} (r:RelO o u) (rd:RelV d d'):RelV (o.getD d) (u.getD d'):=by
 cases o with
 | none=>cases u with
  | none=>exact rd
  | some _=>exact (show False from r).elim
 | some _=>cases u with
  | none=>exact (show False from r).elim
  | some _=>exact r
theorem KV.val {kvs:List (κ×V)} {vs:List (κ×Value)} (r:KV kvs vs) (k:κ):RelO (valV kvs k) (valueAt vs k):=by
 unfold KV at r
 induction r with
 | nil=>exact True.intro
 | @cons p q ps qs h t ih =>
  obtain ⟨h1,h2⟩:=h
  by_cases e:p.1=k
  ·have e':q.1=k:=h1.symm.trans e
   have b:valueAt (q :: qs) k=some q.2:=by simp [valueAt,List.find?_cons,e']
   rw [valV_pos e,b]; exact h2
  ·have e':¬ q.1=k:=fun z=>e (h1.trans z)
   have b:valueAt (q :: qs) k=valueAt qs k:=by simp [valueAt,List.find?_cons,e']
   rw [valV_neg e,b]; exact ih
theorem KV.any {kvs:List (κ×V)} {vs:List (κ×Value)} (r:KV kvs vs) (k:κ):(kvs.any fun kv=>decide (kv.1=k))=vs.any fun kv=>decide (kv.1=k):=by
 unfold KV at r
 induction r with
 | nil=>rfl
 | cons h t ih=>rw [List.any_cons,List.any_cons,ih,h.1]
theorem KV.repl {kvs:List (κ×V)} {vs:List (κ×Value)} (r:KV kvs vs) (k:κ) {y:V} {u:Value} (ry:RelV y u) :
  KV (kvs.map fun kv=>if kv.1=k then (kv.1,y) else kv) (vs.map fun kv=>if kv.1=k then (kv.1,u) else kv):=by
 unfold KV at r ⊢
 induction r with
 | nil=>exact .nil
 | @cons p q ps qs h t ih =>
  rw [List.map_cons,List.map_cons]
  refine .cons ?_ ih
  obtain ⟨h1,h2⟩:=h
  by_cases e:p.1=k
  ·rw [if_pos e,if_pos (h1.symm.trans e)]; exact ⟨h1,ry⟩
  ·rw [if_neg e,if_neg (fun z=>e (h1.trans z))]; exact ⟨h1,h2⟩
theorem KV.put {kvs:List (κ×V)} {vs:List (κ×Value)} (r:KV kvs vs) (k:κ) {y:V} {u:Value} (ry:RelV y u):KV (putK kvs k y) (stored vs k u):=by
 unfold putK stored
 rw [r.any k]
 by_cases e:(vs.any fun kv=>decide (kv.1=k))=true
 ·rw [if_pos e,if_pos e]; exact r.repl k ry
 ·rw [if_neg e,if_neg e]; exact Paired.snoc r ⟨rfl,ry⟩
theorem KV.drop {kvs:List (κ×V)} {vs:List (κ×Value)} (r:KV kvs vs) (k:κ):KV (dropK kvs k) (without vs k):=by
 unfold KV at r ⊢
 unfold dropK without
 induction r with
 | nil=>exact .nil
 | @cons p q ps qs h t ih =>
  obtain ⟨h1,h2⟩:=h
  rw [List.filter_cons,List.filter_cons]
  by_cases e:p.1=k
  ·have a:¬ decide (p.1≠k)=true:=by simp [e]
   have b:¬ decide (q.1≠k)=true:=by simp [h1.symm.trans e]
   rw [if_neg a,if_neg b]; exact ih
  ·have e':¬ q.1=k:=fun z=>e (h1.trans z)
   have a:decide (p.1≠k)=true:=by simp [e]
   have b:decide (q.1≠k)=true:=by simp [e']
   rw [if_pos a,if_pos b]; exact .cons ⟨h1,h2⟩ ih
theorem KV.length {kvs:List (κ×V)} {vs:List (κ×Value)} (r:KV kvs vs):kvs.length=vs.length:=Paired.length r
end
theorem kV_is {P:Program} {w:World} {k:Key} {u:Value} (r:RelV (kV k) u):(mixKind P w).is k u=true:=by
 cases k with
 | inl i=>obtain ⟨t,e⟩:=(show ∃ t,u=Value.int i t from r); subst e; exact mixKind_int P w i t
 | inr x=>obtain ⟨t,e⟩:=(show ∃ t,u=Value.str x t from r); subst e; exact mixKind_str P w x t
theorem items_are {P:Program} {w:World}:∀ {ks:List Key} {us:List Value},Vals (ks.map kV) us→ItemsAre (mixKind P w) ks us
 | [],_,r=>by rw [List.map_nil] at r; cases r; exact .nil
 | k :: ks,_,r=>by
  rw [List.map_cons] at r
  cases r with
  | cons h t=>exact .cons (kV_is h) (items_are t)
noncomputable abbrev KT (H:Hp):List (List Key×V)→List (List Key×Addr×Value)→Prop:=Paired fun p q=>p.1=q.1∧H q.2.1=some (.tup (p.1.map kV))∧RelV p.2 q.2.2
theorem KT.val {H:Hp} {kvs:List (List Key×V)} {xs:List (List Key×Addr×Value)} (r:KT H kvs xs) (k:List Key):RelO (valV kvs k) ((atKey xs k).map (·.2)):=by
 induction r with
 | nil=>exact True.intro
 | @cons p q ps qs h t ih =>
  obtain ⟨h1,_,h2⟩:=h
  by_cases e:p.1=k
  ·have e':q.1=k:=h1.symm.trans e
   have b:atKey (q :: qs) k=some q.2:=by simp [atKey,List.find?_cons,e']
   rw [valV_pos e,b]; exact h2
  ·have e':¬ q.1=k:=fun z=>e (h1.trans z)
   have b:atKey (q :: qs) k=atKey qs k:=by simp [atKey,List.find?_cons,e']
   rw [valV_neg e,b]; exact ih
theorem KT.repl {H:Hp} {kvs:List (List Key×V)} {xs:List (List Key×Addr×Value)} (r:KT H kvs xs) (k:List Key) {y:V} {u:Value} (ry:RelV y u) :
  KT H (kvs.map fun kv=>if kv.1=k then (kv.1,y) else kv) (xs.map (putAt k u)):=by
 induction r with
 | nil=>exact .nil
 | @cons p q ps qs h t ih =>
  rw [List.map_cons,List.map_cons]
  refine .cons ?_ ih
  obtain ⟨h1,h2,h3⟩:=h
  unfold putAt
  by_cases e:p.1=k
  ·rw [if_pos e,if_pos (h1.symm.trans e)]; exact ⟨h1,h2,ry⟩
  ·rw [if_neg e,if_neg (fun z=>e (h1.trans z))]; exact ⟨h1,h2,h3⟩
theorem KT.put {H:Hp} {kvs:List (List Key×V)} {xs:List (List Key×Addr×Value)} (r:KT H kvs xs) (k:List Key) {b:Addr} {y:V} {u:Value} (hb:H b=some (.tup (k.map kV))) (ry:RelV y u) :
  KT H (putK kvs k y) (storedH xs k b u):=by
 have e:(kvs.any fun kv=>decide (kv.1=k))=(atKey xs k).isSome:=by
  rw [valV_any,(r.val k).isSome_eq,Option.isSome_map]
 unfold putK storedH
 rw [e]
 by_cases q:(atKey xs k).isSome=true
 ·rw [if_pos q,if_pos q]; exact r.repl k ry
 ·rw [if_neg q,if_neg q]; exact Paired.snoc r ⟨rfl,hb,ry⟩
theorem KT.keeps {H H':Hp} {kvs:List (List Key×V)} {xs:List (List Key×Addr×Value)} (r:KT H kvs xs) (ht:∀ b ys,H b=some (.tup ys)→H' b=some (.tup ys)):KT H' kvs xs :=
 Paired.mapP r fun _ _ z=>⟨z.1,ht _ _ z.2.1,z.2.2⟩
section
variable {P:Program} {w:World} {H:Hp} {h:Heap} {a:Addr}
theorem rd_of {u:HO} (ok:HOk P w H h) (e:Rd H a u):ObjOk P w H h a u:=e.ok ok
theorem dk_rd {kvs:List (Key×V)} (ok:HOk P w H h) (e:Rd H a (.dK kvs)):kvs.length≤sizeLine∧(a == sysModules)=false∧∃ vs,KV kvs vs∧h.DictOf (mixKind P w) a vs :=
 show ObjOk P w H h a (.dK kvs) from rd_of ok e
theorem dk_of {kvs:List (Key×V)} (ok:HOk P w H h) (e:H a=some (.dK kvs)):kvs.length≤sizeLine∧(a == sysModules)=false∧∃ vs,KV kvs vs∧h.DictOf (mixKind P w) a vs:=dk_rd ok (.inl e)
theorem key_of {ks:List Key} (ok:HOk P w H h) (e:H a=some (.tup (ks.map kV))):(tupleKind (mixKind P w)).is h ks a:=by
 obtain ⟨_,its,r,⟨o,h1,h2,n,h3⟩,_⟩:=(show ObjOk P w H h a (.tup (ks.map kV)) from ok a _ e)
 exact ⟨o,its.toArray,n,h1,h2,h3,by simpa using items_are r⟩
theorem dt_rd {kvs:List (List Key×V)} (ok:HOk P w H h) (e:Rd H a (.dT kvs)):kvs.length≤sizeLine∧(a == sysModules)=false ∧
  ∃ xs,KT H kvs xs∧h.DictOfH (tupleKind (mixKind P w)) a xs:=by
 obtain ⟨z,y,xs,r,o,es,ep,h1,h2,h3,h4,h5⟩:=(show ObjOk P w H h a (.dT kvs) from rd_of ok e)
 refine ⟨z,y,xs,r,o,es,ep,h1,h2,h3,h4,fun x hx => ?_,h5⟩
 have all:∀ {l:List (List Key×V)} {m:List (List Key×Addr×Value)},KT H l m→∀ x∈m,(tupleKind (mixKind P w)).is h x.1 x.2.1:=by
  intro l m q
  induction q with
  | nil=>intro x hx; exact nomatch hx
  | @cons p q ps qs hq t ih =>
   intro x hx
   rcases List.mem_cons.mp hx with e | hx
   ·subst e
    exact key_of ok (by rw [← hq.1]; exact hq.2.1)
   ·exact ih x hx
 exact all r x hx
theorem dt_of {kvs:List (List Key×V)} (ok:HOk P w H h) (e:H a=some (.dT kvs)):kvs.length≤sizeLine∧(a == sysModules)=false ∧
  ∃ xs,KT H kvs xs∧h.DictOfH (tupleKind (mixKind P w)) a xs:=dt_rd ok (.inl e)
end
noncomputable def DGet (H:Hp) (a:Addr) (y:V) (r:Option V):Prop :=
 (∃ kvs k,Rd H a (.dK kvs)∧y=kV k∧r=valV kvs k)∨∃ kvs k b,Rd H a (.dT kvs)∧y = .ref b∧H b=some (.tup (k.map kV))∧r=valV kvs k
noncomputable def DPut (H:Hp) (a:Addr) (y v:V) (H':Hp):Prop :=
 (∃ kvs k,H a=some (.dK kvs)∧y=kV k∧kvs.length<sizeLine∧H'=upd H a (.dK (putK kvs k v))) ∨
 ∃ kvs k b,H a=some (.dT kvs)∧y = .ref b∧H b=some (.tup (k.map kV))∧kvs.length<sizeLine∧H'=upd H a (.dT (putK kvs k v))
theorem DGet.k {H:Hp} {a:Addr} {kvs:List (Key×V)} {k:Key} (e:H a=some (.dK kvs)):DGet H a (kV k) (valV kvs k):=.inl ⟨kvs,k,.inl e,rfl,rfl⟩
theorem DGet.t {H:Hp} {a b:Addr} {kvs:List (List Key×V)} {k:List Key} (e:H a=some (.dT kvs)) (eb:H b=some (.tup (k.map kV))):DGet H a (.ref b) (valV kvs k):=.inr ⟨kvs,k,b,.inl e,rfl,eb,rfl⟩
theorem DPut.k {H:Hp} {a:Addr} {kvs:List (Key×V)} {k:Key} {v:V} (e:H a=some (.dK kvs)) (hl:kvs.length<sizeLine):DPut H a (kV k) v (upd H a (.dK (putK kvs k v))):=.inl ⟨kvs,k,e,rfl,hl,rfl⟩
theorem DPut.t {H:Hp} {a b:Addr} {kvs:List (List Key×V)} {k:List Key} {v:V} (e:H a=some (.dT kvs)) (eb:H b=some (.tup (k.map kV))) (hl:kvs.length<sizeLine) :
  DPut H a (.ref b) v (upd H a (.dT (putK kvs k v))):=.inr ⟨kvs,k,b,e,rfl,eb,hl,rfl⟩
section
variable {X:Cx} {pins:List (Addr×Obj)} {σ:St} {H:Hp} {s:Shared} {a:Addr} {y v:V} {u r:Value} {o:Option V} {A:Around} {E:Value→Shared→Prop}
theorem Inv.big (I:Inv X pins σ H s):sysModules<s.heap.objs.size:=by
 have h:mainGlobals<s.heap.objs.size:=(I.mod.glob.keeps I.bk).lt
 exact Nat.lt_trans (by decide) h
theorem d_getItem {Q:Value→Shared→Prop} (hu:A.units+1<cLine) (I:Inv X pins σ H s) (g:DGet H a y (some v)) (ry:RelV y u) (h:∀ w' s',Inv X pins σ H s'→RelV v w'→Q w' s') :
  wpAny (model X.prog X.w) A (getItem (.ref a) u) Q E s:=by
 rcases g with ⟨kvs,k,e,ey,l⟩ | ⟨kvs,k,b,e,ey,eb,l⟩
 ·subst ey
  obtain ⟨z,hd,vs,rel,dd⟩:=dk_rd I.hok e
  obtain ⟨w',hw,rw'⟩:=RelO.some_of (v:=v) (o:=valueAt vs k) (by rw [l]; exact rel.val k)
  exact wpAny_getItem_of (kV_is ry) dd.mapOf hw (h w' _ (I.tok _) rw')
 ·subst ey
  cases (show u=Value.ref b from ry)
  obtain ⟨z,hd,xs,rel,dd⟩:=dt_rd I.hok e
  obtain ⟨w',hw,rw'⟩:=RelO.some_of (v:=v) (o:=(atKey xs k).map (·.2)) (by rw [l]; exact rel.val k)
  obtain ⟨p,hp,hp2⟩:=Option.map_eq_some_iff.mp hw
  refine wpAny_getItem_heap (tupleKind_room_in1 hu) (key_of I.hok eb) dd hp ?_
  rw [hp2]
  exact h w' _ (I.tok _) rw'
theorem d_notIn {Q:Value→Shared→Prop} (hu:A.units+1<cLine) (I:Inv X pins σ H s) (g:DGet H a y o) (ry:RelV y u) (h:∀ s',Inv X pins σ H s'→Q (.bool (!o.isSome)) s') :
  wpAny (model X.prog X.w) A (compareOp .NotIn u (.ref a)) Q E s:=by
 rcases g with ⟨kvs,k,e,ey,l⟩ | ⟨kvs,k,b,e,ey,eb,l⟩
 ·subst ey
  obtain ⟨z,hd,vs,rel,dd⟩:=dk_rd I.hok e
  refine wpAny_notIn_of (kV_is ry) hd dd.mapOf ?_
  rw [← (rel.val k).isSome_eq,← l]
  exact h _ (I.tok _)
 ·subst ey
  cases (show u=Value.ref b from ry)
  obtain ⟨z,hd,xs,rel,dd⟩:=dt_rd I.hok e
  refine wpAny_notIn_heap (tupleKind_room_in1 hu) (key_of I.hok eb) hd dd ?_
  have q:=(rel.val k).isSome_eq
  rw [Option.isSome_map] at q
  rw [← q,← l]
  exact h _ (I.tok _)
theorem d_write {h':Heap} {t':Nat} {ob:HO} (I:Inv X pins σ H s) (mu:Mut (H a)) (hs:Heap.SameBut a s.heap h') (he:∃ q,h'.get? a=some q) (new:ObjOk X.prog X.w (upd H a ob) h' a ob) :
  Inv X pins σ (upd H a ob) { s with heap:=h',toks:=t' } :=
 I.write (x:=a) (e:=a) mu (.inl rfl) (fun b q hb z=>(hs.2 b hb).trans z) he new
theorem dk_new {P:Program} {w:World} {H':Hp} {h':Heap} {kvs:List (Key×V)} {vs:List (Key×Value)} (z:kvs.length≤sizeLine) (hd:(a == sysModules)=false) (rel:KV kvs vs) (dd:h'.DictOf (mixKind P w) a vs) :
  ObjOk P w H' h' a (.dK kvs):=⟨z,hd,vs,rel,dd⟩
theorem d_setItem {H':Hp} {Q:Unit→Shared→Prop} (hu:A.units+1<cLine) (I:Inv X pins σ H s) (g:DPut H a y v H') (ry:RelV y u) (rv:RelV v r) (h:∀ s',Inv X pins σ H' s'→Q () s') :
  wpAny (model X.prog X.w) A (setItem (.ref a) u r) Q E s:=by
 rcases g with ⟨kvs,k,e,ey,l,eH⟩ | ⟨kvs,k,b,e,ey,eb,l,eH⟩
 ·subst ey eH
  obtain ⟨z,hd,vs,rel,dd⟩:=dk_of I.hok e
  have hz:vs.length≤sizeLine:=by rw [← rel.length]; exact z
  have hl:(putK kvs k v).length≤sizeLine:=by have:=length_putK kvs k v; omega
  refine wpAny_setItem_pairs (hsz:=hz) (kV_is ry) dd fun h' dd' hs=>h _ ?_
  have he:∃ q,h'.get? a=some q:=let ⟨q,_,_,hq,_⟩:=dd'; ⟨q,hq⟩
  exact d_write I (by rw [e]; exact True.intro) hs he (dk_new hl hd (rel.put k rv) dd')
 ·subst ey eH
  cases (show u=Value.ref b from ry)
  obtain ⟨z,hd,xs,rel,dd⟩:=dt_of I.hok e
  have hz:xs.length≤sizeLine:=by rw [← Paired.length rel]; exact z
  have hl:(putK kvs k v).length≤sizeLine:=by have:=length_putK kvs k v; omega
  refine wpAny_setItem_heap (hsz:=hz) (tupleKind_room_in1 hu) (key_of I.hok eb) dd fun h' dd' hs=>h _ ?_
  obtain ⟨q,es,ep,hq,h2,h3,h4,_,h5⟩:=dd'
  refine d_write I (by rw [e]; exact True.intro) hs ⟨q,hq⟩ ⟨hl,hd,_,(rel.put k eb rv).keeps fun c ys ec => ?_,q,es,ep,hq,h2,h3,h4,h5⟩
  rw [upd_ne (ne_of ec e (fun z=>nomatch z))]
  exact ec
end
section
variable {X:Cx} {pins:List (Addr×Obj)} {σ:St} {H:Hp} {s:Shared} {a:Addr} {kvs:List (Key×V)} {k:Key} {u:Value} {A:Around} {E:Value→Shared→Prop}
theorem d_len {Q : Value → Shared → Prop} (I : Inv X pins σ H s) (e : Rd H a (.dK kvs)) (h : ∀ t s', Inv X pins σ H s' → Q (.int kvs.length t) s') : wpAny (model X.prog X.w) A (call (.builtin "len") [.ref a]) Q E s := by
 obtain ⟨z,hd,vs,rel,dd⟩:=dk_rd I.hok e
 refine call_len_dict hd dd (by rw [← rel.length]; rw [sizeLine_eq] at z; omega) ?_
 rw [← rel.length]
 exact h _ _ (I.tok _)
end
noncomputable def NoSl (i:Expr):Prop:=∀ ov iv,subscripted i false ov iv=operate [ov,iv] (getItem ov iv)
theorem subD_of {prog:Program} {w:World} {A:Around} {E:Value→Shared→Prop} {s:Shared} {env:Env} {value slice:Expr} {pos:Pos} {T id:String} {Q:Value→Shared→Prop}
  (hl : typeLookup (.type T) "__getitem__" = pure (some (.builtin id))) (hs : NoSl slice)
  (h:wpAny (model prog w) A (eval value env) (fun o s₁=>wpAny (model prog w) A (eval slice env) (fun i s₂=>s₂.TypeIs o T∧wpAny (model prog w) A (getItem o i) Q E s₂) E s₁) E s) :
  wpAny (model prog w) A (eval (.Subscript value slice pos) env) Q E s:=by
 refine Subscript_ (wpAny_mono h (fun o s₁ h₁=>wpAny_mono h₁ (fun i s₂ h₂ => ?_) fun _ _ x=>x) fun _ _ x=>x)
 obtain ⟨hT,h₂⟩:=h₂
 unfold subscriptTail
 refine wpAny_bind ?_
 rw [getitemInPython_of_ne hT.not_modules]
 refine wpAny_bind (wpAny_specialOf hT hl ?_)
 have fin:wpAny (model prog w) A (subscripted slice false o i) (fun r s₃=>wpAny (model prog w) A (letTemporaryGo value o r >>= fun _=>pure r) Q E s₃) E s₂:=by
  rw [hs o i]
  exact wpAny_operating (wpAny_mono h₂ (fun r s₃ h₃=>wpAny_bind (wpAny_letTemporaryGo (wpAny_pure h₃))) fun _ _ x=>x)
 first
  | exact wpAny_pure (wpAny_bind fin)
  | exact wpAny_bind (wpAny_pure (wpAny_bind fin))
  | exact wpAny_bind fin
theorem dict_typeIs {X : Cx} {pins : List (Addr × Obj)} {σ : St} {H : Hp} {s : Shared} {a : Addr} {y : V} {o : Option V} (I : Inv X pins σ H s) (g : DGet H a y o) : s.TypeIs (.ref a) "dict" := by
 rcases g with ⟨kvs,k,e,_,_⟩ | ⟨kvs,k,b,e,_,_,_⟩
 ·obtain ⟨_,_,vs,_,dd⟩:=dk_rd I.hok e
  exact dd.typeIs
 ·obtain ⟨_,_,xs,_,dd⟩:=dt_rd I.hok e
  exact dd.typeIs
noncomputable def tDGet (td ty:TE):TE:=fun σ H Q=>td σ H fun x H1=>ty σ H1 fun y H2 => ∃ a v,x = .ref a∧DGet H2 a y (some v)∧Q v H2
noncomputable def sDPut (td ty tv:TE):TS:=fun D σ H=>tv σ H fun v H1=>td σ H1 fun x H2=>ty σ H2 fun y H3 => ∃ a H4,x = .ref a∧DPut H3 a y v H4∧D.nx σ H4
section
variable {X:Cx} {o i e value:Expr} {pos pos' tpos:Pos} {td ty tv:TE}
theorem pe_dget (hu:X.A.units+1<cLine) (ho:PE X o td) (hi:PE X i ty) (hs:NoSl i):PE X (.Subscript o i pos) (tDGet td ty):=by
 intro pins s σ H Q I h
 refine subD_of PySem.F.slot_dict_getitem.lookup hs (thn (ho pins s σ H _ I h) fun u s1 ⟨x,H1,I1,rx,q1⟩=>thn (hi pins s1 σ H1 _ I1 q1) fun iv s2 ⟨y,H2,I2,ry,a,v,ex,g,q2⟩ => ?_)
 subst ex
 obtain rfl:u=Value.ref a:=rx
 exact ⟨dict_typeIs I2 g,d_getItem hu I2 g ry fun w' s3 I3 rw'=>⟨v,H2,I3,rw',q2⟩⟩
theorem ps_dput (hu:X.A.units+1<cLine) (ho:PE X o td) (hi:PE X i ty) (hv:PE X value tv) (hs:swapsWith value (some (.Subscript o i pos')) pos.line X.env=pure false) :
  PS X (.Assign [.Subscript o i pos'] value pos) (sDPut td ty tv):=by
 intro pins s σ H D I h
 refine wpAny_Assign_Subscript (thn (hv pins s σ H _ I h) fun r s1 ⟨v,H1,I1,rv,q1⟩=>thn (ho pins s1 σ H1 _ I1 q1) fun u s2 ⟨x,H2,I2,rx,q2⟩=>thn (hi pins s2 σ H2 _ I2 q2) fun iv s3 ⟨y,H3,I3,ry,a,H4,ex,g,q3⟩ => ?_) hs
 subst ex
 obtain rfl:u=Value.ref a:=rx
 exact d_setItem hu I3 g ry rv fun s4 I4=>⟨σ,H4,I4,q3⟩
end
theorem dt_empty {P : Program} {w : World} {H : Hp} (h : Heap) (hb : sysModules < h.objs.size) : ObjOk P w H (h.push { cls := .type "dict", data := .dict #[] }) h.objs.size (.dT []) :=
 ⟨Nat.zero_le _,beq_eq_false_iff_ne.mpr (Ne.symm (Nat.ne_of_lt hb)),[],.nil,_,#[],0,Heap.get?_push_size _ rfl,⟨rfl,rfl,rfl⟩,rfl,rfl,List.nodup_nil⟩
section
variable {X:Cx} {pos:Pos}
end
noncomputable def mergeK (kvs more:List (Key×V)):List (Key×V):=more.foldl (fun acc kv=>putK acc kv.1 kv.2) kvs
theorem KV.merge:∀ {more:List (Key×V)} {rs:List (Key×Value)} {kvs:List (Key×V)} {vs:List (Key×Value)},KV more rs→KV kvs vs→KV (mergeK kvs more) (merged vs rs):=by
 intro more rs kvs vs r
 unfold KV at r
 induction r generalizing kvs vs with
 | nil=>intro q; exact q
 | @cons p q ps qs h t ih =>
  intro r0
  have e:KV (putK kvs p.1 p.2) (stored vs q.1 q.2):=by
   have:=r0.put p.1 h.2
   rw [← h.1]; exact this
  exact ih e
structure M1 (X:Cx) (o:Expr) (m:Str) (apos:Pos) (e:Expr) (cpos:Pos):Prop where
 base:attributeBase o m X.env (eval o X.env)=eval o X.env
 few:((backTo cpos (starEach [e] X.env)).all (fun x => !x.1) && (backToKw cpos (keywordEach [] X.env)).all (fun x=>x.1.isSome)
  && decide (([e]:List Expr).length+([]:List Keyword).length+(if ([]:List Keyword).isEmpty then 0 else 1)<30))=true
 line:(apos.endLine == cpos.line)=true
 trees:backTo cpos (starEach [e] X.env)=[(false,eval e X.env)]
noncomputable def IsD (H:Hp) (a:Addr):Prop:=(∃ kvs,Rd H a (.dK kvs))∨∃ kvs,Rd H a (.dT kvs)
theorem isD_at {X:Cx} {pins:List (Addr×Obj)} {σ:St} {H:Hp} {s:Shared} {a:Addr} (I:Inv X pins σ H s) (d:IsD H a) :
  s.TypeIs (.ref a) "dict" ∧ (∀ b, Value.ref a = .ref b → ∃ ob, s.heap.get? b = some ob ∧ ob.dict = none) ∧ (a == sysModules) = false := by
 rcases d with ⟨kvs,e⟩ | ⟨kvs,e⟩
 ·obtain ⟨_,hd,vs,_,dd⟩:=dk_rd I.hok e
  refine ⟨dd.typeIs,fun b q => ?_,hd⟩
  cases q
  obtain ⟨ob,_,_,h1,h2,_⟩:=dd
  exact ⟨ob,h1,h2.2.1⟩
 ·obtain ⟨_,hd,xs,_,dd⟩:=dt_rd I.hok e
  refine ⟨dd.typeIs,fun b q => ?_,hd⟩
  cases q
  obtain ⟨ob,_,_,h1,h2,_⟩:=dd
  exact ⟨ob,h1,h2.2.1⟩
section
variable {X:Cx} {pins:List (Addr×Obj)} {σ:St} {H:Hp} {s:Shared} {a:Addr} {y d:V} {u r:Value} {o:Option V} {A:Around} {E:Value→Shared→Prop}
theorem d_get1 {Q:Value→Shared→Prop} (hu:A.units+1<cLine) (I:Inv X pins σ H s) (g:DGet H a y o) (ry:RelV y u) (h:∀ w' s',Inv X pins σ H s'→RelV (o.getD .non) w'→Q w' s') :
  wpAny (model X.prog X.w) A (call (.builtin "dict.get") [.ref a, u]) Q E s := by
 rcases g with ⟨kvs,k,e,ey,l⟩ | ⟨kvs,k,b,e,ey,eb,l⟩
 ·subst ey
  obtain ⟨z,hd,vs,rel,dd⟩:=dk_rd I.hok e
  refine call_meetsIn PySem.F.slot_dict_get dd.typeIs PySem.F.entry_dict_get (PySem.F.args_dict_get_2 _ _) (meets_dict_get (mixKind X.prog X.w) a (kV_is ry) hd) ⟨_,dd.mapOf,h _ _ (I.tok _) ?_⟩
  rw [l]
  exact (rel.val k).getD rfl
 ·subst ey
  cases (show u=Value.ref b from ry)
  obtain ⟨z,hd,xs,rel,dd⟩:=dt_rd I.hok e
  refine call_meetsIn PySem.F.slot_dict_get dd.typeIs PySem.F.entry_dict_get (PySem.F.args_dict_get_2 _ _) (meetsH_dict_get (tupleKind (mixKind X.prog X.w)) a b hd) ⟨tupleKind_room_in1 hu,k,xs,key_of I.hok eb,dd,h _ _ (I.tok _) ?_⟩
  rw [l]
  exact (rel.val k).getD rfl
end
noncomputable def tDGet1 (td ty:TE):TE:=fun σ H Q=>td σ H fun x H1 => ∃ a,x = .ref a∧IsD H1 a∧ty σ H1 fun y H2 => ∃ o,DGet H2 a y o∧Q (o.getD .non) H2
section
variable {X:Cx} {o e f:Expr} {apos cpos:Pos} {td ty tx:TE}
theorem pe_dget1 (hu : X.A.units + 1 < cLine) (ho : PE X o td) (he : PE X e ty) (m : M1 X o "get" apos e cpos) : PE X (.Call (.Attribute o "get" apos) [e] [] cpos) (tDGet1 td ty) := by
 intro pins s σ H Q I h
 refine wpAny_Call_method m.base m.few m.line PySem.F.plainAttrs_dict PySem.F.slot_dict_get PySem.F.type_dict_get (thn (ho pins s σ H _ I h) fun u s1 ⟨x,H1,I1,rx,a,ex,d,q1⟩ => ?_)
 subst ex
 obtain rfl:u=Value.ref a:=rx
 obtain ⟨t1,t2,_⟩:=isD_at I1 d
 refine ⟨t1,t2,?_⟩
 rw [m.trees]
 refine Calls.callWith_builtin rfl (Calls.evalArgs_plain (Calls.spliced_cons (thn (he pins s1 σ H1 _ I1 q1) fun iv s2 ⟨y,H2,I2,ry,ov,g,q2⟩=>Calls.spliced_nil ?_)))
 exact d_get1 hu I2 g ry fun w' s3 I3 rw'=>⟨_,H2,I3,rw',q2⟩
end
section
variable {X:Cx} {pins:List (Addr×Obj)} {σ:St} {H:Hp} {s:Shared} {a:Addr} {kvs:List (Key×V)} {A:Around} {E:Value→Shared→Prop}
end
section
variable {X:Cx} {pins:List (Addr×Obj)} {σ:St} {H:Hp} {s:Shared} {a:Addr} {y:V} {u:Value} {A:Around} {E:Value→Shared→Prop}
end
end L2
namespace Att
open PySem PySem.W PySem.Calls PyProof.Rows
section
variable {prog:Program} {w:World} {A:Around} {E:Value→Shared→Prop} {s:Shared} {K:Frag}
end
end Att
namespace L2
open PySem PySem.Spec PyProof.Rows
end L2
namespace L2
open PySem PySem.Spec PyProof.Rows
end L2
namespace L2
open PySem PySem.Spec PyProof.Rows
section
variable {P:Program} {w:World} {K:PySem.W.Frag} {mg:Str→Option Value} {base:Heap}
end
section
variable {X:Cx}
theorem call_lenD : CallR X (.builtin "len") (fun xs H Q => ∃ a kvs, xs = [V.ref a] ∧ H a = some (.dK kvs) ∧ Q (.int kvs.length) H) := by
 intro pins s σ H xs us Q I r h
 obtain ⟨a,kvs,rfl,ha,q⟩:=h
 obtain ⟨u,rfl,ru⟩:=vals1 r
 cases ru
 exact d_len I (.inl ha) fun t s' I'=>⟨.int kvs.length,H,I',⟨t,rfl⟩,q⟩
end
section
variable {κ:Type} [DecidableEq κ]
end
end L2
end
section
namespace DL
open PySem PySem.Spec PyProof.Rows L2
section
variable {κ:Type} [DecidableEq κ] (f:D→Option κ)
noncomputable def valD:List (D×D)→D→Option D
 | [],_=>none
 | p :: r,k=>if f p.1=f k then some p.2 else valD r k
noncomputable def hasD (ds:List (D×D)) (k:D):Bool:=ds.any fun p=>decide (f p.1=f k)
noncomputable def putD (ds:List (D×D)) (k v:D):List (D×D) :=
 if hasD f ds k=true then ds.map (fun p=>if f p.1=f k then (p.1,v) else p) else ds++[(k,v)]
end
noncomputable def RelO' (K:PySem.W.Frag) (O:List Addr) (H:Hp):Option D→Option V→Prop
 | none,none=>True
 | some d,some v=>Rep K O H d v
 | _,_=>False
section
variable {κ:Type} [DecidableEq κ] {f:D→Option κ} {K:PySem.W.Frag} {O:List Addr} {H:Hp}
theorem valD_has (k:D):∀ ds:List (D×D),hasD f ds k=(valD f ds k).isSome
 | []=>rfl
 | p :: r=>by
  unfold hasD
  rw [List.any_cons]
  by_cases e:f p.1=f k
  ·simp [valD,e]
  ·rw [decide_eq_false e,Bool.false_or]
   have:=valD_has k r
   unfold hasD at this
   rw [this,valD,if_neg e]
theorem kvs_val {k:D} {q:κ} (hk:f k=some q):∀ {ds:List (D×D)} {vs:List (κ×V)},Kvs K f O H ds vs→RelO' K O H (valD f ds k) (valV vs q)
 | [],vs,h=>by
  cases (show vs=[] from h)
  exact trivial
 | (a,d) :: ds,vs,h=>by
  obtain ⟨qa,v,r,rfl,ha,hr,ht⟩:=(show ∃ q v r,vs=(q,v) :: r∧f a=some q∧Rep K O H d v∧Kvs K f O H ds r from h)
  by_cases e:qa=q
  ·have e':f (a,d).1=f k:=by rw [hk]; show f a=_; rw [ha,e]
   rw [valD,if_pos e',valV_pos (p:=(qa,v)) e]
   exact hr
  ·have e':¬ f (a,d).1=f k:=by
    rw [hk]; show ¬ f a=_; rw [ha]; intro z; exact e (Option.some.inj z)
   rw [valD,if_neg e',valV_neg (p:=(qa,v)) e]
   exact kvs_val hk ht
theorem RelO'.isSome {a:Option D} {b:Option V} (h:RelO' K O H a b):b.isSome=a.isSome:=by
 cases a <;> cases b <;> first | rfl | exact h.elim
theorem kvs_len:∀ {ds:List (D×D)} {vs:List (κ×V)},Kvs K f O H ds vs→vs.length=ds.length
 | [],vs,h=>by
  cases (show vs=[] from h)
  rfl
 | (a,d) :: ds,vs,h=>by
  obtain ⟨qa,v,r,rfl,ha,hr,ht⟩:=(show ∃ q v r,vs=(q,v) :: r∧f a=some q∧Rep K O H d v∧Kvs K f O H ds r from h)
  simp [kvs_len ht]
theorem kvs_snoc {k d:D} {q:κ} {v:V} (hk:f k=some q) (hr:Rep K O H d v):∀ {ds:List (D×D)} {vs:List (κ×V)},Kvs K f O H ds vs→Kvs K f O H (ds++[(k,d)]) (vs++[(q,v)])
 | [],vs,h=>by
  cases (show vs=[] from h)
  exact ⟨q,v,[],rfl,hk,hr,rfl⟩
 | (a,d) :: ds,vs,h=>by
  obtain ⟨qa,w,r,rfl,ha,hw,ht⟩:=(show ∃ q v r,vs=(q,v) :: r∧f a=some q∧Rep K O H d v∧Kvs K f O H ds r from h)
  exact ⟨qa,w,r++[(q,v)],rfl,ha,hw,kvs_snoc hk hr ht⟩
theorem kvs_map {k d:D} {q:κ} {v:V} (hk:f k=some q) (hr:Rep K O H d v):∀ {ds:List (D×D)} {vs:List (κ×V)},Kvs K f O H ds vs →
  Kvs K f O H (ds.map fun p=>if f p.1=f k then (p.1,d) else p) (vs.map fun kv=>if kv.1=q then (kv.1,v) else kv)
 | [],vs,h=>by
  cases (show vs=[] from h)
  exact rfl
 | (a,e) :: ds,vs,h=>by
  obtain ⟨qa,w,r,rfl,ha,hw,ht⟩:=(show ∃ q v r,vs=(q,v) :: r∧f a=some q∧Rep K O H e v∧Kvs K f O H ds r from h)
  have ih:=kvs_map hk hr ht
  rw [List.map_cons,List.map_cons]
  by_cases z:qa=q
  ·have z':f (a,e).1=f k:=by rw [hk]; show f a=_; rw [ha,z]
   rw [if_pos z',if_pos (show (qa,w).1=q from z)]
   exact ⟨qa,v,_,rfl,ha,hr,ih⟩
  ·have z':¬ f (a,e).1=f k:=by
    rw [hk]; show ¬ f a=_; rw [ha]; intro y; exact z (Option.some.inj y)
   rw [if_neg z',if_neg (show ¬ (qa,w).1=q from z)]
   exact ⟨qa,w,_,rfl,ha,hw,ih⟩
theorem kvs_put {k d:D} {q:κ} {v:V} (hk:f k=some q) (hr:Rep K O H d v) {ds:List (D×D)} {vs:List (κ×V)} (h:Kvs K f O H ds vs):Kvs K f O H (putD f ds k d) (putK vs q v):=by
 unfold putD putK
 rw [valD_has,valV_any,(kvs_val hk h).isSome]
 split
 ·exact kvs_map hk hr h
 ·exact kvs_snoc hk hr h
end
theorem key_rep {K:PySem.W.Frag} {O:List Addr} {H:Hp} {d:D} {q:Key} {v:V} (h:keyD d=some q) (r:Rep K O H d v):v=kV q:=by
 cases d with
 | int i =>
  cases (show some (Sum.inl i)=some q from h)
  exact Rep.int_i.mp r
 | str x =>
  cases (show some (Sum.inr x)=some q from h)
  exact Rep.str_i.mp r
 | _=>cases h
theorem keys_rep {K:PySem.W.Frag} {O:List Addr} {H:Hp}:∀ {ds:List D} {qs:List Key} {vs:List V},keyDs ds=some qs→Reps K O H ds vs→vs=qs.map kV
 | [],qs,vs,h,r=>by
  cases (show some []=some qs from h)
  exact (by unfold Reps at r; exact r)
 | d :: ds,qs,vs,h,r=>by
  unfold keyDs at h
  unfold Reps at r
  obtain ⟨v,w,rfl,hv,hw⟩:=r
  split at h
  ·rename_i k ks h1 h2
   cases h
   rw [key_rep h1 hv,keys_rep h2 hw]
   rfl
  ·cases h
theorem keyT_rep {K:PySem.W.Frag} {O:List Addr} {H:Hp} {d:D} {q:List Key} {v:V} (h:keyT d=some q) (r:Rep K O H d v):∃ b,v = .ref b∧H b=some (.tup (q.map kV)):=by
 cases d with
 | tup ds =>
  rw [Rep.tup_i] at r
  obtain ⟨a,vs,rfl,e,rs⟩:=r
  have h':keyDs ds=some q:=h
  rw [keys_rep h' rs] at e
  exact ⟨a,rfl,e⟩
 | _=>cases h
noncomputable def dAt (st:Sto) (d k:D):Option (Option D):=match d with
 | .res i=>match st[i]? with
  | some (.dct ds)=>if (keyD k).isSome=true then some (valD keyD ds k) else none
  | some (.fdc ds)=>if (keyD k).isSome=true then some (valD keyD ds k) else none
  | some (.dtt ds)=>if (keyT k).isSome=true then some (valD keyT ds k) else none
  | _=>none
 | _=>none
theorem dAt_ok {K:PySem.W.Frag} {O:List Addr} {H:Hp} {st:Sto} {d k:D} {o:Option D} {x y:V} (W:WR K O H st) (h:dAt st d k=some o) (rx:Rep K O H d x) (ry:Rep K O H k y) :
  ∃ a ov,x = .ref a∧DGet H a y ov∧RelO' K O H o ov:=by
 cases d with
 | res i =>
  rw [Rep.res_i] at rx
  obtain ⟨a,rfl,q⟩:=rx
  unfold dAt at h
  dsimp only at h
  cases e:st[i]? with
  | none=>rw [e] at h; cases h
  | some s =>
   rw [e] at h
   cases s with
   | lst xs=>cases h
   | ins C fs=>cases h
   | dct ds =>
    obtain ⟨vs,e2,kv⟩:=W.at_ _ _ _ q e
    dsimp only at h
    cases hk:keyD k with
    | none=>rw [hk] at h; cases h
    | some c =>
     rw [hk] at h
     cases h
     cases key_rep hk ry
     exact ⟨a,_,rfl,DGet.k e2,kvs_val hk kv⟩
   | fdc ds =>
    obtain ⟨ob,vs,e2,kv⟩:=W.at_ _ _ _ q e
    dsimp only at h
    cases hk:keyD k with
    | none=>rw [hk] at h; cases h
    | some c =>
     rw [hk] at h
     cases h
     cases key_rep hk ry
     exact ⟨a,_,rfl,(.inl ⟨_,_,.inr ⟨_,e2⟩,rfl,rfl⟩),kvs_val hk kv⟩
   | dtt ds =>
    obtain ⟨vs,e2,kv⟩:=W.at_ _ _ _ q e
    dsimp only at h
    cases hk:keyT k with
    | none=>rw [hk] at h; cases h
    | some c =>
     rw [hk] at h
     cases h
     obtain ⟨b,rfl,hb⟩:=keyT_rep hk ry
     exact ⟨a,_,rfl,DGet.t e2 hb,kvs_val hk kv⟩
 | _=>cases h
noncomputable def dPutAt (st:Sto) (d k v:D):Option Sto:=match d with
 | .res i=>match st[i]? with
  | some (.dct ds)=>if (keyD k).isSome=true∧ds.length<small then some (st.set i (.dct (putD keyD ds k v))) else none
  | some (.dtt ds)=>if (keyT k).isSome=true∧ds.length<small then some (st.set i (.dtt (putD keyT ds k v))) else none
  | _=>none
 | _=>none
theorem dPut_ok {K:PySem.W.Frag} {O:List Addr} {H:Hp} {st st':Sto} {d k z:D} {x y w:V} (W:WR K O H st) (h:dPutAt st d k z=some st') (rx:Rep K O H d x) (ry:Rep K O H k y) (rw':Rep K O H z w) :
  ∃ a H',x = .ref a∧DPut H a y w H'∧Keep K O H O H'∧WR K O H' st':=by
 cases d with
 | res i =>
  rw [Rep.res_i] at rx
  obtain ⟨a,rfl,q⟩:=rx
  unfold dPutAt at h
  dsimp only at h
  cases e:st[i]? with
  | none=>rw [e] at h; cases h
  | some s =>
   rw [e] at h
   cases s with
   | lst xs=>cases h
   | ins C fs=>cases h
   | fdc ds=>cases h
   | dct ds =>
    obtain ⟨vs,e2,kv⟩:=W.at_ _ _ _ q e
    dsimp only at h
    split at h
    ·rename_i hc
     cases hk:keyD k with
     | none=>rw [hk] at hc; cases hc.1
     | some c =>
      cases h
      cases key_rep hk ry
      refine ⟨a,_,rfl,DPut.k e2 (by rw [kvs_len kv]; exact Nat.lt_of_lt_of_le hc.2 small_le),Keep.write W q,W.write q ?_⟩
      exact ⟨_,upd_same,Kvs.mono (Keep.write W q) _ _ (kvs_put hk rw' kv)⟩
    ·cases h
   | dtt ds =>
    obtain ⟨vs,e2,kv⟩:=W.at_ _ _ _ q e
    dsimp only at h
    split at h
    ·rename_i hc
     cases hk:keyT k with
     | none=>rw [hk] at hc; cases hc.1
     | some c =>
      cases h
      obtain ⟨b,rfl,hb⟩:=keyT_rep hk ry
      refine ⟨a,_,rfl,DPut.t e2 hb (by rw [kvs_len kv]; exact Nat.lt_of_lt_of_le hc.2 small_le),Keep.write W q,W.write q ?_⟩
      exact ⟨_,upd_same,Kvs.mono (Keep.write W q) _ _ (kvs_put hk rw' kv)⟩
    ·cases h
 | _=>cases h
noncomputable def getDd (fo fi:DE):DE:=fun ρ st=>(fo ρ st).bind fun d st1=>(fi ρ st1).bind fun k st2=>match dAt st2 d k with
 | some (some v) => .ok v st2
 | _ => .bad
noncomputable def notInDd:D→D→Sto→Out D:=fun k d st=>match dAt st d k with
 | some o => .ok (.bl (!o.isSome)) st
 | _ => .bad
noncomputable def sPutD (fo fi fv:DE):DS:=fun ρ st=>(fv ρ st).to fun v st1=>(fo ρ st1).to fun d st2=>(fi ρ st2).to fun k st3=>match dPutAt st3 d k v with
 | some st4 => .nx ρ st4
 | _ => .bad
section
variable {X:Cx} {EX:EXT} {a b c e o i:Expr} {fa fb fc fo fi fv:DE} {pos p p2 apos cpos:Pos}
theorem pd_dget (hu:X.A.units+64<cLine) (ho:PD X EX o fo) (hi:PD X EX i fi) (hs:NoSl i:=by intro _ _; rfl):PD X EX (.Subscript o i pos) (getDd fo fi):=by
 refine PE.mono (pe_dget (by omega) ho hi hs) ?_
 rintro σ H Q ⟨O,ρ,st,W,E,R⟩
 refine ⟨O,ρ,st,W,E,R.bind.mono fun d st1 O1 H1 k1 W1 R1 x rx => ?_⟩
 refine ⟨O1,ρ,st1,W1,E.mono k1,R1.bind.mono fun k st2 O2 H2 k2 W2 R2 y ry => ?_⟩
 split at R2
 ·rename_i v hv
  obtain ⟨a,ov,rfl,g,rel⟩:=dAt_ok W2 hv (Rep.mono k2 _ _ rx) ry
  cases ov with
  | none=>exact rel.elim
  | some w=>exact ⟨a,w,rfl,g,Run.now (k:=Val X.K Q) R2 W2 _ rel⟩
 ·exact R2.elim
theorem op_notInDd (hu:X.A.units+64<cLine):OpD X EX (compareOp .NotIn) notInDd:=by
 intro pins s σ H x y v u Q I rx ry h
 obtain ⟨O,k,d,st,W,rk,rd,R⟩:=h
 unfold notInDd at R
 split at R
 ·rename_i o ho
  obtain ⟨a,ov,rfl,g,rel⟩:=dAt_ok W ho rd rk
  cases (show u=Value.ref a from ry)
  refine d_notIn (by omega) I g rx fun s' I'=>⟨.bl (!ov.isSome),H,I',rfl,?_⟩
  rw [rel.isSome]
  exact Run.now (k:=Val X.K Q) R W _ (Rep.bl_i.mpr rfl)
 ·exact R.elim
theorem pd_dput (hu:X.A.units+64<cLine) (ho:PD X EX o fo) (hi:PD X EX i fi) (hv:PD X EX e fv) (hs:swapsWith e (some (.Subscript o i p)) pos.line X.env=pure false:=by rfl) :
  PDs X EX (.Assign [.Subscript o i p] e pos) (sPutD fo fi fv):=by
 refine PS.mono (ps_dput (by omega) ho hi hv hs) ?_
 rintro Dn σ H ⟨O,ρ,st,W,E,R⟩
 refine ⟨O,ρ,st,W,E,R.to.mono fun w st1 O1 H1 k1 W1 R1 v r => ?_⟩
 refine ⟨O1,ρ,st1,W1,E.mono k1,R1.to.mono fun d st2 O2 H2 k2 W2 R2 u r2 => ?_⟩
 refine ⟨O2,ρ,st2,W2,E.mono (k1.trans k2),R2.to.mono fun j st3 O3 H3 k3 W3 R3 z r3 => ?_⟩
 split at R3
 ·rename_i st4 h4
  obtain ⟨a,H4,rfl,g,kp,W4⟩:=dPut_ok W3 h4 (Rep.mono k3 _ _ r2) r3 (Rep.mono (k2.trans k3) _ _ r)
  exact ⟨a,H4,rfl,g,R3 O3 H4 σ kp W4 (E.mono (k1.trans (k2.trans (k3.trans kp))))⟩
 ·exact R3.elim
end
section
variable {X:Cx} {EX:EXT} {e o:Expr} {fa fo:DE} {pos:Pos} {C:Addr} {x:Str}
end
section
variable {fo fi fv:DE} {ρ:Ev} {st:Sto} {C:Addr} {x:Str}
theorem z_sPutD:sPutD fo fi fv ρ st=(fv ρ st).to fun v st1=>(fo ρ st1).to fun d st2=>(fi ρ st2).to fun k st3=>match dPutAt st3 d k v with
 | some st4 => .nx ρ st4
 | _ => .bad:=rfl
end
end DL
end
section
set_option maxHeartbeats 2000000
namespace SO
open PySem PySem.W PyProof.Rows
section
variable {prog:Program} {w:World} {A:Around} {E:Value→Shared→Prop} {s:Shared}
noncomputable def tltB (a b:Str):Bool:=decide (a.cps.toList<b.cps.toList)
noncomputable def tleB (a b:Str):Bool:=decide (a.cps.toList≤b.cps.toList)
theorem str_cps {a b:Str} (h:a.cps.toList=b.cps.toList):a=b:=by
 cases a; cases b
 simp only at h
 congr 1
 exact Array.toList_inj.mp h
theorem str_cmp {a:Addr} {vs:List Value} {ss:List Str} (h:StrsAre vs ss):Cmp prog w s a vs oneType' (fun i j=>tltB (ss.getD i default) (ss.getD j default)):=by
 refine ⟨fun h2 g A E Q hg hQ => ?_,fun h2 g A E Q i j hg hi hj hQ => ?_⟩
 ·match vs,h,h2 with
  | [],_,h2=>simp at h2
  | [_],_,h2=>simp at h2
  | v1 :: v2 :: vs,h,_ =>
   rw [keyKind_strs h]
   exact wpAny_pure hQ
 ·have hl:=h.length
  obtain ⟨t,h1⟩:=h.at (j:=i) (y:=ss.getD i default) (by rw [List.getD_eq_getElem?_getD,List.getElem?_eq_getElem (by omega)]; rfl)
  obtain ⟨u,h3⟩:=h.at (j:=j) (y:=ss.getD j default) (by rw [List.getD_eq_getElem?_getD,List.getElem?_eq_getElem (by omega)]; rfl)
  rw [List.getD_eq_getElem?_getD (l:=vs),List.getD_eq_getElem?_getD (l:=vs),h1,h3,keyLt'_oneType]
  exact oneLt_str hQ
theorem str_ord {ss:List Str} (hn:ss.Nodup):Ord ss.length (fun i j=>tltB (ss.getD i default) (ss.getD j default)):=by
 have apart:∀ i j,i<ss.length→j<ss.length→i≠j→(ss.getD i default).cps.toList≠(ss.getD j default).cps.toList:=fun i j hi hj ne e=>by
  have e':=str_cps e
  rw [List.getD_eq_getElem?_getD,List.getD_eq_getElem?_getD,List.getElem?_eq_getElem hi,List.getElem?_eq_getElem hj] at e'
  exact ne ((List.getElem_inj hn).mp e')
 refine ⟨fun i j hi hj ne h => ?_,fun i j hi hj h => ?_,fun i j k hi hj hk h1 h2 => ?_⟩
 ·have ha:=apart i j hi hj ne
  simp only [tltB,decide_eq_true_eq,decide_eq_false_iff_not] at *
  have h1:=List.not_lt.mp h
  by_cases h2:(ss.getD j default).cps.toList<(ss.getD i default).cps.toList
  ·exact h2
  ·exact absurd (List.le_antisymm (List.not_lt.mp h2) h1) ha
 ·simp only [tltB,decide_eq_true_eq,decide_eq_false_iff_not] at *
  exact fun h2=>List.lt_irrefl _ (List.lt_trans h h2)
 ·simp only [tltB,decide_eq_true_eq] at *
  exact List.lt_trans h1 h2
noncomputable def srtS (ss:List Str):List Str:=ss.mergeSort tleB
theorem srtS_perm (ss:List Str):(srtS ss).Perm ss:=List.mergeSort_perm _ _
theorem srtS_pw (ss:List Str):(srtS ss).Pairwise (fun a b=>tleB a b=true):=by
 refine List.pairwise_mergeSort (fun a b c h1 h2 => ?_) (fun a b => ?_) ss
 ·simp only [tleB,decide_eq_true_eq] at *
  exact List.le_trans h1 h2
 ·simp only [tleB,Bool.or_eq_true,decide_eq_true_eq]
  exact List.le_total _ _
theorem srtS_uniq {ss qs:List Str} (hp:qs.Perm ss) (hw:qs.Pairwise (fun a b=>tltB a b=true)):qs=srtS ss:=by
 refine List.Perm.eq_of_pairwise (le:=fun a b=>tleB a b=true) (fun a b _ _ h1 h2 => ?_) (hw.imp fun {a b} h => ?_) (srtS_pw ss) (hp.trans (srtS_perm ss).symm)
 ·simp only [tleB,decide_eq_true_eq] at h1 h2
  exact str_cps (List.le_antisymm h1 h2)
 ·simp only [tleB,tltB,decide_eq_true_eq] at *
  exact List.not_lt.mp fun h2=>List.lt_irrefl _ (List.lt_trans h h2)
end
end SO
namespace DL
open PySem PySem.Spec PyProof.Rows L2 PySem.W SO
noncomputable def strsD:List D→Option (List Str)
 | []=>some []
 | .str x :: ds=>(strsD ds).map (x :: ·)
 | _ :: _=>none
theorem strsD_eq:∀ {ds:List D} {ss:List Str},strsD ds=some ss→ds=ss.map D.str
 | [],ss,e=>by cases e; rfl
 | d :: ds,ss,e=>by
  unfold strsD at e
  split at e
  ·rename_i h; cases h
  ·rename_i x r h
   cases h
   obtain ⟨qs,h1,rfl⟩:=Option.map_eq_some_iff.mp e
   rw [strsD_eq h1]; rfl
  ·cases e
theorem strsD_map:∀ (ss:List Str),strsD (ss.map D.str)=some ss
 | []=>rfl
 | x :: ss=>by
  show (strsD (ss.map D.str)).map (x :: ·)=_
  rw [strsD_map ss]; rfl
noncomputable def sortSF:List D→Sto→Out (List D)
 | [d],st=>match seqL st d with
  | some xs=>match strsD xs with
   | some ss=>if ss.Nodup∧ss.length<64 then .ok ((srtS ss).map D.str) st else .bad
   | none => .bad
  | none => .bad
 | _,_ => .bad
theorem strsAre_of:∀ {vs:List Value} {ss:List Str},vs.length=ss.length→(∀ (i:Nat) (v:Value) (x:Str),vs[i]?=some v→ss[i]?=some x→∃ t,v = .str x t)→StrsAre vs ss
 | [],[],_,_ => .nil
 | [],_ :: _,h,_=>by cases h
 | _ :: _,[],h,_=>by cases h
 | v :: vs,x :: ss,h,k=>by
  obtain ⟨t,rfl⟩:=k 0 v x rfl rfl
  exact .cons x t (strsAre_of (by simpa using h) fun i v' x' h1 h2=>k (i+1) v' x' (by simpa using h1) (by simpa using h2))
section
variable {X:Cx} {EX:EXT}
theorem str_new {pins:List (Addr×Obj)} {s:Shared} {σ:L2.St} {H:Hp} {O:List Addr} {st:Sto} {Q:VK} {its:List Value} {ss:List Str} {ix:List Nat} {a:Addr} {h1 h':Heap} {tk c:Nat} (I:Inv X pins σ H s) (W:WR X.K O H st) (hs:StrsAre its ss)
  (R:Run X.K EX O H (.ok ((srtS ss).map D.str) st) (New X.K Q)) (hp:ix.Perm (List.range ss.length)) (hw:ix.Pairwise (fun i j=>tltB (ss.getD i default) (ss.getD j default)=true)) (h64:ss.length<64)
  (k1 : ∀ b o, s.heap.get? b = some o → h1.get? b = some o) (ha : h1.objs.size ≤ a) (hk : ∀ b o, h1.get? b = some o → h'.get? b = some o) (hg : h'.get? a = some (seqObj "list" (ix.map fun i => its.getD i .none).toArray c)) :
  ∃ v H',Inv X pins σ H' { s with heap:=h',toks:=tk }∧RelV v (.ref a)∧Q v H':=by
 have hl:=hs.length
 have hix:ix.map (fun i=>ss.getD i default)=srtS ss:=by
  refine srtS_uniq ?_ (List.pairwise_map.mpr hw)
  refine (hp.map (fun i=>ss.getD i default)).trans (List.Perm.of_eq ?_)
  refine List.ext_getElem (by simp) fun i h1 h2 => ?_
  simp [List.getD_eq_getElem?_getD,List.getElem?_eq_getElem h2]
 have hb:∀ i∈ix,i<ss.length:=fun i hi=>by
  have:=hp.mem_iff.mp hi
  simpa using this
 have I1:Inv X pins σ H { s with heap:=h1,toks:=tk }:=I.kept k1
 refine ⟨.ref a,upd H a (.lst (ix.map fun i=>V.str (ss.getD i default))),I1.laid hk ha ⟨?_,ix.map (fun i=>its.getD i .none),c,?_,hg⟩,rfl,?_⟩
 ·have h0:=hp.length_eq
  simp only [List.length_map,List.length_range] at h0 ⊢
  rw [sizeLine_eq]
  omega
 ·refine vals_map ix fun i hi => ?_
  have:=hb i hi
  obtain ⟨t,h3⟩:=hs.at (j:=i) (y:=ss.getD i default) (by rw [List.getD_eq_getElem?_getD,List.getElem?_eq_getElem this]; rfl)
  rw [List.getD_eq_getElem?_getD (l:=its),h3]
  exact ⟨t,rfl⟩
 ·refine Run.now (k:=New X.K Q) R W a _ ?_ (I1.hok.fresh ha)
  rw [← hix,List.map_map]
  exact reps_map ix fun i hi=>Rep.str_i.mpr rfl
theorem call_sortSF : CallF X EX (.builtin "sorted") sortSF := by
 intro pins s σ H xs us Q I rx h
 obtain ⟨O,ds,st,W,r,R⟩:=h
 unfold sortSF at R
 split at R
 ·rename_i d
  obtain ⟨v,rfl,rv⟩:=r.one_of
  split at R
  ·rename_i zs e
   split at R
   ·rename_i ss hss
    by_cases hc:ss.Nodup∧ss.length<64
    ·rw [if_pos hc] at R
     obtain ⟨p,vs,rfl,q,rs⟩:=rdL W rv e
     have hzs:=strsD_eq hss
     subst hzs
     cases rx with
     | cons r0 rt =>
      cases rt
      cases r0
      obtain ⟨its,rv',pl,hz⟩:=I.list q
      have hl1:=rv'.length
      have hl2:=rs.length
      rw [List.length_map] at hl2
      have sAll:StrsAre its ss:=by
       refine strsAre_of (by omega) fun i v x h1 h2 => ?_
       obtain ⟨y,h3,h4⟩:=rs.get (i:=i) (d:=D.str x) (by rw [List.getElem?_map,h2]; rfl)
       rw [Rep.str_i] at h4
       subst h4
       obtain ⟨u,h5,t,h6⟩:=rv'.get h3
       rw [h1] at h5
       cases h5
       exact ⟨t,h6⟩
      refine SO.sorted_keep (κ:=oneType') (lt:=fun i j=>tltB (ss.getD i default) (ss.getD j default)) pl.isList (by omega) (fun a h' ha hk=>str_cmp sAll) (by rw [← hl1,← hl2]; exact str_ord hc.1) fun ix hp hw a h' c ha hk hg => ?_
      rw [← hl1,← hl2] at hp
      exact str_new (h1:=s.heap) (tk:=s.toks) I W sAll R hp hw hc.2 (fun _ _ h=>h) ha hk hg
    ·rw [if_neg hc] at R; exact R.elim
   ·exact R.elim
  ·exact R.elim
 ·exact R.elim
end
end DL
end
section
set_option maxHeartbeats 2000000
namespace DL
open PySem PySem.Spec PyProof.Rows L2
section
variable {K:PySem.W.Frag} {O:List Addr} {H:Hp}
noncomputable def RPs (K:PySem.W.Frag) (O:List Addr) (H:Hp):List (D×D)→List (V×V)→Prop
 | [],vs=>vs=[]
 | p :: ps,vs => ∃ x y r,vs=(x,y) :: r∧Rep K O H p.1 x∧Rep K O H p.2 y∧RPs K O H ps r
theorem RPs.mono {O':List Addr} {H':Hp} (k:Keep K O H O' H'):∀ {ps:List (D×D)} {vs:List (V×V)},RPs K O H ps vs→RPs K O' H' ps vs
 | [],vs,h=>h
 | p :: ps,vs,h=>by
  obtain ⟨x,y,r,e,hx,hy,ht⟩:=(show ∃ x y r,vs=(x,y) :: r∧Rep K O H p.1 x∧Rep K O H p.2 y∧RPs K O H ps r from h)
  exact ⟨x,y,r,e,Rep.mono k _ _ hx,Rep.mono k _ _ hy,RPs.mono k ht⟩
end
section
variable {X:Cx} {EX:EXT} {e o i:Expr} {fo fi fe:DE} {pos apos cpos:Pos}
noncomputable def isDct (st:Sto) (d:D):Bool:=match d with
 | .res i=>match st[i]? with
  | some (.dct _)=>true
  | some (.dtt _)=>true
  | _=>false
 | _=>false
theorem isDct_ok {K:PySem.W.Frag} {O:List Addr} {H:Hp} {st:Sto} {d:D} {x:V} (W:WR K O H st) (h:isDct st d=true) (r:Rep K O H d x):∃ a,x = .ref a∧IsD H a:=by
 unfold isDct at h
 split at h
 ·rename_i j
  rw [Rep.res_i] at r
  obtain ⟨a,rfl,q⟩:=r
  split at h
  ·rename_i ds e
   obtain ⟨vs,e2,_⟩:=W.at_ _ _ _ q e
   exact ⟨a,rfl,.inl ⟨vs,.inl e2⟩⟩
  ·rename_i ds e
   obtain ⟨vs,e2,_⟩:=W.at_ _ _ _ q e
   exact ⟨a,rfl,.inr ⟨vs,.inl e2⟩⟩
  ·cases h
 ·cases h
noncomputable def dGet1 (fo fi:DE):DE:=fun ρ st=>(fo ρ st).bind fun d st1=>if isDct st1 d=true then (fi ρ st1).bind fun k st2=>(match dAt st2 d k with
 | some o => .ok (o.getD .non) st2
 | none => .bad) else .bad
theorem pd_dget1 (hu : X.A.units + 64 < cLine) (ho : PD X EX o fo) (hi : PD X EX i fi) (m : M1 X o "get" apos i cpos := by exact ⟨rfl, rfl, rfl, rfl⟩) : PD X EX (.Call (.Attribute o "get" apos) [i] [] cpos) (dGet1 fo fi) := by
 refine PE.mono (pe_dget1 (by omega) ho hi m) ?_
 rintro σ H Q ⟨O,ρ,st,W,E,R⟩
 refine ⟨O,ρ,st,W,E,R.bind.mono fun d st1 O1 H1 k1 W1 R1 x rx => ?_⟩
 by_cases hd:isDct st1 d=true
 ·rw [if_pos hd] at R1
  obtain ⟨a,rfl,ia⟩:=isDct_ok W1 hd rx
  refine ⟨a,rfl,ia,O1,ρ,st1,W1,E.mono k1,R1.bind.mono fun k st2 O2 H2 k2 W2 R2 y ry => ?_⟩
  split at R2
  ·rename_i ov hv
   obtain ⟨a',w,e,g,rel⟩:=dAt_ok W2 hv (Rep.mono k2 _ _ rx) ry
   cases e
   refine ⟨w,g,?_⟩
   cases ov with
   | none =>
    cases w with
    | none=>exact Run.now (k:=Val X.K Q) R2 W2 _ (Rep.non_i.mpr rfl)
    | some _=>exact rel.elim
   | some z =>
    cases w with
    | none=>exact rel.elim
    | some w=>exact Run.now (k:=Val X.K Q) R2 W2 _ rel
  ·exact R2.elim
 ·rw [if_neg hd] at R1; exact R1.elim
end
section
variable {fo fi fe:DE} {ρ:Ev} {st:Sto}
theorem z_dGet1:dGet1 fo fi ρ st=(fo ρ st).bind fun d st1=>if isDct st1 d=true then (fi ρ st1).bind fun k st2=>(match dAt st2 d k with
 | some o => .ok (o.getD .non) st2
 | none => .bad) else .bad:=rfl
end
end DL
end
section
set_option maxHeartbeats 2000000
namespace HT
open PySem PyProof.Rows
section
variable {prog:Program} {w:World} {A:Around} {E:Value→Shared→Prop} {s:Shared} {l:Addr} {vs:List Value}
end
end HT
namespace DL
open PySem PySem.Spec PyProof.Rows L2
section
variable {X:Cx} {EX:EXT}
end
end DL
namespace DL
open PySem PySem.Spec PyProof.Rows L2
section
variable {X:Cx} {EX:EXT} {pos:Pos}
end
end DL
namespace DL
open PySem PySem.Spec PyProof.Rows L2
end DL
end
section
set_option maxHeartbeats 2000000
namespace L2
open PySem PySem.Spec PyProof.Rows
section
variable {X:Cx} {tg:Expr}
end
end L2
namespace DL
open PySem PySem.Spec PyProof.Rows L2
section
variable {X:Cx} {EX:EXT} {tg a b c:Expr} {g:DA} {pos p:Pos}
end
end DL
end
section
namespace DL
open PySem PySem.Spec PyProof.Rows L2
section
variable {X:Cx} {EX:EXT} {e:Expr} {fa:DE} {pos p pT:Pos} {C:Addr}
end
end DL
end
section
namespace DL
open PySem PySem.Spec PyProof.Rows L2
section
variable {X:Cx} {pins:List (Addr×Obj)} {σ:L2.St} {H:Hp} {s:Shared} {d:Addr} {o:Obj} {vs:List (Key×V)}
theorem Inv.thaw (I:Inv X pins σ H s) (e:H d=some (.frz o (.dK vs))) (hn:∀ ob u,X.H₀ d≠some (.frz ob u)):Inv X pins σ (upd H d (.dK vs)) s:=by
 have ne:∀ b,H b=none→b≠d:=fun b q z=>by subst z; rw [e] at q; cases q
 refine ⟨I.ok,I.os,I.bare,⟨I.base.keep,I.base.slot,fun b ob q n hx => ?_,I.base.there,fun b xs q => ?_,fun b ob u q => ?_,fun b ps q => ?_⟩,I.loc,I.cell,?_,fun x c hx => ?_,fun p hp => ?_,fun b u q => ?_,I.len⟩
 ·have:=I.base.free b ob q n hx
  rw [upd_ne (ne b this)]; exact this
 ·have h:=I.base.tups b xs q
  rw [upd_ne]; exact h
  rintro rfl; rw [e] at h; cases h
 ·have h:=I.base.frzs b ob u q
  rw [upd_ne]; exact h
  rintro rfl; exact hn _ _ q
 ·obtain ⟨m,h⟩:=I.base.tbls b ps q
  refine ⟨m,?_⟩
  rw [upd_ne]; exact h
  rintro rfl; rw [e] at h; cases h
 ·have:=I.free
  rw [upd_ne (ne _ this)]; exact this
 ·have:=I.freeC x c hx
  rw [upd_ne (ne _ this)]; exact this
 ·obtain ⟨p1,p2,p3⟩:=I.pin p hp
  exact ⟨p1,by rw [upd_ne (ne _ p2)]; exact p2,p3⟩
 ·have st:∀ {b u},ObjOk X.prog X.w H s.heap b u→ObjOk X.prog X.w (upd H d (.dK vs)) s.heap b u:=fun x=>x.stay (fun b u _ q=>q) (fun c r=>by rw [upd_ne (fun z=>by rw [z,e] at r; cases r)]; exact r) fun c xs r=>by rw [upd_ne (fun z=>by rw [z,e] at r; cases r)]; exact r
  by_cases hb:b=d
  ·subst hb
   rw [upd_same] at q
   cases q
   exact st (I.hok b _ e).2
  ·rw [upd_ne hb] at q
   exact st (I.hok b u q)
end
section
variable {X:Cx} {EX:EXT} {caps:List Nat} {nT:Nat} {tg iter:Expr} {f:DE} {t:TgD} {cond:DT} {fe:DE}
end
end DL
end
section
namespace DL
open PySem PySem.Spec PyProof.Rows L2
section
variable {M:Model} {A:Around} {E:Value→Shared→Prop} {s:Shared} {base:Heap} {env:Env} {outer:List Env} {L e:Addr} {cls a0 fl:Value}
end
section
variable {X:Cx} {EX:EXT} {pins:List (Addr×Obj)} {σ:L2.St} {H:Hp} {s:Shared}
end
section
variable {prog:Program} {w:World} {A:Around} {E:Value→Shared→Prop} {R:Result→Shared→Prop} {s:Shared}
end
section
variable {X:Cx} {pins:List (Addr×Obj)} {σ:L2.St} {H:Hp} {s:Shared} {scope:Scope} {N:List Str} {fp:List Addr}
end
section
variable {X:Cx} {EX:EXT} {scope:Scope} {N:List Str} {caps:List Nat} {nT:Nat} {elt tg iter:Expr} {ifs:List Expr} {pos:Pos} {f:DI} {t:TgD} {cond:DT} {fe:DE}
end
end DL
namespace DL
open PySem PySem.Spec PyProof.Rows L2
section
variable {X:Cx} {EX:EXT} {e o:Expr} {es:List Expr} {pos p apos:Pos} {x m:Str} {k j:Nat} {F:FD} {g:DA} {C:Addr} {fo:DE}
end
end DL
end
section
namespace DL
open PySem PySem.Spec PyProof.Rows L2
section
variable {X:Cx} {EX:EXT} {e k:Expr} {pos p2:Pos} {fa fk:DE}
end
end DL
end
section
namespace DL
open PySem PySem.Spec PyProof.Rows L2
theorem lay_led (t:SetTable) (es:Array (Int×Value)) (h:Int) (x:Value):(layNew t es h x).2.1.led=t.led∧((layNew t es h x).2.1.plain=true→t.plain=true):=by
 unfold layNew
 cases t.freeSlot h with
 | none=>exact ⟨rfl,fun z=>by cases z⟩
 | some p =>
  obtain ⟨j,d⟩:=p
  dsimp only
  unfold SetTable.orStandIn
  split
  ·exact ⟨rfl,fun z=>z⟩
  ·exact ⟨rfl,fun z=>by cases z⟩
theorem laid_led {mask finger moves:Nat} {led plain:Bool} {hs:Array Int} {t:SetTable} {o:Array Nat} (h:SetTable.laid mask finger moves led plain hs=some (t,o)):t.led=led∧t.plain=plain:=by
 unfold SetTable.laid at h
 cases hc:SetTable.layClean mask hs with
 | none=>rw [hc] at h; cases h
 | some ow =>
  rw [hc] at h
  have h':=Option.some.inj h
  cases h'
  exact ⟨rfl,rfl⟩
theorem relay_led (t:SetTable) (es:Array (Int×Value)) (k:Nat):(relayAll t es k).2.1.led=t.led∧((relayAll t es k).2.1.plain=true→t.plain=true):=by
 unfold relayAll
 cases hr:t.relaid (es.map (·.1)) k with
 | none=>exact ⟨rfl,fun z=>by cases z⟩
 | some p =>
  obtain ⟨t',o⟩:=p
  obtain ⟨h1,h2⟩:=laid_led hr
  dsimp only
  split
  ·exact ⟨h1,fun z=>by rw [← h2]; exact z⟩
  ·exact ⟨rfl,fun z=>by cases z⟩
noncomputable def byT (w : World) : Bool := w.params.followText "set-order"
structure TabT (w:World) (t:SetTable) (n:Nat):Prop where
 fits:t.fits n=true
 led:t.led = !byT w
 plain:t.plain=true→n=0
section
variable (prog:Program) (w:World)
noncomputable def SetT (h:Heap) (a:Addr) (xs:List Str):Prop :=
 ∃ o es ep t,h.get? a=some o∧o.ExactSet∧o.data = .set es ep t∧TabT w t es.size∧ElemsOf (strKind prog w) es.toList∧StrsAre (es.toList.map (·.2)) xs∧xs.Nodup∧es.size<scanBound
end
section
variable {prog:Program} {w:World} {A:Around} {E:Value→Shared→Prop} {s:Shared} {a:Addr}
theorem strs_mem:∀ {vs:List Value} {xs:List Str},StrsAre vs xs→∀ x,x∈xs ↔ ∃ v∈vs,(strKind prog w).is x v=true
 | _,_,.nil,x=>⟨(fun h=>by cases h),fun ⟨v,h,_⟩=>by cases h⟩
 | _,_,.cons y t r,x=>by
  have ih:=strs_mem r x
  constructor
  ·intro h
   rcases List.mem_cons.mp h with rfl | h
   ·exact ⟨_,List.mem_cons_self,strKind_is _ _ _ _⟩
   ·obtain ⟨v,h1,h2⟩:=ih.mp h
    exact ⟨v,List.mem_cons_of_mem _ h1,h2⟩
  ·rintro ⟨v,h1,h2⟩
   rcases List.mem_cons.mp h1 with rfl | h1
   ·have e:x=y:=(strKind prog w).inj _ x y h2 (strKind_is _ _ _ _)
    rw [e]
    exact List.mem_cons_self
   ·exact List.mem_cons_of_mem _ (ih.mpr ⟨v,h1,h2⟩)
theorem strs_perm:∀ {vs vs':List Value},vs.Perm vs'→∀ {xs:List Str},StrsAre vs xs→∃ xs',StrsAre vs' xs'∧xs.Perm xs':=by
 intro vs vs' p
 induction p with
 | nil=>intro xs h; exact ⟨xs,h,.refl _⟩
 | cons v _ ih =>
  intro xs h
  cases h with
  | cons x t r =>
   obtain ⟨xs',h1,h2⟩:=ih r
   exact ⟨x :: xs',.cons x t h1,h2.cons x⟩
 | swap u v l =>
  intro xs h
  cases h with
  | cons x t r =>
   cases r with
   | cons y t' r'=>exact ⟨y :: x :: _,.cons y t' (.cons x t r'),.swap y x _⟩
 | trans _ _ ih1 ih2 =>
  intro xs h
  obtain ⟨ys,h1,h2⟩:=ih1 h
  obtain ⟨zs,h3,h4⟩:=ih2 h1
  exact ⟨zs,h3,h2.trans h4⟩
theorem strs_snoc:∀ {vs:List Value} {xs:List Str},StrsAre vs xs→∀ (x:Str) (t:Tok),StrsAre (vs++[.str x t]) (xs++[x])
 | _,_,.nil,x,t => .cons x t .nil
 | _,_,.cons y u r,x,t => .cons y u (strs_snoc r x t)
theorem add_store {es es1:Array (Int×Value)} {ep:Nat} {t t2:SetTable} {o:Obj} {xs1:List Str} {wd:Bool} {g:Bool→Sem Unit} {R:Option Bool→Shared→Prop} (hg:∀ (b:Bool) (s₁:Shared) (Q':Unit→Shared→Prop),Q' () s₁→wpAny (model prog w) A (g b) Q' E s₁)
  (ho:s.heap.get? a=some o) (hx:o.ExactSet) (hd:o.data = .set es ep t) (hb:es1.size<scanBound) (hT:TabT w t2 es1.size) (hel:ElemsOf (strKind prog w) es1.toList) (hs:StrsAre (es1.toList.map (·.2)) xs1) (hn:xs1.Nodup)
  (h:∀ h' xs',Heap.SameBut a s.heap h'→SetT prog w h' a xs'→xs1.Perm xs'→R (some true) { s with heap:=h' }) :
  wpAny (model prog w) A (do
    storeSet a es1 t2
    if (!wd && t2.tooFull)=true then do
      g (relayAll t2 es1 (SetTable.grown es1.size)).2.2
      storeSet a (relayAll t2 es1 (SetTable.grown es1.size)).1 (relayAll t2 es1 (SetTable.grown es1.size)).2.1
      pure (some true)
     else pure (some true)) R E s:=by
 refine wpAny_bind (wpAny_storeSet_of ho hd ?_ (fits_of_scanBound hb))
 have o1:(s.heap.update a (Obj.putSet es1 t2)).get? a=some { o with data:=.set es1 (ep+1) t2 }:=by
  have q:=Heap.get?_update_self (Obj.putSet es1 t2) ho (by rw [putSet_of es1 t2 hd]; rfl)
  rwa [putSet_of es1 t2 hd] at q
 have b1:=Heap.SameBut.update s.heap a (Obj.putSet es1 t2)
 by_cases hc:(!wd && t2.tooFull)=true
 ·rw [if_pos hc]
  have hp:=relayAll_perm t2 es1 (SetTable.grown es1.size)
  have hf:=relayAll_fits t2 es1 (SetTable.grown es1.size)
  have hl:=relay_led t2 es1 (SetTable.grown es1.size)
  generalize relayAll t2 es1 (SetTable.grown es1.size)=Rl at hp hf hl ⊢
  obtain ⟨es2,t3,gv⟩:=Rl
  dsimp only at hp hf hl ⊢
  have hz:es2.size=es1.size:=by simpa using hp.length_eq
  obtain ⟨xs2,hs2,hpx⟩:=strs_perm (hp.map (·.2)).symm hs
  refine wpAny_bind (hg _ _ _ (wpAny_bind (wpAny_storeSet_of (s:={ s with heap:=s.heap.update a (Obj.putSet es1 t2) }) o1 rfl ?_ (fits_of_scanBound (by rw [hz]; exact hb)))))
  have o2:((s.heap.update a (Obj.putSet es1 t2)).update a (Obj.putSet es2 t3)).get? a=some { o with data:=.set es2 (ep+1+1) t3 }:=by
   have q:=Heap.get?_update_self (Obj.putSet es2 t3) o1 (by rw [putSet_of es2 t3 rfl]; rfl)
   rwa [putSet_of es2 t3 rfl] at q
  exact wpAny_pure (h _ xs2 (b1.trans (Heap.SameBut.update _ a _)) ⟨_,es2,_,t3,o2,hx,rfl,⟨hf,by rw [hl.1]; exact hT.led,fun z=>by rw [hz]; exact hT.plain (hl.2 z)⟩,hel.perm hp,hs2,hpx.nodup_iff.mp hn,by rw [hz]; exact hb⟩ hpx)
 ·rw [if_neg hc]
  exact wpAny_pure (h _ xs1 b1 ⟨_,es1,_,t2,o1,hx,rfl,hT,hel,hs,hn,hb⟩ (.refl _))
theorem add_text {x:Str} {tk:Tok} {xs:List Str} {Q:Bool→Shared→Prop} (hS:SetT prog w s.heap a xs) (hr:xs.length+1<scanBound)
  (h:∀ h' xs' b,Heap.SameBut a s.heap h'→SetT prog w h' a xs'→(∀ y,y∈xs' ↔ y∈xs∨y=x)→xs'.length≤xs.length+1→Q b { s with heap:=h' }) :
  wpAny (model prog w) A (setAddHashed a (.str x tk) ((strKind prog w).hash x)) Q E s:=by
 obtain ⟨o,es,ep,t,ho,hx,hd,hT,hel,hs,hn,hb⟩:=id hS
 have hsz:es.size=xs.length:=by
  have:=hs.length
  simpa using this
 have hkey:(strKind prog w).is x (.str x tk)=true:=strKind_is _ _ _ _
 have hsc:(Value.str x tk).scannable=true:=rfl
 unfold setAddHashed setAddHashedIn
 refine wpAny_holding (wpAny_bind (wpAny_setState_of ho hd hT.fits ?_))
 dsimp only
 rw [byScan_of (knd:=strKind prog w) hsc hb hel,if_pos rfl]
 unfold setAddByScan
 refine wpAny_bind (wpAny_bind (wpAny_rule (wpAny_bind (wpAny_setScan_of (knd:=strKind prog w) hkey ho hd hT.fits hel ?_))))
 cases hf:es.toList.findIdx? (fun e=>(strKind prog w).is x e.2) with
 | some j =>
  dsimp only
  obtain ⟨hj,hp,_⟩:=List.findIdx?_eq_some_iff_getElem.mp hf
  have hm:x∈xs:=(strs_mem hs x).mpr ⟨_,List.mem_map.mpr ⟨_,List.getElem_mem hj,rfl⟩,hp⟩
  refine wpAny_pure (wpAny_pure ?_)
  have e:s = { s with heap:=s.heap }:=by cases s; rfl
  rw [e]
  exact h s.heap xs false (Heap.SameBut.refl a s.heap) hS (fun y=>⟨.inl,fun z=>z.elim id fun z=>z ▸ hm⟩) (Nat.le_succ _)
 | none =>
  dsimp only
  have hm:x ∉ xs:=fun hm=>by
   obtain ⟨v,hv,q⟩:=(strs_mem (prog:=prog) (w:=w) hs x).mp hm
   obtain ⟨e,he,rfl⟩:=List.mem_map.mp hv
   have:=List.findIdx?_eq_none_iff.mp hf e he
   rw [q] at this
   cases this
  have hg : ∀ (b : Bool) {s₁ : Shared} {Q' : Unit → Shared → Prop}, Q' () s₁ → wpAny (model prog w) A (match b with | true => rule "set.scan.the-table-gave-way" | false => pure ()) Q' E s₁ := by
   intro b s₁ Q' hq
   cases b
   ·exact wpAny_pure hq
   ·exact wpAny_rule hq
  have hp:=layNew_perm t es ((strKind prog w).hash x) (.str x tk)
  have hfit:=layNew_fits t es ((strKind prog w).hash x) (.str x tk)
  have hl:=lay_led t es ((strKind prog w).hash x) (.str x tk)
  generalize layNew t es ((strKind prog w).hash x) (.str x tk)=Ln at hp hfit hl ⊢
  obtain ⟨es1,t1,wd,gv⟩:=Ln
  dsimp only at hp hfit hl ⊢
  rw [Array.toList_push] at hp
  have hz:es1.size=es.size+1:=by simpa using hp.length_eq
  have hel1:ElemsOf (strKind prog w) es1.toList:=(hel.push hkey hsc).perm hp
  have hs0:StrsAre ((es.toList++[((strKind prog w).hash x,Value.str x tk)]).map (·.2)) (xs++[x]):=by
   rw [List.map_append]
   exact strs_snoc hs x tk
  obtain ⟨xs1,hs1,hpx⟩:=strs_perm (hp.map (·.2)).symm hs0
  have hn1:xs1.Nodup:=hpx.nodup_iff.mp (List.nodup_append.mpr ⟨hn,by simp,fun u hu v hv=>by
   rw [List.mem_singleton.mp hv]
   rintro rfl
   exact hm hu⟩)
  have fin:∀ h' xs',Heap.SameBut a s.heap h'→SetT prog w h' a xs'→xs1.Perm xs'→Q true { s with heap:=h' }:=fun h' xs' b1 b2 b3=>h h' xs' true b1 b2 (fun y=>by
   rw [← (hpx.trans b3).mem_iff]
   simp) (by rw [← (hpx.trans b3).length_eq]; simp)
  refine wpAny_bind (hg _ ?_)
  by_cases hpl:t1.plain=true
  ·rw [if_pos hpl,hashByValue_scannable 8 hsc]
   refine wpAny_bind (wpAny_pure ?_)
   refine add_store (t2:=if plainKind (Value.str x tk)=true then t1 else { t1 with plain:=false }) (fun b s₁ Q' hq=>by cases b <;> first | exact wpAny_pure hq | exact wpAny_rule hq) ho hx hd (by omega) ?_ hel1 hs1 hn1 fun h' xs' b1 b2 b3=>wpAny_pure (fin h' xs' b1 b2 b3)
   rw [if_neg (show ¬ plainKind (Value.str x tk)=true from fun z=>by cases z)]
   exact ⟨SetTable.fits_plain_off hfit,by rw [← hT.led]; exact hl.1,fun z=>by cases z⟩
  ·rw [if_neg hpl]
   refine wpAny_bind (wpAny_pure ?_)
   simp only [if_true]
   exact add_store (fun b s₁ Q' hq=>by cases b <;> first | exact wpAny_pure hq | exact wpAny_rule hq) ho hx hd (by omega) ⟨hfit,by rw [← hT.led]; exact hl.1,fun z=>absurd z hpl⟩ hel1 hs1 hn1 fun h' xs' b1 b2 b3=>wpAny_pure (fin h' xs' b1 b2 b3)
theorem fill_loop {I:Addr} {fp wr:List Addr} {G:Array GenState→Array GenState→Prop} {n:Nat} {P:Nat→Value→Prop} {St:Nat→Shared→Prop} {R:Result→Shared→Prop} (W:WalksS prog w A.in1 I fp wr G n P St) {a:Addr} (ha:a ∉ fp) (val:Nat→Str) (hv:∀ i v,P i v→∃ t,v = .str (val i) t) (hn:n+1<scanBound)
  : ∀ (k i:Nat) (s:Shared) (xs:List Str),n - i=k→i≤n→St i s→SetT prog w s.heap a xs→(∀ y,y∈xs ↔ ∃ j,j<i∧y=val j)→xs.length≤i →
   (∀ s' xs',Moved (a :: wr) G s s'→SetT prog w s'.heap a xs'→(∀ y,y∈xs' ↔ ∃ j,j<n∧y=val j)→R (.ok (.ret .none)) s') →
   codeAny (model prog w) A (.builtin "set.update.loop" ⟨[.ref a, .ref I], []⟩) R s := by
 have haw:a ∉ wr:=fun z=>ha (W.sub _ z)
 have sub:∀ b∈wr,b∈a :: wr:=fun b z=>List.mem_cons_of_mem _ z
 have keepS:∀ {s s':Shared} {xs:List Str},Moved wr G s s'→SetT prog w s.heap a xs→SetT prog w s'.heap a xs:=by
  rintro s s' xs m ⟨o,es,ep,t,ho,r⟩
  exact ⟨o,es,ep,t,m.heap a o haw ho,r⟩
 intro k
 induction k with
 | zero =>
  intro i s xs hk hi hst hS hm _ hR
  obtain rfl:i=n:=by omega
  refine codeAny_builtin PyProof.Rows.F.entry_set_update_loop ?_
  rw [Around.under_plainId PyProof.Rows.F.plain_set_update_loop _]
  show wpAny _ A.in1 (pyNext (.ref I) >>= _) _ _ s
  exact wpAny_bind (W.done s _ _ hst fun s' m=>wpAny_pure (hR s' xs (m.mono sub) (keepS m hS) hm))
 | succ k ih =>
  intro i s xs hk hi hst hS hm hl hR
  have hlt:i<n:=by omega
  refine codeAny_builtin PyProof.Rows.F.entry_set_update_loop ?_
  rw [Around.under_plainId PyProof.Rows.F.plain_set_update_loop _]
  show wpAny _ A.in1 (pyNext (.ref I) >>= _) _ _ s
  refine wpAny_bind (W.item i s _ _ hlt hst fun v s1 hP hst1 m1 => ?_)
  obtain ⟨t,rfl⟩:=hv i v hP
  show wpAny _ A.in1 (holding [Value.str (val i) t] (setAdd a (.str (val i) t)) >>= _) _ _ s1
  refine wpAny_bind (wpAny_holding ?_)
  unfold setAdd
  refine wpAny_holding (wpAny_bind ((strKind prog w).pyHash (k:=val i) (strKind_is _ _ _ _) ?_))
  refine add_text (s:={ s1 with toks:=s1.toks+1 }) (show SetT prog w s1.heap a xs from keepS m1 hS) (by omega) fun h' xs' _ b1 b2 b3 b4 => ?_
  refine wpAny_pure ⟨plainId_quiet PyProof.Rows.F.plain_set_update_loop _,ih (i+1) _ xs' (by omega) hlt (W.frame _ s1 _ _ hst1 (Nat.le_succ _) fun b hb o e => ?_) b2 (fun y => ?_) (by omega) fun s2 xs2 m2 c1 c2 => ?_⟩
  ·rw [b1.2 b fun z=>ha (by rw [← z]; exact hb)]
   exact e
  ·rw [b3,hm]
   constructor
   ·rintro (⟨j,h1,h2⟩ | h)
    ·exact ⟨j,by omega,h2⟩
    ·exact ⟨i,by omega,h⟩
   ·rintro ⟨j,h1,h2⟩
    by_cases hj:j<i
    ·exact .inl ⟨j,hj,h2⟩
    ·have:j=i:=by omega
     exact .inr (by rw [h2,this])
  ·refine hR s2 xs2 (Moved.trans W.gtrans ((m1.mono sub).then_heap (Nat.le_succ _) fun b o hb e => ?_) m2) c1 c2
   rw [b1.2 b fun z=>hb (by rw [z]; exact List.mem_cons_self)]
   exact e
theorem new_set (v : Value) {Q₁ : Value → Shared → Prop} (h : Q₁ (.ref s.heap.objs.size) { s with heap := s.heap.push { cls := .type "set", dict := none, data := .set #[] 0 (.fresh 0 0 (!byT w)) } }) :
  codeAny (model prog w) A (.call (.builtin "set.__new__") ⟨[.type "set", v], []⟩) (wants Q₁ E) s := by
 refine codeAny_of_tree ?_
 show wpAny _ A.in1 (do checkBuiltinCall "set.__new__" ⟨[.type "set", v], []⟩; again (.builtin "set.__new__" ⟨[.type "set", v], []⟩)) _ _ s
 refine wpAny_bind (wpAny_of_eq (PySem.F.newCall_set_1 v) (wpAny_pure ⟨plainId_quiet PySem.F.plain_set_new _,?_⟩))
 refine codeAny_builtin PySem.F.entry_set_new ?_
 rw [Around.under_plainId PySem.F.plain_set_new _]
 unfold Builtin.«set.__new__» Builtin.Frozenset.newClass
 have hsub:=sub_set_self
 obtain ⟨hp,g,d,tk,os⟩:=s
 dsimp only
 wp_walk
 refine wpAny_askSetting (wpAny_pure ?_)
 dsimp only
 simp only [newObj]
 exact wpAny_bind (wpAny_alloc (wpAny_pure (wpAny_pure h)))
end
end DL
end
section
namespace DL
open PySem PySem.Spec PyProof.Rows L2
section
variable {prog:Program} {w:World} {A:Around} {E:Value→Shared→Prop} {s:Shared} {a:Addr}
set_option maxHeartbeats 3200000 in
theorem call_setT {l:Addr} {items:Array Value} {ss:List Str} {Q:Value→Shared→Prop} (hh:A.handled=none) (hl:s.heap.IsList l items) (hi:StrsAre items.toList ss) (hb:items.size+1<scanBound)
  (h:∀ (h':Heap) (tk:Nat) (xs:List Str),SetT prog w h' s.heap.objs.size xs→(∀ y,y∈xs ↔ y∈ss)→(∀ b o,b<s.heap.objs.size→s.heap.get? b=some o→h'.get? b=some o)→Q (.ref s.heap.objs.size) { s with heap:=h',toks:=tk }) :
  wpAny (model prog w) A (call (.type "set") [.ref l]) Q E s := by
 obtain ⟨c,tl,hmro⟩:=PySem.F.called_set.mro
 have hmade:=PySem.F.called_set.made
 have hsub:=PySem.F.called_set.sub
 have h1:=PySem.F.called_set.notType
 have h2:=PySem.F.called_set.canCreate
 have hct:=PySem.F.typeCall_set_1 (.ref l)
 obtain ⟨O, hO⟩ : ∃ O : Obj, O = { cls := .type "set", dict := none, data := .set #[] 0 (.fresh 0 0 (!byT w)) } := ⟨_, rfl⟩
 have hnew : codeAny (model prog w) A.in1 (.call (.builtin "set.__new__") ⟨[.type "set", .ref l], []⟩) (wants (fun obj s1 => obj = .ref s.heap.objs.size ∧ s1 = { s with heap := s.heap.push O }) E) s := new_set (.ref l) ⟨rfl, by rw [hO]⟩
 refine wpAny_call (codeAny_of_tree ?_)
 show wpAny _ _ (callAny (.type "set") _) _ _ _
 refine wpAny_pure ⟨Code.quiet_builtin _ (by decide +kernel),codeAny_builtin PySem.F.entry_type_call ?_⟩
 rw [Around.under_plain (weight_type_call_type "set" [.ref l] []) rfl]
 repeat (any_goals (first | assumption | wp_step))
 refine codeAny_mono hnew fun r s1 hr => ?_
 cases r with
 | error e=>exact hr
 | ok fl =>
  cases fl with
  | ret obj =>
   obtain ⟨rfl,rfl⟩:=hr
   have hS:(s.heap.push O).get? s.heap.objs.size=some O:=Heap.get?_push_size _ (by rw [hO]; rfl)
   have hT : Shared.TypeIs { s with heap := s.heap.push O } (.ref s.heap.objs.size) "set" := ⟨_, hS, by rw [hO]⟩
   have hli:=PySem.F.called_set.init.lookup
   have hbi:=PySem.F.called_set.init.bind (.ref s.heap.objs.size)
   repeat (any_goals (first | assumption | wp_step))
   have hbody:wpAny (model prog w) A.in1.in1 (Builtin.«set.__init__» ⟨[.ref s.heap.objs.size,.ref l],[]⟩) (fun fin s'=>match fin with
     | .done f=>wants (fun r s2=>r = .none∧∃ h' tk xs,s2 = { s with heap:=h',toks:=tk }∧SetT prog w h' s.heap.objs.size xs∧(∀ y,y∈xs ↔ y∈ss)∧∀ b o,b<s.heap.objs.size→s.heap.get? b=some o→h'.get? b=some o) E (.ok f) s'
     | .again c'=>c'.quiet=true∧codeAny (model prog w) A.in1 c' (wants (fun r s2=>r = .none∧∃ h' tk xs,s2 = { s with heap:=h',toks:=tk }∧SetT prog w h' s.heap.objs.size xs∧(∀ y,y∈xs ↔ y∈ss)∧∀ b o,b<s.heap.objs.size→s.heap.get? b=some o→h'.get? b=some o) E) s')
     (fun e s'=>wants (fun r s2=>r = .none∧∃ h' tk xs,s2 = { s with heap:=h',toks:=tk }∧SetT prog w h' s.heap.objs.size xs∧(∀ y,y∈xs ↔ y∈ss)∧∀ b o,b<s.heap.objs.size→s.heap.get? b=some o→h'.get? b=some o) E (.error e) s') { s with heap:=s.heap.push O }:=by
    obtain ⟨ol,hol,hcl,nl,hdl⟩:=hl
    obtain ⟨ocls,odict,odata,oslots⟩:=ol
    simp only at hcl hdl
    subst hcl hdl hO
    obtain ⟨H1, hH1⟩ : ∃ H1, H1 = s.heap.push { cls := .type "set", dict := none, data := .set #[] 0 (.fresh 0 0 (!byT w)) } := ⟨_, rfl⟩
    rw [← hH1] at hS hT ⊢
    have hsz1:H1.objs.size=s.heap.objs.size+1:=by rw [hH1,Heap.size_push]
    have hlS:l<s.heap.objs.size:=Heap.lt_size hol
    have hol' : H1.get? l = some { cls := .type "list", dict := odict, data := .seq items nl, slots := oslots } := by rw [hH1]; exact Heap.get?_push_of_some _ hol
    have hl1:H1.IsList l items:=⟨_,hol',rfl,nl,rfl⟩
    have hk1:∀ b o,s.heap.get? b=some o→H1.get? b=some o:=fun b o e=>by rw [hH1]; exact Heap.get?_push_of_some _ e
    have hsls:=PySem.F.sub_list_set
    have hslf:=PySem.F.sub_list_frozenset
    have hne : (Value.type "list" == Value.type "dict") = false := by decide
    unfold Builtin.«set.__init__» noKeywords Builtin.Frozenset.updateFrom
    generalize hPI:pyIter=PI
    wp_walk
    subst hPI
    refine wpAny_pyIter_list hl1 (wpAny_bind (wpAny_runValue ?_))
    have hh3:A.in1.in1.in1.handled=none:=by simp [hh]
    have hI:l≠H1.objs.size:=Nat.ne_of_lt (by rw [hsz1]; exact Nat.lt_succ_of_lt hlS)
    have hf:s.heap.objs.size ∉ [H1.objs.size,l]:=by
     simp only [List.mem_cons,List.not_mem_nil,or_false,not_or]
     exact ⟨Nat.ne_of_lt (by rw [hsz1]; exact Nat.lt_succ_self _),Nat.ne_of_gt hlS⟩
    have hv : ∀ (i : Nat) (v : Value), items[i]? = some v → ∃ t, v = .str (ss.getD i "") t := fun i v e => by
     obtain ⟨y,t,e1,e2⟩:=StrsAre.item hi i v (by rw [Array.getElem?_toList]; exact e)
     exact ⟨t,by rw [e1,List.getD_eq_getElem?_getD,e2]; rfl⟩
    have hlen:ss.length=items.size:=by
     have:=hi.length
     simpa using this.symm
    refine fill_loop ((Walks.list hh3 _ l hI items).toS) hf (fun i => ss.getD i "") hv hb (items.size - 0) 0 _ [] (by omega) (Nat.zero_le _) ⟨⟨_, Heap.get?_push_size _ rfl, rfl, rfl⟩, hl1.push _⟩ ?_ (fun y => ⟨(fun z => by cases z), fun ⟨j, z, _⟩ => by omega⟩) (Nat.le_refl _) fun s' xs m hS' hm => ?_
    ·exact ⟨_,#[],0,_,Heap.get?_push_of_some _ hS,⟨rfl,rfl,rfl⟩,rfl,⟨by rfl,rfl,fun _=>rfl⟩,fun e he=>by simp at he,.nil,List.nodup_nil,by decide⟩
    ·obtain ⟨h',g',d',tk',os'⟩:=s'
     have eg:g'=s.gens:=m.gens
     have ed:d'=s.drawn:=m.drawn
     have eo:os'=s.os:=m.os
     subst eg ed eo
     show wpAny _ _ _ _ _ _
     refine wpAny_pure ?_
     show wpAny _ _ (ret Value.none) _ _ _
     refine wpAny_pure ⟨rfl,h',tk',xs,rfl,hS',fun y => ?_,fun b o hb' e => ?_⟩
     ·rw [hm]
      constructor
      ·rintro ⟨j,hj,rfl⟩
       rw [List.getD_eq_getElem?_getD,List.getElem?_eq_getElem (by omega)]
       exact List.getElem_mem _
      ·intro hy
       obtain ⟨j,hj,rfl⟩:=List.getElem_of_mem hy
       exact ⟨j,by omega,by rw [List.getD_eq_getElem?_getD,List.getElem?_eq_getElem hj]; rfl⟩
     ·refine m.heap b o ?_ (Heap.get?_push_of_some _ (hk1 b o e))
      simp only [List.mem_cons,List.not_mem_nil,or_false,not_or]
      exact ⟨Nat.ne_of_lt hb',Nat.ne_of_lt (by rw [hsz1]; exact Nat.lt_succ_of_lt hb')⟩
   refine codeAny_mono (codeAny_call_builtin PySem.F.called_set.init.plain PySem.F.entry_set_init (check_set_init_1 hT hbody)) fun r2 s2 hr2 => ?_
   cases r2 with
   | error e=>exact hr2
   | ok fl2 =>
    cases fl2 with
    | ret r =>
     obtain ⟨rfl,h',tk,xs,rfl,g1,g2,g3⟩:=hr2
     repeat (any_goals (first | assumption | wp_step))
     exact h _ _ xs g1 g2 g3
    | _=>exact hr2.elim
  | _=>exact hr.elim
end
end DL
end
section
namespace DL
open PySem PySem.Spec PyProof.Rows L2
namespace SF
theorem slotN : Slot "set_iterator" "__next__" "set_iterator.__next__" :=
 .of (owner := "set_iterator") (n := "__next__") (by rw [typeLookup_type, builtinLookup_eq_fast]; kernel_rfl) (by decide +kernel) (by decide +kernel)
  (by decide +kernel) (by first | exact .inl (by decide +kernel) | exact .inr (by decide +kernel)) (by rw [isSubtype_type]; kernel_rfl)
theorem entryN : entryFor table "set_iterator.__next__" = some Builtin.«set_iterator.__next__» := entryFor_of_tree (by kernel_rfl)
theorem ownN:Manifest.owners.lookup (String.ofList ['r','o','t','a','r','e','t','i','_','t','e','s'].reverse)=some Manifest.sig_set_iterator:=by kernel_rfl
theorem argsN (v : Value) : argsOk "set_iterator.__next__" ⟨[v], []⟩ := by
 unfold argsOk
 rw [signature?_of (id := "set_iterator.__next__") (n := ['_', '_', 't', 'x', 'e', 'n', '_', '_']) (o := ['r', 'o', 't', 'a', 'r', 'e', 't', 'i', '_', 't', 'e', 's']) (by kernel_rfl) ownN]
 kernel_rfl
theorem entryI : entryFor table "set.__iter__" = some Builtin.«frozenset.__iter__» := entryFor_alias (id' := "frozenset.__iter__") (by kernel_rfl) rfl (by decide +kernel) (by kernel_rfl)
end SF
theorem choose_any {M:Model} {A:Around} {E:Value→Shared→Prop} {s:Shared} {src:Source} {n:Nat} {Q:Nat→Shared→Prop} (hn:n≠0) (h:∀ i d,i<n→Q i { s with drawn:=d }):wpAny M A (choose src n) Q E s :=
 fun _ _ _=>⟨hn,h _ _ (Nat.mod_lt _ (Nat.pos_of_ne_zero hn))⟩
theorem erase_perm {α:Type}:∀ (xs:List α) (i:Nat) (h:i<xs.length),(xs[i] :: xs.eraseIdx i).Perm xs
 | x :: xs,0,_ => .refl _
 | x :: xs,i+1,h=>by
  have hi:i<xs.length:=by simpa using h
  have ih:=erase_perm xs i hi
  show (xs[i]'hi :: x :: xs.eraseIdx i).Perm (x :: xs)
  exact (List.Perm.swap _ _ _).trans (ih.cons x)
theorem draw_any {α:Type} {M:Model} {A:Around} {E:Value→Shared→Prop}:∀ (n:Nat) (xs:List α) (s:Shared) {Q:List α→Shared→Prop},xs.length=n→(∀ ys d,ys.Perm xs→Q ys { s with drawn:=d })→wpAny M A (drawOrder n xs) Q E s
 | 0,xs,s,Q,hl,h=>by
  have e:xs=[]:=List.length_eq_zero_iff.mp hl
  subst e
  have e2:s = { s with drawn:=s.drawn }:=by cases s; rfl
  unfold drawOrder
  refine wpAny_pure ?_
  rw [e2]
  exact h [] _ (.refl _)
 | n+1,[],s,Q,hl,h=>by cases hl
 | n+1,x :: xs,s,Q,hl,h=>by
  unfold drawOrder
  refine wpAny_bind (choose_any (by simp) fun i d hi => ?_)
  rw [List.getElem?_eq_getElem hi]
  dsimp only
  refine wpAny_bind (draw_any n ((x :: xs).eraseIdx i) _ (by rw [List.length_eraseIdx_of_lt hi,hl]; rfl) fun ys d' p=>wpAny_pure ?_)
  refine h _ d' ((p.cons _).trans ?_)
  exact erase_perm _ i hi
theorem pick_perm {α:Type} (next:Nat→Nat):∀ (f k:Nat) (left:List α) (out:Array α),left.length=f→(pickOrder.go next f k left out).toList.Perm (out.toList++left)
 | 0,k,left,out,hl=>by
  have e:left=[]:=List.length_eq_zero_iff.mp hl
  subst e
  unfold pickOrder.go
  rw [List.append_nil]
 | f+1,k,left,out,hl=>by
  have hi:next k % left.length<left.length:=Nat.mod_lt _ (by omega)
  unfold pickOrder.go
  rw [List.getElem?_eq_getElem hi]
  dsimp only
  refine (pick_perm next f (k+1) _ _ (by rw [List.length_eraseIdx_of_lt hi,hl]; rfl)).trans ?_
  rw [Array.toList_push,List.append_assoc]
  exact (erase_perm left _ hi).append_left _
theorem pick_all {α:Type} (next:Nat→Nat) (xs:Array α):(pickOrder next xs).toList.Perm xs.toList:=by
 unfold pickOrder
 have:=pick_perm next xs.size 0 xs.toList #[] (by simp)
 simpa using this
section
variable {prog:Program} {w:World} {A:Around} {E:Value→Shared→Prop} {s:Shared} {a:Addr}
theorem byText_ok {Q:Bool→Shared→Prop} (h:Q (byT w) s):wpAny (model prog w) A setsByText Q E s:=by
 unfold setsByText
 exact wpAny_bind (wpAny_askSetting (wpAny_pure h))
structure ItS (h:Heap) (I a:Addr) (o:Obj) (n ep:Nat) (first:Value) (i:Nat):Prop where
 it : ∃ oI, h.get? I = some oI ∧ oI.cls = .type "set_iterator" ∧ oI.data = .fields #[first, .int i 0, .ref a, .int n 0, .int ep 0]
 st:h.get? a=some o
theorem ItS.typeIs {o : Obj} {n ep i : Nat} {first : Value} {I : Addr} (x : ItS s.heap I a o n ep first i) : s.TypeIs (.ref I) "set_iterator" := by
 obtain ⟨⟨oI,h1,h2,_⟩,_⟩:=x
 exact ⟨oI,h1,h2⟩
theorem stop_tail {α : Type} {Q' : α → Shared → Prop} {E' : Value → Shared → Prop} (hh : A.handled = none) (h : ∀ o1 o2 : Obj, o2.cls = .type "StopIteration" → ((s.heap.push o1).push o2).get? (s.heap.push o1).objs.size = some o2 → E' (.ref (s.heap.push o1).objs.size) { s with heap := (s.heap.push o1).push o2 }) :
  wpAny (model prog w) A.in1 (newExc (.type "StopIteration") [] >>= fun e => (raiseNew e : Sem α)) Q' E' s := by
 refine wpAny_bind ?_
 simp only [newExc,newTuple]
 refine wpAny_bind (wpAny_newObj_type ?_ (by size_fits))
 refine wpAny_bind (m:=firstArgMember _ _) (wpAny_of_eq (a:=Value.none) (by first | rfl | (simp only [firstArgMember]; rfl)) ?_)
 refine wpAny_newObj_type ?_ (by size_fits)
 simp only [raiseNew]
 refine wpAny_bind (wpAny_handled ?_)
 rw [show A.in1.handled=none from hh]
 refine wpAny_bind (wpAny_pure (wpAny_throw ?_))
 exact h _ _ rfl (Heap.get?_push_size _ rfl)
theorem next_item {I:Addr} {o:Obj} {es:Array (Int×Value)} {ep i:Nat} {t:SetTable} {first first' x:Value} {Q:Option Value→Shared→Prop} (X:ItS s.heap I a o es.size ep first i) (hd:o.data = .set es ep t) (hf:t.fits es.size=true) (hIa:I≠a)
  (hstep:(∃ (slot j:Nat),first = .int slot 0∧first' = .int j 0∧∀ (A:Around) (E:Value→Shared→Prop) (Q:Option (Value×Nat)→Shared→Prop),Q (some (x,j)) s→wpAny (model prog w) A (setNext a slot i ep) Q E s) ∨
   (∃ (T:Addr) (oT:Obj) (ps:Array Value) (m place:Nat) (hx:Int),first = .ref T∧first' = .ref T∧s.heap.get? T=some oT∧oT.data = .seq ps m∧ps[i]?=some (.int place 0)∧es[place]?=some (hx,x)))
  (h:∀ h',Heap.SameBut I s.heap h'→ItS h' I a o es.size ep first' (i+1)→Q (some x) { s with heap:=h' }) :
  wpAny (model prog w) A (pyNext (.ref I)) Q E s:=by
 obtain ⟨⟨oI,hI,hc,hdI⟩,ha⟩:=id X
 have fin:∀ {h':Heap},Heap.SameBut I s.heap h'→h'.get? I=some { oI with data:=.fields #[first',.int ((i:Int)+1) 0,.ref a,.int es.size 0,.int ep 0] }→ItS h' I a o es.size ep first' (i+1):=by
  intro h' sb e
  exact ⟨⟨_,e,hc,rfl⟩,(sb.2 a (Ne.symm hIa)).trans ha⟩
 unfold pyNext
 refine wpAny_bind (wpAny_attempt (wpAny_callSpecial?_slot (name := Str.ofString "__next__") X.typeIs SF.slotN (wpAny_call_entry SF.slotN X.typeIs SF.entryN ?_ (SF.argsN _))))
 unfold Builtin.«set_iterator.__next__»
 refine wpAny_bind (wpAny_pure (wpAny_bind (wpAny_fieldsOf hI hdI ?_)))
 dsimp only
 refine wpAny_bind (wpAny_setEntries_of ha hd hf ?_)
 rw [if_neg (by simp)]
 rcases hstep with ⟨slot,j,rfl,rfl,hn⟩ | ⟨T,oT,ps,m,place,hx,rfl,rfl,hT,hdT,hp,he⟩
 ·dsimp only
  simp only [Int.toNat_natCast]
  refine wpAny_bind (hn _ _ _ ?_)
  dsimp only
  refine wpAny_bind (wpAny_setField hI hdI (by simp) ?_)
  have h1:=Heap.get?_update_self (Obj.mapFields (·.setIfInBounds 0 (rawInt (j:Int)))) hI (Obj.isFreed_of_fields (Obj.data_mapFields hdI _))
  have d1:=Obj.data_mapFields hdI (·.setIfInBounds 0 (rawInt (j:Int)))
  refine wpAny_bind (wpAny_setField (s:={ s with heap:=s.heap.update I (Obj.mapFields (·.setIfInBounds 0 (rawInt (j:Int)))) }) h1 d1 (by simp) ?_)
  have h2:=Heap.get?_update_self (Obj.mapFields (·.setIfInBounds 1 (rawInt ((i:Int)+1)))) h1 (Obj.isFreed_of_fields (Obj.data_mapFields d1 _))
  have d2:=Obj.data_mapFields d1 (·.setIfInBounds 1 (rawInt ((i:Int)+1)))
  have sb:=(Heap.SameBut.update s.heap I (Obj.mapFields (·.setIfInBounds 0 (rawInt (j:Int))))).trans (Heap.SameBut.update _ I (Obj.mapFields (·.setIfInBounds 1 (rawInt ((i:Int)+1)))))
  refine wpAny_pure ⟨_,rfl,wpAny_pure (h _ sb ⟨⟨_,h2,?_,?_⟩,(sb.2 a (Ne.symm hIa)).trans ha⟩)⟩
  ·rw [Obj.cls_mapFields,Obj.cls_mapFields]; exact hc
  ·rw [d2]; simp [rawInt]
 ·dsimp only
  simp only [Int.toNat_natCast]
  unfold seqItems?
  dsimp only
  refine wpAny_bind (wpAny_bind (wpAny_load hT ?_))
  rw [hdT]
  refine wpAny_pure ?_
  dsimp only
  rw [hp]
  dsimp only
  simp only [Int.toNat_natCast]
  unfold setNextDrawn
  refine wpAny_bind (wpAny_bind (wpAny_setState_of ha hd hf ?_))
  dsimp only
  rw [if_neg (by simp)]
  rw [he]
  refine wpAny_pure ?_
  refine wpAny_bind (wpAny_setField hI hdI (by simp) ?_)
  have h2:=Heap.get?_update_self (Obj.mapFields (·.setIfInBounds 1 (rawInt ((i:Int)+1)))) hI (Obj.isFreed_of_fields (Obj.data_mapFields hdI _))
  have d2:=Obj.data_mapFields hdI (·.setIfInBounds 1 (rawInt ((i:Int)+1)))
  have sb:=Heap.SameBut.update s.heap I (Obj.mapFields (·.setIfInBounds 1 (rawInt ((i:Int)+1))))
  refine wpAny_pure ⟨_,rfl,wpAny_pure (h _ sb ⟨⟨_,h2,?_,?_⟩,(sb.2 a (Ne.symm hIa)).trans ha⟩)⟩
  ·rw [Obj.cls_mapFields]; exact hc
  ·rw [d2]; simp [rawInt]
theorem next_end {I:Addr} {o:Obj} {es:Array (Int×Value)} {ep i:Nat} {t:SetTable} {first:Value} {Q:Option Value→Shared→Prop} (hh:A.handled=none) (X:ItS s.heap I a o es.size ep first i) (hd:o.data = .set es ep t) (hf:t.fits es.size=true)
  (hstep:(∃ (slot:Nat),first = .int slot 0∧∀ (A:Around) (E:Value→Shared→Prop) (Q:Option (Value×Nat)→Shared→Prop),Q none s→wpAny (model prog w) A (setNext a slot i ep) Q E s) ∨
   (∃ (T:Addr) (oT:Obj) (ps:Array Value) (m:Nat),first = .ref T∧s.heap.get? T=some oT∧oT.data = .seq ps m∧ps[i]?=none))
  (h:∀ h',Heap.ExtBut I s.heap h'→Q none { s with heap:=h' }) :
  wpAny (model prog w) A (pyNext (.ref I)) Q E s:=by
 obtain ⟨⟨oI,hI,hc,hdI⟩,ha⟩:=id X
 unfold pyNext
 refine wpAny_bind (wpAny_attempt (wpAny_callSpecial?_slot (name := Str.ofString "__next__") X.typeIs SF.slotN (wpAny_call_entry SF.slotN X.typeIs SF.entryN ?_ (SF.argsN _))))
 unfold Builtin.«set_iterator.__next__»
 refine wpAny_bind (wpAny_pure (wpAny_bind (wpAny_fieldsOf hI hdI ?_)))
 dsimp only
 refine wpAny_bind (wpAny_setEntries_of ha hd hf ?_)
 rw [if_neg (by simp)]
 rcases hstep with ⟨slot,rfl,hn⟩ | ⟨T,oT,ps,m,rfl,hT,hdT,hp⟩
 ·dsimp only
  simp only [Int.toNat_natCast]
  refine wpAny_bind (hn _ _ _ ?_)
  dsimp only
  refine wpAny_bind (wpAny_setField hI hdI (by simp) ?_)
  refine stop_tail (s:={ s with heap:=s.heap.update I (Obj.mapFields (·.setIfInBounds 2 Value.none)) }) hh fun o1 o2 c2 g2 => ?_
  refine wpAny_bind (wpAny_isInstance (T := "StopIteration") (b := true) ⟨_, g2, c2⟩ isSubtype_stop ?_)
  exact wpAny_pure (h _ (((Heap.SameBut.update ..).extBut.push _).push _))
 ·dsimp only
  simp only [Int.toNat_natCast]
  unfold seqItems?
  dsimp only
  refine wpAny_bind (wpAny_bind (wpAny_load hT ?_))
  rw [hdT]
  refine wpAny_pure ?_
  dsimp only
  rw [hp]
  dsimp only
  refine wpAny_bind (wpAny_setField hI hdI (by simp) ?_)
  have h1:=Heap.get?_update_self (Obj.mapFields (·.setIfInBounds 0 (rawInt 0))) hI (Obj.isFreed_of_fields (Obj.data_mapFields hdI _))
  have d1:=Obj.data_mapFields hdI (·.setIfInBounds 0 (rawInt 0))
  refine wpAny_bind (wpAny_setField (s:={ s with heap:=s.heap.update I (Obj.mapFields (·.setIfInBounds 0 (rawInt 0))) }) h1 d1 (by simp) ?_)
  refine stop_tail (s:={ s with heap:=(s.heap.update I (Obj.mapFields (·.setIfInBounds 0 (rawInt 0)))).update I (Obj.mapFields (·.setIfInBounds 2 Value.none)) }) hh fun o1 o2 c2 g2 => ?_
  refine wpAny_bind (wpAny_isInstance (T := "StopIteration") (b := true) ⟨_, g2, c2⟩ isSubtype_stop ?_)
  exact wpAny_pure (h _ ((((Heap.SameBut.update ..).trans (Heap.SameBut.update ..)).extBut.push _).push _))
end
end DL
end
section
namespace DL
open PySem PySem.Spec PyProof.Rows L2
namespace SF
theorem slotJ : Slot "set_iterator" "__iter__" "set_iterator.__iter__" :=
 .of (owner := "set_iterator") (n := "__iter__") (by rw [typeLookup_type, builtinLookup_eq_fast]; kernel_rfl) (by decide +kernel) (by decide +kernel)
  (by decide +kernel) (by first | exact .inl (by decide +kernel) | exact .inr (by decide +kernel)) (by rw [isSubtype_type]; kernel_rfl)
theorem entryJ : entryFor table "set_iterator.__iter__" = some Builtin.«dict_keyiterator.__iter__» := entryFor_alias (id' := "dict_keyiterator.__iter__") (by kernel_rfl) rfl (by decide +kernel) (by kernel_rfl)
theorem argsJ (v : Value) : argsOk "set_iterator.__iter__" ⟨[v], []⟩ := by
 unfold argsOk
 rw [signature?_of (id := "set_iterator.__iter__") (n := ['_', '_', 'r', 'e', 't', 'i', '_', '_']) (o := ['r', 'o', 't', 'a', 'r', 'e', 't', 'i', '_', 't', 'e', 's']) (by kernel_rfl) ownN]
 kernel_rfl
end SF
section
variable {prog:Program} {w:World} {A:Around} {E:Value→Shared→Prop} {s:Shared} {a:Addr}
noncomputable def StepOk (prog:Program) (w:World) (s:Shared) (a:Addr) (es:Array (Int×Value)) (ep i:Nat) (first first' x:Value):Prop :=
 (∃ (slot j:Nat),first = .int slot 0∧first' = .int j 0∧∀ (A:Around) (E:Value→Shared→Prop) (Q:Option (Value×Nat)→Shared→Prop),Q (some (x,j)) s→wpAny (model prog w) A (setNext a slot i ep) Q E s) ∨
   (∃ (T:Addr) (oT:Obj) (ps:Array Value) (m place:Nat) (hx:Int),first = .ref T∧first' = .ref T∧s.heap.get? T=some oT∧oT.data = .seq ps m∧ps[i]?=some (.int place 0)∧es[place]?=some (hx,x))
noncomputable def EndOk (prog:Program) (w:World) (s:Shared) (a:Addr) (ep i:Nat) (first:Value):Prop :=
 (∃ (slot:Nat),first = .int slot 0∧∀ (A:Around) (E:Value→Shared→Prop) (Q:Option (Value×Nat)→Shared→Prop),Q none s→wpAny (model prog w) A (setNext a slot i ep) Q E s) ∨
   (∃ (T:Addr) (oT:Obj) (ps:Array Value) (m:Nat),first = .ref T∧s.heap.get? T=some oT∧oT.data = .seq ps m∧ps[i]?=none)
theorem walks_of {I:Addr} {o:Obj} {es:Array (Int×Value)} {ep:Nat} {t:SetTable} {fp:List Addr} {P:Nat→Value→Prop} {F:Nat→Value→Heap→Prop} (hh:A.handled=none) (hd:o.data = .set es ep t) (hf:t.fits es.size=true) (hIa:I≠a) (hI:I∈fp) (ha:a∈fp)
  (hF:∀ i f h h',F i f h→(∀ b∈fp,b≠I→∀ o,h.get? b=some o→h'.get? b=some o)→F i f h')
  (hs:∀ i (s:Shared) f,i<es.size→s.heap.get? a=some o→F i f s.heap→∃ x f',P i x∧StepOk prog w s a es ep i f f' x∧F (i+1) f' s.heap)
  (he:∀ (s:Shared) f,s.heap.get? a=some o→F es.size f s.heap→EndOk prog w s a ep es.size f) :
  WalksS prog w A I fp [I] (fun x y=>y=x) es.size P (fun i s => ∃ f,ItS s.heap I a o es.size ep f i∧F i f s.heap) where
 sub:=fun b hb=>by rw [List.mem_singleton.mp hb]; exact hI
 grefl:=fun _=>rfl
 gtrans:=fun _ _ _ h1 h2=>h2.trans h1
 frame:=fun i s h' tk st _ hk=>by
  obtain ⟨f,X,hf'⟩:=st
  obtain ⟨⟨oI,h1,h2,h3⟩,h4⟩:=X
  exact ⟨f,⟨⟨oI,hk I hI _ h1,h2,h3⟩,hk a ha _ h4⟩,hF _ _ _ _ hf' fun b hb _ o e=>hk b hb o e⟩
 item:=fun i s Q E hi st hQ=>by
  obtain ⟨f,X,hf'⟩:=st
  obtain ⟨x,f',hP,hst,hn⟩:=hs i s f hi X.st hf'
  refine next_item X hd hf hIa hst fun h' sb X'=>hQ x _ hP ⟨f',X',hF _ _ _ _ hn fun b _ hb o e=>(sb.2 b hb).trans e⟩ ⟨fun b o hb e => ?_,rfl,rfl,rfl,Nat.le_refl _⟩
  exact (sb.2 b fun z=>hb (List.mem_singleton.mpr z)).trans e
 done:=fun s Q E st hQ=>by
  obtain ⟨f,X,hf'⟩:=st
  refine next_end hh X hd hf (he s f X.st hf') fun h' xb=>hQ _ ⟨fun b o hb e=>xb b o (fun z=>hb (List.mem_singleton.mpr z)) e,rfl,rfl,rfl,Nat.le_refl _⟩
 self:=fun i s Q E st hQ=>by
  obtain ⟨f,X,_⟩:=st
  refine wpAny_pyIter_slot X.typeIs SF.slotJ (wpAny_call_entry SF.slotJ X.typeIs SF.entryJ ?_ (SF.argsJ _))
  show wpAny _ _ (ret (.ref I)) _ _ s
  exact wpAny_pure ⟨_, rfl, "set_iterator", _, X.typeIs, SF.slotN.lookup, hQ⟩
theorem next_byT {o:Obj} {es:Array (Int×Value)} {ep:Nat} {t:SetTable} {slot i:Nat} {Q:Option (Value×Nat)→Shared→Prop} (hb:byT w=true) (ho:s.heap.get? a=some o) (hd:o.data = .set es ep t) (hf:t.fits es.size=true)
  (h:Q (((pickOrder (w.params.setOrder a ep) es)[i]?).map fun e=>(e.2,slot)) s):wpAny (model prog w) A (setNext a slot i ep) Q E s:=by
 unfold setNext
 refine wpAny_bind (wpAny_setState_of ho hd hf ?_)
 dsimp only
 refine wpAny_bind (byText_ok ?_)
 rw [hb]
 rw [if_pos rfl,if_neg (by simp)]
 refine wpAny_bind ?_
 unfold setWalk
 refine wpAny_bind (wpAny_setState_of ho hd hf ?_)
 dsimp only
 refine wpAny_bind (byText_ok ?_)
 rw [hb,if_pos rfl]
 exact wpAny_bind (wpAny_askSetting (wpAny_pure (wpAny_pure h)))
theorem below1 (p j:Nat):SetTable.below #[p] j=if p<j then 1 else 0:=by
 show SetTable.below.go #[p] j 1 0 1=_
 unfold SetTable.below.go
 rw [if_pos (by omega)]
 show (if (#[p]:Array Nat).getD 0 j<j then SetTable.below.go #[p] j 0 1 1 else SetTable.below.go #[p] j 0 0 0)=_
 show (if p<j then _ else _)=_
 split <;> rfl
theorem next_few {o:Obj} {es:Array (Int×Value)} {ep:Nat} {t:SetTable} {slot i:Nat} {Q:Option (Value×Nat)→Shared→Prop} (hb:byT w=false) (ho:s.heap.get? a=some o) (hd:o.data = .set es ep t) (hT:TabT w t es.size) (h1:es.size≤1)
  (h:Q (match es[SetTable.below t.place slot]?,t.place[SetTable.below t.place slot]? with | some (_,x),some j=>some (x,j+1) | _,_=>none) s):wpAny (model prog w) A (setNext a slot i ep) Q E s:=by
 unfold setNext
 refine wpAny_bind (wpAny_setState_of ho hd hT.fits ?_)
 dsimp only
 refine wpAny_bind (byText_ok ?_)
 rw [hb]
 refine wpAny_ite_split (fun z=>absurd z (by decide)) (fun _ => ?_)
 refine wpAny_ite_split (fun z => ?_) (fun _ => ?_)
 ·exfalso
  have z':(!t.plain && decide (es.size > 1))=true:=z
  rw [Bool.and_eq_true,decide_eq_true_eq] at z'
  omega
 ·have hl:t.led=true:=by rw [hT.led,hb]; rfl
  refine wpAny_bind ?_
  refine wpAny_of_eq (a:=()) ?_ (wpAny_pure h)
  show (if (!t.led && !es.isEmpty) = true then unsupported "set:maker-not-led" else pure ()) = _
  rw [hl]
  rfl
end
end DL
end
section
set_option maxHeartbeats 1000000
namespace DL
open PySem PySem.Spec PyProof.Rows L2
theorem map_getD {α β:Type} (f:α→β) (b:β) (es:List α):(List.range es.length).map (fun i=>((es[i]?).map f).getD b)=es.map f:=by
 refine List.ext_getElem (by simp) fun i h1 h2 => ?_
 have:i<es.length:=by simpa using h1
 simp [List.getElem?_eq_getElem this]
theorem items_list {L:List Value} {acc:Array Value} (h:ItemsOf (fun i v=>L[i]?=some v) acc L.length):acc.toList=L:=by
 obtain ⟨h1,h2⟩:=h
 refine List.ext_getElem? fun i => ?_
 rw [Array.getElem?_toList]
 by_cases hi:i<acc.size
 ·rw [Array.getElem?_eq_getElem hi]
  exact (h2 i _ (Array.getElem?_eq_getElem hi)).symm
 ·rw [Array.getElem?_eq_none (by omega),List.getElem?_eq_none (by omega)]
section
variable {prog:Program} {w:World} {A:Around} {E:Value→Shared→Prop} {s:Shared} {a:Addr}
theorem iter_set {xs:List Str} {Q:Value→Shared→Prop} (hS:SetT prog w s.heap a xs)
  (h:∀ (h':Heap) (d:Drawn) (I:Addr) (fp:List Addr) (St:Nat→Shared→Prop) (L:List Value) (ys:List Str),(∀ b o,s.heap.get? b=some o→h'.get? b=some o)→s.heap.objs.size≤I→(∀ b∈fp,b=a∨s.heap.objs.size≤b) →
   (∀ A':Around,A'.handled=none→WalksS prog w A' I fp [I] (fun x y=>y=x) L.length (fun i v=>L[i]?=some v) St)→St 0 { s with heap:=h',drawn:=d }→StrsAre L ys→ys.Perm xs→Q (.ref I) { s with heap:=h',drawn:=d }) :
  wpAny (model prog w) A (pyIter (.ref a)) Q E s:=by
 obtain ⟨o,es,ep,t,ho,hx,hd,hT,hel,hs,hn,hb⟩:=id hS
 have haS:a<s.heap.objs.size:=Heap.lt_size ho
 have hty : s.TypeIs (.ref a) "set" := ⟨_, ho, hx.1⟩
 refine wpAny_pyIter_slot hty PySem.F.slot_set_iter (wpAny_call_entry PySem.F.slot_set_iter hty SF.entryI ?_ (PySem.F.args_set_iter_1 _))
 unfold Builtin.«frozenset.__iter__»
 refine wpAny_bind (m:=Builtin.Frozenset.slot0 _ _) (wpAny_pure ?_)
 dsimp only
 unfold Builtin.Frozenset.sizeOf
 refine wpAny_bind (wpAny_bind (wpAny_setEntries_of ho hd hT.fits (wpAny_pure ?_)))
 refine wpAny_bind (m:=setDrawn a) (wpAny_bind (wpAny_setState_of ho hd hT.fits ?_))
 dsimp only
 refine wpAny_bind (byText_ok (wpAny_pure ?_))
 have hz:es.toList.length=es.size:=Array.length_toList
 refine wpAny_ite_split (fun hc => ?_) (fun hc => ?_)
 ·-- drawn
  refine wpAny_bind (draw_any es.size (List.range es.size) s (by simp) fun q d hq => ?_)
  refine wpAny_bind (wpAny_newTuple ?_ (by
   rw [List.length_map,hq.length_eq,List.length_range]
   exact fits_of_scanBound hb))
  have hqb:∀ (i p:Nat),q[i]?=some p→p<es.size:=fun i p e=>by
   have:=hq.mem_iff.mp (List.mem_of_getElem? e)
   simpa using this
  generalize hTo : ({ cls := .type "tuple", data := .seq (q.map fun (i : Nat) => rawInt (i : Int)).toArray } : Obj) = oT
  refine wpAny_bind (m:=setEpoch a) (wpAny_bind (wpAny_setState_of (s:={ s with heap:=s.heap.push oT,drawn:=d }) (Heap.get?_push_of_some _ ho) hd hT.fits (wpAny_pure ?_)))
  refine wpAny_bind (wpAny_newObj_type (wpAny_pure ⟨_, rfl, "set_iterator", _, ⟨_, Heap.get?_push_size _ rfl, rfl⟩, SF.slotN.lookup, ?_⟩))
  have hTg:(s.heap.push oT).get? s.heap.objs.size=some oT:=Heap.get?_push_size _ (by rw [← hTo]; rfl)
  have hsz:(s.heap.push oT).objs.size=s.heap.objs.size+1:=Heap.size_push ..
  have hIT:(s.heap.push oT).objs.size≠s.heap.objs.size:=by omega
  have hIa:(s.heap.push oT).objs.size≠a:=Nat.ne_of_gt (by rw [hsz]; exact Nat.lt_succ_of_lt haS)
  have hL:(q.map fun i=>((es.toList[i]?).map (·.2)).getD .none).Perm (es.toList.map (·.2)):=by
   refine (hq.map _).trans (List.Perm.of_eq ?_)
   rw [← hz]
   exact map_getD (·.2) .none es.toList
  obtain ⟨ys,hys,hp⟩:=strs_perm hL.symm hs
  have hlen:(q.map fun i=>((es.toList[i]?).map (·.2)).getD .none).length=es.size:=by rw [List.length_map,hq.length_eq,List.length_range]
  refine h _ d _ [(s.heap.push oT).objs.size,s.heap.objs.size,a] (fun i s' => ∃ f,ItS s'.heap (s.heap.push oT).objs.size a o es.size ep f i∧(f = .ref s.heap.objs.size∧s'.heap.get? s.heap.objs.size=some oT)) _ ys (fun b o e=>Heap.get?_push_of_some _ (Heap.get?_push_of_some _ e)) (show s.heap.objs.size≤(s.heap.push oT).objs.size by rw [hsz]; exact Nat.le_succ _) (fun b hb' => ?_) (fun A' hA' => ?_) ?_ hys hp.symm
  ·simp only [List.mem_cons,List.not_mem_nil,or_false] at hb'
   rcases hb' with rfl | rfl | rfl
   ·right; omega
   ·right; omega
   ·left; rfl
  ·rw [hlen]
   refine walks_of (F:=fun i f h'=>f = .ref s.heap.objs.size∧h'.get? s.heap.objs.size=some oT) hA' hd hT.fits hIa (by simp) (by simp) (fun i f h1 h2 hF hk=>⟨hF.1,hk _ (by simp) (Ne.symm hIT) _ hF.2⟩) (fun i s' f hi _ hF => ?_) (fun s' f _ hF => ?_)
   ·have hiq:i<q.length:=by rw [hq.length_eq,List.length_range]; exact hi
    have e1:q[i]?=some q[i]:=List.getElem?_eq_getElem hiq
    have e2:=hqb i _ e1
    have e3:es.toList[q[i]]?=some (es[q[i]]):=by rw [Array.getElem?_toList,Array.getElem?_eq_getElem e2]
    refine ⟨(es[q[i]]).2,.ref s.heap.objs.size,?_,.inr ⟨s.heap.objs.size,oT,(q.map fun (i:Nat)=>rawInt (i:Int)).toArray,0,q[i],(es[q[i]]).1,hF.1,rfl,hF.2,by rw [← hTo],?_,?_⟩,rfl,hF.2⟩
    ·rw [List.getElem?_map,e1]
     simp only [Option.map_some,e3,Option.getD_some]
    ·rw [List.getElem?_toArray,List.getElem?_map,e1]
     rfl
    ·rw [Array.getElem?_eq_getElem e2]
   ·refine .inr ⟨s.heap.objs.size,oT,(q.map fun (i:Nat)=>rawInt (i:Int)).toArray,0,hF.1,hF.2,by rw [← hTo],?_⟩
    rw [List.getElem?_toArray]
    refine List.getElem?_eq_none ?_
    rw [List.length_map,hq.length_eq,List.length_range]
    exact Nat.le_refl _
  ·exact ⟨_,⟨⟨_,Heap.get?_push_size _ rfl,rfl,rfl⟩,Heap.get?_push_of_some _ (Heap.get?_push_of_some _ ho)⟩,rfl,Heap.get?_push_of_some _ hTg⟩
 ·-- by its places
  have hc':¬ (!byT w && (!t.plain && decide (es.size > 1)))=true:=hc
  refine wpAny_bind (wpAny_pure ?_)
  refine wpAny_bind (m:=setEpoch a) (wpAny_bind (wpAny_setState_of ho hd hT.fits (wpAny_pure ?_)))
  refine wpAny_bind (wpAny_newObj_type (wpAny_pure ⟨_, rfl, "set_iterator", _, ⟨_, Heap.get?_push_size _ rfl, rfl⟩, SF.slotN.lookup, ?_⟩))
  have hIa:s.heap.objs.size≠a:=Nat.ne_of_gt haS
  have hfp:∀ b∈[s.heap.objs.size,a],b=a∨s.heap.objs.size≤b:=fun b hb'=>by
   simp only [List.mem_cons,List.not_mem_nil,or_false] at hb'
   rcases hb' with rfl | rfl
   ·right; omega
   ·left; rfl
  generalize hIo : ({ cls := .type "set_iterator", data := .fields [rawInt 0, rawInt 0, Value.ref a, rawInt (es.size : Int), rawInt (ep : Int)].toArray } : Obj) = oI
  have hIg:(s.heap.push oI).get? s.heap.objs.size=some oI:=Heap.get?_push_size _ (by rw [← hIo]; rfl)
  have X0:ItS (s.heap.push oI) s.heap.objs.size a o es.size ep (.int 0 0) 0:=⟨⟨_,hIg,by rw [← hIo],by rw [← hIo]; rfl⟩,Heap.get?_push_of_some _ ho⟩
  have es0:∀ {h':Heap},({ s with heap:=h' }:Shared) = { s with heap:=h',drawn:=s.drawn }:=fun {h'}=>by cases s; rfl
  rw [es0]
  by_cases hbt:byT w=true
  ·have hL:((pickOrder (w.params.setOrder a ep) es).toList.map (·.2)).Perm (es.toList.map (·.2)):=(pick_all _ es).map _
   obtain ⟨ys,hys,hp⟩:=strs_perm hL.symm hs
   have hlen:((pickOrder (w.params.setOrder a ep) es).toList.map (·.2)).length=es.size:=by rw [hL.length_eq,List.length_map,hz]
   have hpl:(pickOrder (w.params.setOrder a ep) es).size=es.size:=by simpa using hlen
   refine h _ s.drawn _ [s.heap.objs.size,a] (fun i s' => ∃ f,ItS s'.heap s.heap.objs.size a o es.size ep f i∧f = .int 0 0) _ ys (fun b o e=>Heap.get?_push_of_some _ e) (Nat.le_refl _) hfp (fun A' hA' => ?_) ⟨_,X0,rfl⟩ hys hp.symm
   rw [hlen]
   refine walks_of (F:=fun i f h'=>f = .int 0 0) hA' hd hT.fits hIa (by simp) (by simp) (fun i f h1 h2 hF hk=>hF) (fun i s' f hi ho' hF => ?_) (fun s' f ho' hF => ?_)
   ·have hi':i<(pickOrder (w.params.setOrder a ep) es).size:=by omega
    refine ⟨((pickOrder (w.params.setOrder a ep) es)[i]).2,.int 0 0,?_,.inl ⟨0,0,hF,rfl,fun A E Q hQ=>next_byT hbt ho' hd hT.fits ?_⟩,rfl⟩
    ·rw [List.getElem?_map,Array.getElem?_toList,Array.getElem?_eq_getElem hi']; rfl
    ·rw [Array.getElem?_eq_getElem hi']; exact hQ
   ·refine .inl ⟨0,hF,fun A E Q hQ=>next_byT hbt ho' hd hT.fits ?_⟩
    rw [Array.getElem?_eq_none (by omega)]
    exact hQ
  ·have hbf:byT w=false:=by simpa using hbt
   have h1:es.size≤1:=by
    rw [hbf] at hc'
    by_cases hp:t.plain=true
    ·have:=hT.plain hp; omega
    ·rw [Bool.not_eq_true] at hp
     rw [hp] at hc'
     simp at hc'
     omega
   have hpl:t.place.size=es.size:=by
    have:=hT.fits
    unfold SetTable.fits at this
    rw [Bool.and_eq_true] at this
    exact eq_of_beq this.1
   have hlen:(es.toList.map (·.2)).length=es.size:=by simp
   refine h _ s.drawn _ [s.heap.objs.size,a] (fun i s' => ∃ f,ItS s'.heap s.heap.objs.size a o es.size ep f i∧∃ k:Nat,f = .int k 0∧SetTable.below t.place k=i) (es.toList.map (·.2)) xs (fun b o e=>Heap.get?_push_of_some _ e) (Nat.le_refl _) hfp (fun A' hA' => ?_) ⟨_,X0,0,rfl,?_⟩ hs (.refl _)
   ·rw [hlen]
    refine walks_of (F:=fun i f h' => ∃ k:Nat,f = .int k 0∧SetTable.below t.place k=i) hA' hd hT.fits hIa (by simp) (by simp) (fun i f h1 h2 hF hk=>hF) (fun i s' f hi ho' hF => ?_) (fun s' f ho' hF => ?_)
    ·obtain ⟨k,rfl,hk⟩:=hF
     have hi':i<t.place.size:=by omega
     refine ⟨(es[i]).2,.int ((t.place[i]+1:Nat)) 0,?_,.inl ⟨k,t.place[i]+1,rfl,rfl,fun A E Q hQ=>next_few hbf ho' hd hT h1 ?_⟩,_,rfl,?_⟩
     ·rw [List.getElem?_map,Array.getElem?_toList,Array.getElem?_eq_getElem hi]; rfl
     ·rw [hk,Array.getElem?_eq_getElem hi,Array.getElem?_eq_getElem hi']; exact hQ
     ·have hi0:i=0:=by omega
      subst hi0
      have e1:t.place = #[t.place[0]]:=Array.ext (by simp; omega) fun j h2 h3=>by
       have:j=0:=by omega
       subst this; rfl
      generalize t.place[0]=p at e1 ⊢
      rw [e1,below1,if_pos (by omega)]
    ·obtain ⟨k,rfl,hk⟩:=hF
     refine .inl ⟨k,rfl,fun A E Q hQ=>next_few hbf ho' hd hT h1 ?_⟩
     rw [hk,Array.getElem?_eq_none (Nat.le_refl _)]
     exact hQ
   ·by_cases h0:es.size=0
    ·have:t.place = #[]:=Array.eq_empty_of_size_eq_zero (by omega)
     rw [this]; rfl
    ·have hp1:t.place.size=1:=by omega
     have e1:t.place = #[t.place[0]]:=Array.ext (by simp; omega) fun j h2 h3=>by
       have:j=0:=by omega
       subst this; rfl
     generalize t.place[0]=p at e1
     rw [e1,below1,if_neg (by omega)]
end
end DL
end
section
set_option maxHeartbeats 1000000
namespace DL
open PySem PySem.Spec PyProof.Rows L2 PySem.W SO
section
variable {prog:Program} {w:World} {A:Around} {E:Value→Shared→Prop} {s:Shared} {a:Addr}
theorem SetT.kept {h h':Heap} {xs:List Str} (x:SetT prog w h a xs) (hk:∀ b o,h.get? b=some o→h'.get? b=some o):SetT prog w h' a xs:=by
 obtain ⟨o,es,ep,t,ho,r⟩:=x
 exact ⟨o,es,ep,t,hk _ _ ho,r⟩
theorem SetT.typeIs {xs : List Str} (x : SetT prog w s.heap a xs) : s.TypeIs (.ref a) "set" := by
 obtain ⟨o,es,ep,t,ho,hx,_⟩:=x
 exact ⟨o,ho,hx.1⟩
theorem SetT.len {h:Heap} {xs:List Str} (x:SetT prog w h a xs):xs.length<scanBound∧xs.Nodup∧a<h.objs.size:=by
 obtain ⟨o,es,ep,t,ho,hx,hd,hT,hel,hs,hn,hb⟩:=x
 have:=hs.length
 rw [List.length_map,Array.length_toList] at this
 exact ⟨by omega,hn,Heap.lt_size ho⟩
theorem set_hint {Q : Bool → Shared → Prop} (hT : s.TypeIs (.ref a) "set") (h : Q false s) : wpAny (model prog w) A (Builtin.List.listLengthHint (.ref a)) Q E s := by
 unfold Builtin.List.listLengthHint
 refine wpAny_bind (wpAny_specialOf hT PySem.F.slot_set_len.lookup ?_)
 generalize hid : ("set.__len__" : String) = id0
 wp_delta
 rw [show splitId id0 = some ("set", "__len__") from by subst hid; decide +kernel]
 subst hid
 refine wpAny_bind (wpAny_isInstance (T := "set") (b := true) hT (by rw [isSubtype_type]; kernel_rfl) ?_)
 refine wpAny_ite_split (fun z=>absurd z (by decide)) (fun _ => ?_)
 exact wpAny_ite_split (fun _=>wpAny_bind (wpAny_typeOf hT (wpAny_pure h))) (fun z=>absurd (by decide +kernel) z)
theorem collect_set {xs:List Str} {R:List Value→Shared→Prop} (hh:A.handled=none) (hS:SetT prog w s.heap a xs)
  (h:∀ (h':Heap) (tk:Nat) (d:Drawn) (vs:List Value) (ys:List Str),(∀ b o,s.heap.get? b=some o→h'.get? b=some o)→StrsAre vs ys→ys.Perm xs→R vs { s with heap:=h',toks:=tk,drawn:=d }) :
  wpAny (model prog w) A (collect (.ref a)) R E s:=by
 unfold collect
 refine wpAny_bind (wpAny_runValue (codeAny_builtin entry_proto_collect' ?_))
 rw [Around.under_plainId PySem.F.plain_proto_collect _]
 show wpAny _ A.in1 (newList [] >>= fun l => again (.builtin "list.__iadd__" ⟨[l, .ref a], []⟩)) _ _ s
 refine wpAny_bind (wpAny_newObj_type (wpAny_pure ⟨plainId_quiet PySem.F.plain_list_iadd _,codeAny_builtin entry_list_iadd' ?_⟩))
 rw [Around.under_plainId PySem.F.plain_list_iadd _]
 show wpAny _ A.in1 (Builtin.List.listExtendWith (.ref s.heap.objs.size) (.ref a) (.ref s.heap.objs.size)) _ _ _
 generalize hoL : ({ cls := .type "list", data := .seq ([] : List Value).toArray } : Obj) = oL
 have hL : (s.heap.push oL).get? s.heap.objs.size = some { cls := .type "list", data := .seq #[] } := by rw [Heap.get?_push_size _ (by rw [← hoL]; rfl), ← hoL]
 have k0:∀ b o,s.heap.get? b=some o→(s.heap.push oL).get? b=some o:=fun b o e=>Heap.get?_push_of_some _ e
 have hsz:(s.heap.push oL).objs.size=s.heap.objs.size+1:=Heap.size_push ..
 have haS:=hS.len.2.2
 have hS1:SetT prog w (s.heap.push oL) a xs:=hS.kept k0
 generalize s.heap.push oL=H1 at hL k0 hsz hS1
 unfold Builtin.List.listExtendWith
 refine wpAny_bind (wpAny_typeOf (T := "set") (SetT.typeIs (s := { s with heap := H1 }) hS1) ?_)
 have h1:Builtin.List.listSameRef (.ref s.heap.objs.size) (.ref a)=false:=by
  have:s.heap.objs.size≠a:=Nat.ne_of_gt haS
  simp [Builtin.List.listSameRef,this]
 refine wpAny_ite_split (fun z => ?_) (fun _ => ?_)
 ·rw [h1] at z
  exact absurd z (by decide)
 refine wpAny_bind (iter_set (s:={ s with heap:=H1 }) hS1 fun h2 d I fp St L ys k2 hI hfp W st0 hys hp => ?_)
 refine wpAny_bind (wpAny_holding (set_hint (SetT.typeIs (s:={ s with heap:=h2,drawn:=d }) (hS1.kept k2)) ?_))
 refine wpAny_ite_split (fun _ => ?_) (fun z=>absurd (by decide +kernel) z)
 refine wpAny_bind (wpAny_rule ?_)
 have hf:s.heap.objs.size ∉ fp:=fun z=>by
  rcases hfp _ z with e | e
  ·rw [e] at haS; exact absurd haS (Nat.lt_irrefl _)
  ·have e':H1.objs.size≤s.heap.objs.size:=e
   omega
 have hg2:=k2 _ _ hL
 refine wpAny_bind ?_
 show wpAny _ _ (updateSeq s.heap.objs.size (·.push .none) >>= fun _=>updateSeq s.heap.objs.size (·.pop)) _ _ _
 refine wpAny_bind (wpAny_updateSeq hg2 rfl ?_)
 have hg3:=Heap.get?_update_self (Obj.mapSeq (·.push Value.none)) hg2 rfl
 refine wpAny_updateSeq (hz:=by seq_fits) hg3 rfl ?_
 have hg4:=Heap.get?_update_self (Obj.mapSeq (·.pop)) hg3 rfl
 have k4:∀ b o,b≠s.heap.objs.size→h2.get? b=some o→((h2.update s.heap.objs.size (Obj.mapSeq (·.push Value.none))).update s.heap.objs.size (Obj.mapSeq (·.pop))).get? b=some o:=fun b o hb e =>
  (Heap.get?_update_other _ _ (Ne.symm hb)).trans ((Heap.get?_update_other _ _ (Ne.symm hb)).trans e)
 refine wpAny_pure ⟨plainId_quiet PySem.F.plain_extend_loop _,?_⟩
 have hl:L.length=xs.length:=by rw [← hp.length_eq]; exact hys.length
 have W1:=W A.in1 (by simp [hh])
 have st1:=W1.frame 0 _ ((h2.update s.heap.objs.size (Obj.mapSeq (·.push Value.none))).update s.heap.objs.size (Obj.mapSeq (·.pop))) s.toks st0 (Nat.le_refl _) fun b hb o e=>k4 b o (fun z=>hf (z ▸ hb)) e
 refine codeAny_extend_loopS W1 (by rw [hl]; exact fits_of_scanBound hS.len.1) s.heap.objs.size hf _ (L.length - 0) 0 _ #[] _ rfl (Nat.zero_le _) st1 hg4 (ItemsOf.nil _) fun s' acc c m hg hit => ?_
 rw [Moved.eq_with m]
 refine wpAny_bind (wpAny_load hg ?_)
 refine wpAny_pure ?_
 rw [items_list hit]
 refine h _ _ _ _ ys (fun b o e=>m.heap b o ?_ (k4 b o (Nat.ne_of_lt (Heap.lt_size e)) (k2 _ _ (k0 _ _ e)))) hys hp
 have hb:=Heap.lt_size e
 have hI':s.heap.objs.size+1≤I:=hsz ▸ hI
 simp only [List.mem_cons,List.not_mem_nil,or_false,not_or]
 exact ⟨Nat.ne_of_lt hb,Nat.ne_of_lt (Nat.lt_of_lt_of_le hb (Nat.le_of_succ_le hI'))⟩
end
end DL
end
section
set_option maxHeartbeats 1000000
namespace DL
open PySem PySem.Spec PyProof.Rows L2 PySem.W SO
noncomputable def ddS:List Str→List Str
 | []=>[]
 | x :: xs=>if x∈ddS xs then ddS xs else x :: ddS xs
theorem ddS_mem:∀ (xs:List Str) (y:Str),y∈ddS xs ↔ y∈xs
 | [],y=>Iff.rfl
 | x :: xs,y=>by
  unfold ddS
  split
  ·rename_i h
   rw [ddS_mem xs y,List.mem_cons]
   exact ⟨.inr,fun z=>z.elim (fun e=>e ▸ (ddS_mem xs x).mp h) id⟩
  ·rw [List.mem_cons,List.mem_cons,ddS_mem xs y]
theorem ddS_nodup:∀ (xs:List Str),(ddS xs).Nodup
 | []=>List.nodup_nil
 | x :: xs=>by
  unfold ddS
  split
  ·exact ddS_nodup xs
  ·rename_i h
   exact List.nodup_cons.mpr ⟨h,ddS_nodup xs⟩
theorem ddS_len:∀ (xs:List Str),(ddS xs).length≤xs.length
 | []=>Nat.le_refl _
 | x :: xs=>by
  unfold ddS
  have:=ddS_len xs
  split
  ·exact Nat.le_succ_of_le this
  ·exact Nat.succ_le_succ this
noncomputable def setSF:List D→Sto→Out (List D)
 | [d],st=>match seqL st d with
  | some xs=>match strsD xs with
   | some ss=>if ss.length<64 then .ok ((srtS (ddS ss)).map D.str) st else .bad
   | none => .bad
  | none => .bad
 | _,_ => .bad
section
variable {prog:Program} {w:World} {A:Around} {E:Value→Shared→Prop} {s:Shared} {a:Addr}
theorem sorted_set {xs:List Str} {Q:Value→Shared→Prop} (hh:A.handled=none) (hS:SetT prog w s.heap a xs) (h64:xs.length<64)
  (k:∀ vs ys,StrsAre vs ys→ys.Perm xs→∀ p:List Nat,p.Perm (List.range ys.length)→p.Pairwise (fun i j=>tltB (ys.getD i default) (ys.getD j default)=true)→∀ (h1:Heap) b (h':Heap) tk d c,(∀ b o,s.heap.get? b=some o→h1.get? b=some o)→h1.objs.size≤b→(∀ b o,h1.get? b=some o→h'.get? b=some o) →
   h'.get? b = some (seqObj "list" (p.map fun i => vs.getD i .none).toArray c) → Q (.ref b) { s with heap := h', toks := tk, drawn := d }) :
  wpAny (model prog w) A (call (.builtin "sorted") [.ref a]) Q E s := by
 refine Calls.call_function_entry kind_sorted plain_sorted entry_sorted (args_sorted1 _) ?_
 unfold Builtin.«sorted»
 refine wpAny_bind (m := checkCount "sorted" 1 1 _) (wpAny_pure ?_)
 refine wpAny_bind (collect_set (by simp [hh]) hS fun h1 tk d vs ys k1 hys hp => ?_)
 have hl:vs.length=ys.length:=hys.length
 have hl2:ys.length=xs.length:=hp.length_eq
 refine wpAny_bind (wpAny_newList ?_ (by rw [sizeLine_eq]; omega))
 have hoL : (h1.push (seqObj "list" vs.toArray 0)).get? h1.objs.size = some (seqObj "list" vs.toArray 0) := Heap.get?_push_size _ rfl
 have keep : ∀ b o, h1.get? b = some o → (h1.push (seqObj "list" vs.toArray 0)).get? b = some o := fun b o q => Heap.get?_push_of_some _ q
 show wpAny _ _ _ _ _ { s with heap := h1.push (seqObj "list" vs.toArray 0), toks := tk, drawn := d }
 generalize h1.push (seqObj "list" vs.toArray 0) = g at hoL keep
 refine wpAny_bind (wpAny_holding (wpAny_call_entry slot_list_sort ⟨_,hoL,rfl⟩ entry_list_sort ?body (args_list_sort _)))
 case body =>
  refine list_sort_keep (s:={ s with heap:=g,toks:=tk,drawn:=d }) (κ:=oneType') (lt:=fun i j=>tltB (ys.getD i default) (ys.getD j default)) hoL (by omega) (str_cmp hys) (by rw [hl]; exact str_ord (hp.nodup_iff.mpr hS.len.2.1)) fun p hp' hpw h' c hb hc => ?_
  refine ⟨_,rfl,wpAny_pure ⟨_,rfl,?_⟩⟩
  rw [hl] at hp'
  exact k vs ys hys hp p hp' hpw h1 _ h' tk d c k1 (Nat.le_refl _) (fun b o e=>hb b o (Nat.ne_of_lt (Heap.lt_size e)) (keep b o e)) hc
end
section
variable {X:Cx} {EX:EXT} {pins:List (Addr×Obj)} {σ:L2.St} {H:Hp} {s:Shared}
theorem Inv.drew {d:Drawn} (I:Inv X pins σ H s):Inv X pins σ H { s with drawn:=d }:=⟨I.ok,I.os,I.bare,I.base,I.loc,I.cell,I.free,I.freeC,I.pin,I.hok,I.len⟩
theorem pdf_sortSet {e : Expr} {x y : Str} {p q pos pos2 : Pos} {f : DA} (hcalm : X.calm = true) (hg : Gl X x) (hm : X.mg x = none) (hv : bootBuiltins x = some (.builtin "sorted")) (hg2 : Gl X y) (hm2 : X.mg y = none) (hv2 : bootBuiltins y = some (.type "set")) (ha : PDA X EX [e] f)
  (hn : x ≠ "__name__" := by decide) (hdb : (x == ("__debug__" : Str)) = false := by decide) (hn2 : y ≠ "__name__" := by decide) (hdb2 : (y == ("__debug__" : Str)) = false := by decide)
  (he:starEach [e] X.env=(false,eval e X.env) :: starEach [] X.env:=by rfl):PDF X EX (.Call (.Name x p) [.Call (.Name y q) [e] [] pos2] [] pos) (dCall setSF f):=by
 intro pins s σ H Q I h
 have h':=callF_imp _ _ _ h
 refine wpAny_Call_Name_kw (ld_blt I hg hm hv ?_ hn hdb)
 refine PyProof.Rows.callWith_builtin1 ?_ rfl rfl
 show wpAny _ _ (spliced ((false,eval (.Call (.Name y q) [e] [] pos2) X.env) :: backTo pos (starEach [] X.env))) _ _ s
 refine Calls.spliced_cons ?_
 refine wpAny_Call_Name_kw (ld_blt I hg2 hm2 hv2 ?_ hn2 hdb2)
 refine PyProof.Rows.callWith_type1 (thn (ha pos2 pins s σ H _ I h') fun us s1 ⟨vs,H1,I1,r1,q1⟩ => ?_) he rfl
 obtain ⟨O,ds,st,W,r,R⟩:=q1
 unfold setSF at R
 split at R
 ·rename_i d
  obtain ⟨v,rfl,rv⟩:=r.one_of
  split at R
  ·rename_i zs ez
   split at R
   ·rename_i ss hss
    by_cases hc:ss.length<64
    ·rw [if_pos hc] at R
     obtain ⟨pl,vs,rfl,qq,rs⟩:=rdL W rv ez
     have hzs:=strsD_eq hss
     subst hzs
     cases r1 with
     | cons r0 rt =>
      cases rt
      cases r0
      obtain ⟨its,rv',pl',hz⟩:=I1.list qq
      have hl1:=rv'.length
      have hl2:=rs.length
      rw [List.length_map] at hl2
      have sAll:StrsAre its ss:=by
       refine strsAre_of (by omega) fun i v x h1 h2 => ?_
       obtain ⟨y,h3,h4⟩:=rs.get (i:=i) (d:=D.str x) (by rw [List.getElem?_map,h2]; rfl)
       rw [Rep.str_i] at h4
       subst h4
       obtain ⟨u,h5,t,h6⟩:=rv'.get h3
       rw [h1] at h5
       cases h5
       exact ⟨t,h6⟩
      have hsb:its.length=ss.length:=by omega
      refine call_setT (items:=its.toArray) (ss:=ss) (I1.ok.hd hcalm) pl'.isList (by simpa using sAll) (by
       have:scanBound=4096:=rfl
       simp; omega) fun h2 tk xs hS hmem hk => ?_
      refine Calls.spliced_nil ?_
      have k1:∀ b o,s1.heap.get? b=some o→h2.get? b=some o:=fun b o e=>hk b o (Heap.lt_size e) e
      have hperm:xs.Perm (ddS ss):=(List.perm_ext_iff_of_nodup hS.len.2.1 (ddS_nodup ss)).mpr fun y=>by rw [hmem,ddS_mem]
      have hxl:xs.length<64:=by
       rw [hperm.length_eq]
       exact Nat.lt_of_le_of_lt (ddS_len ss) hc
      have I2:Inv X pins σ H1 { s1 with heap:=h2,toks:=tk }:=I1.kept k1
      refine sorted_set (s:={ s1 with heap:=h2,toks:=tk }) (I1.ok.hd hcalm) hS hxl fun vs' ys hys hp ix hpx hw h3 b h4 tk4 d4 c k3 hb k4 hg4 => ?_
      have I3:Inv X pins σ H1 { s1 with heap:=h2,toks:=tk,drawn:=d4 }:=Inv.drew I2
      have hsame:srtS ys=srtS (ddS ss):=by
       refine (srtS_uniq ?_ ?_).symm
       ·exact (srtS_perm _).trans (hp.trans hperm).symm
       ·refine List.Pairwise.imp₂ (R:=fun a b=>tleB a b=true) (S:=fun a b=>a≠b) (fun a b h1 h2 => ?_) (srtS_pw _) ((srtS_perm (ddS ss)).nodup_iff.mpr (ddS_nodup ss))
        simp only [tleB,tltB,decide_eq_true_eq] at *
        by_cases h5:a.cps.toList<b.cps.toList
        ·exact h5
        ·exact absurd (str_cps (List.le_antisymm h1 (List.not_lt.mp h5))) h2
      exact str_new (s:={ s1 with heap:=h2,toks:=tk,drawn:=d4 }) I3 W hys (hsame ▸ R) hpx hw (by rw [hp.length_eq]; exact hxl) k3 hb k4 hg4
    ·rw [if_neg hc] at R; exact R.elim
   ·exact R.elim
  ·exact R.elim
 ·exact R.elim
end
end DL
end
section
set_option maxHeartbeats 1000000
namespace DL
open PySem PySem.Spec PyProof.Rows L2
namespace SF
end SF
section
variable {prog:Program} {w:World} {A:Around} {E:Value→Shared→Prop} {s:Shared}
end
section
variable {X:Cx} {EX:EXT} {pins:List (Addr×Obj)} {σ:L2.St} {H:Hp} {s:Shared} {O:List Addr}
end
end DL
end
section
set_option maxHeartbeats 1000000
namespace DL
open PySem PySem.Spec PyProof.Rows L2
section
variable {prog:Program} {w:World} {A:Around} {E:Value→Shared→Prop} {s:Shared}
end
section
variable {X:Cx} {EX:EXT} {e k:Expr} {pos p2:Pos} {fa fk:DE}
end
end DL
end
section
set_option maxHeartbeats 1000000
namespace DL
open PySem PySem.Spec PyProof.Rows L2
noncomputable def Itl (K:PySem.W.Frag) (a b:Addr):It :=
  ⟨fun i H => ∃ xs ys x y,SqL K H a xs∧SqL K H b ys∧xs[i]?=some x∧ys[i]?=some y,
   fun i H v H' => ∃ p x y,H p=none∧v = .ref p∧H'=upd H p (.tup [x,y])∧(∀ xs,SqL K H a xs→xs[i]?=some x)∧∀ ys,SqL K H b ys→ys[i]?=some y,
   fun i H => ∃ xs ys,SqL K H a xs∧SqL K H b ys∧(xs.length≤i∨ys.length≤i)⟩
section
variable {X:Cx} {EX:EXT} {es:List Expr} {k:Nat} {pt p pos:Pos} {a b:Expr} {g:DA}
end
end DL
end
section
set_option maxHeartbeats 1000000
namespace DL
open PySem PySem.Spec PyProof.Rows L2
section
variable {X:Cx} {EX:EXT} {tg a:Expr} {p pos:Pos} {f:DE}
end
end DL
end
section
set_option maxHeartbeats 1000000
namespace DL
open PySem PySem.Spec PyProof.Rows L2 PySem.W
noncomputable def RawD (h:Heap) (d:Addr) (es:Array DictEntry) (ep:Nat):Prop:=∃ o,h.get? d=some o∧o.ExactDict∧o.data = .dict es ep
section
variable {prog:Program} {w:World} {A:Around} {E:Value→Shared→Prop} {s:Shared}
theorem RawD.typeIs {d : Addr} {es : Array DictEntry} {ep : Nat} (x : RawD s.heap d es ep) : s.TypeIs (.ref d) "dict" := let ⟨o, e, c, _⟩ := x; ⟨o, e, c.1⟩
theorem RawD.kept {h h':Heap} {d:Addr} {es:Array DictEntry} {ep:Nat} (x:RawD h d es ep) (k:∀ o,h.get? d=some o→h'.get? d=some o):RawD h' d es ep:=let ⟨o,e,r⟩:=x; ⟨o,k o e,r⟩
theorem raw_iter {d:Addr} {es:Array DictEntry} {ep:Nat} {Q:Value→Shared→Prop} (hd:(d == sysModules)=false) (hm:RawD s.heap d es ep)
  (hQ : Q (.ref s.heap.objs.size) { s with heap := s.heap.push { cls := .type "dict_keyiterator", data := .fields #[.ref d, .int 0 0, .int es.size 0, .int ep 0] } }) : wpAny (model prog w) A (pyIter (.ref d)) Q E s := by
 obtain ⟨o,ho,hc,hdat⟩:=id hm
 have hT:=hm.typeIs
 refine wpAny_pyIter_slot hT PySem.F.slot_dict_iter (wpAny_call_entry PySem.F.slot_dict_iter hT PySem.F.entry_dict_iter ?_ (PySem.F.args_dict_iter_1 _))
 unfold Builtin.«dict.__iter__» Builtin.Dict.dictSlotNone
 refine wpAny_bind (wpAny_bind (wpAny_notOrdered_dict hT (wpAny_pure ?_)))
 dsimp only
 refine wpAny_bind (m:=Builtin.Dict.showsAll d) ?_
 unfold Builtin.Dict.showsAll
 refine wpAny_ite_split (fun z=>by rw [hd] at z; cases z) (fun _=>wpAny_pure ?_)
 refine wpAny_bind (wpAny_dictEntries ho hdat (wpAny_bind (wpAny_dictEpoch ho hdat ?_)))
 refine wpAny_bind (wpAny_newObj_type (wpAny_pure ⟨_, rfl, "dict_keyiterator", _, ⟨_, Heap.get?_push_size _ rfl, rfl⟩, PySem.F.slot_dict_keyiterator_next.lookup, ?_⟩))
 simpa [rawInt] using hQ
theorem raw_item {it d:Addr} {i ep:Nat} {es:Array DictEntry} {e:DictEntry} {Q:Option Value→Shared→Prop} (hit:s.heap.IsKeyIter it d i es.size ep) (hm:RawD s.heap d es ep) (hx:es[i]?=some e)
  (hQ:∀ h',h'.IsKeyIter it d (i+1) es.size ep→Heap.SameBut it s.heap h'→Q (some e.key) { s with heap:=h' }):wpAny (model prog w) A (pyNext (.ref it)) Q E s:=by
 obtain ⟨o,ho,hc,hd⟩:=id hit
 obtain ⟨od,hod,hcd,hdd⟩:=id hm
 unfold pyNext
 refine wpAny_bind (wpAny_attempt (wpAny_callSpecial?_slot (name := Str.ofString "__next__") hit.typeIs PySem.F.slot_dict_keyiterator_next
  (wpAny_call_entry PySem.F.slot_dict_keyiterator_next hit.typeIs PySem.F.entry_dict_keyiterator_next ?_ (PySem.F.args_dict_keyiterator_next_1 _))))
 have hown : Builtin.Dict_items.ownsTuple "dict_keyiterator" = false := by decide
 have hT:=hit.typeIs
 repeat (any_goals (first | assumption | with_reducible refine wpAny_typeNameOfWhole_keyiter hT ?_ | with_reducible refine wpAny_fieldsOf ho hd ?_ | with_reducible refine wpAny_dictEntries hod hdd ?_ | with_reducible refine wpAny_dictEpoch hod hdd ?_ | with_reducible refine wpAny_isOneOf_keyiter hT ?_ | wp_step))
 simp only [show ¬ ((i:Int)<0) by omega,if_false,Int.toNat_natCast,hx]
 repeat (any_goals (first | assumption | with_reducible refine wpAny_typeNameOfWhole_keyiter hT ?_ | with_reducible refine wpAny_isOneOf_keyiter hT ?_ | ((fail_if_success (with_reducible show wpAny _ _ (setField _ _ _) _ _ _)); wp_step)))
 simp only [hown,Bool.false_eq_true,if_false,Nat.zero_add]
 refine wpAny_setField ho hd (by simp) ?_
 rw [if_neg]
 rotate_left
 ·decide +kernel
 have hit':(s.heap.update it (Obj.mapFields (·.setIfInBounds 1 (rawInt ((i:Int)+1))))).IsKeyIter it d (i+1) es.size ep :=
  ⟨_,Heap.get?_update_self _ ho (Obj.isFreed_of_fields (Obj.data_mapFields hd _)),(Obj.cls_mapFields ..).trans hc,by rw [Obj.data_mapFields hd]; simp [rawInt]⟩
 have sb:=Heap.SameBut.update s.heap it (Obj.mapFields (·.setIfInBounds 1 (rawInt ((i:Int)+1))))
 generalize s.heap.update it (Obj.mapFields (·.setIfInBounds 1 (rawInt ((i:Int)+1))))=h2 at hit' sb
 have hT2 : Shared.TypeIs { s with heap := h2 } (.ref it) "dict_keyiterator" := hit'.typeIs
 refine wpAny_bind (wpAny_holding (wpAny_bind (wpAny_isOneOf_keyiter hT2 ?_)))
 refine wpAny_ite_split (fun _ => ?_) (fun z=>absurd (by decide +kernel) z)
 exact wpAny_pure (wpAny_pure ⟨_,rfl,wpAny_pure (hQ _ hit' sb)⟩)
theorem raw_end {it d:Addr} {i ep:Nat} {es:Array DictEntry} {Q:Option Value→Shared→Prop} (hh:A.handled=none) (hit:s.heap.IsKeyIter it d i es.size ep) (hm:RawD s.heap d es ep) (hx:es[i]?=none)
  (hQ:∀ h',Heap.ExtBut it s.heap h'→Q none { s with heap:=h' }):wpAny (model prog w) A (pyNext (.ref it)) Q E s:=by
 obtain ⟨o,ho,hc,hd⟩:=id hit
 obtain ⟨od,hod,hcd,hdd⟩:=id hm
 unfold pyNext
 refine wpAny_bind (wpAny_attempt (wpAny_callSpecial?_slot (name := Str.ofString "__next__") hit.typeIs PySem.F.slot_dict_keyiterator_next
  (wpAny_call_entry PySem.F.slot_dict_keyiterator_next hit.typeIs PySem.F.entry_dict_keyiterator_next ?_ (PySem.F.args_dict_keyiterator_next_1 _))))
 have hown : Builtin.Dict_items.ownsTuple "dict_keyiterator" = false := by decide
 have hT:=hit.typeIs
 repeat (any_goals (first | assumption | with_reducible refine wpAny_typeNameOfWhole_keyiter hT ?_ | with_reducible refine wpAny_fieldsOf ho hd ?_ | with_reducible refine wpAny_dictEntries hod hdd ?_ | with_reducible refine wpAny_dictEpoch hod hdd ?_ | with_reducible refine wpAny_isOneOf_keyiter hT ?_ | wp_step))
 simp only [show ¬ ((i:Int)<0) by omega,if_false,Int.toNat_natCast,hx]
 repeat (any_goals (first | assumption | with_reducible refine wpAny_typeNameOfWhole_keyiter hT ?_ | with_reducible refine wpAny_isOneOf_keyiter hT ?_ | ((fail_if_success (with_reducible show wpAny _ _ (setField _ _ _) _ _ _)); wp_step)))
 simp only [hown,Bool.false_eq_true,if_false]
 refine wpAny_setField ho hd (by simp) ?_
 refine stop_tail (s:={ s with heap:=s.heap.update it (Obj.mapFields (·.setIfInBounds 0 Value.none)) }) hh fun o1 o2 c2 g2 => ?_
 refine wpAny_bind (wpAny_isInstance (T := "StopIteration") (b := true) ⟨_, g2, c2⟩ isSubtype_stop ?_)
 exact wpAny_pure (hQ _ (((Heap.SameBut.update ..).extBut.push _).push _))
theorem raw_walks (hh:A.handled=none) (I d:Addr) (hne:d≠I) (es:Array DictEntry) (ep:Nat) :
  Walks prog w A I [I,d] [I] es.size (fun i v => ∃ e,es[i]?=some e∧v=e.key) (fun i h=>h.IsKeyIter I d i es.size ep∧RawD h d es ep) where
 sub:=fun b hb=>by simp at hb; simp [hb]
 frame:=fun _ _ _ st hk=>⟨let ⟨o,e,r⟩:=st.1; ⟨o,hk I (by simp) o e,r⟩,st.2.kept fun o e=>hk d (by simp) o e⟩
 item:=fun i s Q E hi st hQ=>by
  refine raw_item st.1 st.2 (e:=es[i]) (by simp [hi]) fun h' hit' hs' => ?_
  exact hQ _ h' s.toks ⟨es[i],by simp [hi],rfl⟩ ⟨hit',st.2.kept fun o e=>hs'.extBut d o hne e⟩ fun b o hb e=>hs'.extBut b o (fun h=>hb (by simp [h])) e
 done:=fun s Q E st hQ=>raw_end hh st.1 st.2 (by simp) fun h' he'=>hQ h' s.toks fun b o hb e=>he' b o (fun h=>hb (by simp [h])) e
 self:=fun _ _ _ _ st hQ=>wpAny_pyIter_keyiter st.1 hQ
theorem raw_src {d : Addr} {es : Array DictEntry} {ep : Nat} (lo : (d == sysModules) = false) : KdlSrc prog w "dict" d d es.size (fun i v => ∃ e, es[i]? = some e ∧ v = e.key) (fun h => RawD h d es ep) where
 type:=fun _ hm=>hm.typeIs
 there:=fun _ hm=>let ⟨_,e,_⟩:=hm; ⟨Heap.lt_size e,Heap.lt_size e⟩
 keep:=fun _ _ hm hk=>hm.kept fun o e=>hk d (.inl rfl) o e
 notList:=by decide
 notTuple:=by decide
 hint:=fun _ _ _ _ hm hq=>kdl_hint_dict hm.typeIs hq
 iter:=fun _ _ hh hm=>⟨_,_,(fun _ _ hq=>raw_iter lo hm hq),raw_walks hh _ d (Nat.ne_of_lt (let ⟨_,e,_⟩:=hm; Heap.lt_size e)) es ep,⟨⟨_,Heap.get?_push_size _ rfl,rfl,rfl⟩,hm.kept fun o e=>Heap.get?_push_of_some _ e⟩⟩
end
end DL
end
section
set_option maxHeartbeats 1000000
namespace DL
open PySem PySem.Spec PyProof.Rows L2 PySem.W
theorem rep_key {K:PySem.W.Frag} {O:List Addr} {H:Hp} {d:D} {q:Key} (h:keyD d=some q):Rep K O H d (kV q):=by
 cases d with
 | int i =>
  cases (show some (Sum.inl i)=some q from h)
  exact Rep.int_i.mpr rfl
 | str x =>
  cases (show some (Sum.inr x)=some q from h)
  exact Rep.str_i.mpr rfl
 | _=>cases h
theorem reps_keys {K:PySem.W.Frag} {O:List Addr} {H:Hp}:∀ {ds:List D} {qs:List Key},keyDs ds=some qs→Reps K O H ds (qs.map kV)
 | [],qs,h=>by
  cases (show some []=some qs from h)
  exact Reps.nil_i.mpr rfl
 | d :: ds,qs,h=>by
  unfold keyDs at h
  cases h1:keyD d with
  | none=>rw [h1] at h; cases h
  | some k =>
   cases h2:keyDs ds with
   | none=>rw [h1,h2] at h; cases h
   | some ks =>
    rw [h1,h2] at h
    cases h
    exact Reps.cons_i.mpr ⟨_,_,rfl,rep_key h1,reps_keys h2⟩
theorem rep_keyT {K:PySem.W.Frag} {O:List Addr} {H:Hp} {d:D} {q:List Key} {a:Addr} (h:keyT d=some q) (ha:H a=some (.tup (q.map kV))):Rep K O H d (.ref a):=by
 cases d with
 | tup ds=>exact Rep.tup_i.mpr ⟨a,_,rfl,ha,reps_keys h⟩
 | _=>cases h
theorem kt_keys {K:PySem.W.Frag} {O:List Addr} {H:Hp}:∀ {ds:List (D×D)} {vs:List (List Key×V)} {xs:List (List Key×Addr×Value)},Kvs K keyT O H ds vs→KT H vs xs→Reps K O H (ds.map (·.1)) (xs.map fun x=>V.ref x.2.1)
 | [],vs,xs,h,t=>by
  cases (show vs=[] from h)
  cases t
  exact Reps.nil_i.mpr rfl
 | (k,d) :: ds,vs,xs,h,t=>by
  obtain ⟨q,v,r,rfl,hk,hr,ht⟩:=(show ∃ q v r,vs=(q,v) :: r∧keyT k=some q∧Rep K O H d v∧Kvs K keyT O H ds r from h)
  cases t with
  | cons hq t =>
   rw [List.map_cons,List.map_cons]
   refine Reps.cons_i.mpr ⟨_,_,rfl,rep_keyT hk ?_,kt_keys ht t⟩
   exact hq.2.1
section
variable {X:Cx} {EX:EXT}
end
end DL
end
section
set_option maxHeartbeats 1000000
namespace DL
open PySem PySem.Spec PyProof.Rows L2 PySem.W SO
noncomputable def plB:List Str→List Str→Bool
 | [],[]=>false
 | [],_ :: _=>true
 | _ :: _,[]=>false
 | x :: xs,y :: ys=>if x=y then plB xs ys else tltB x y
theorem plB_same {x y:Str} (h:x=y) (xs ys:List Str):plB (x :: xs) (y :: ys)=plB xs ys:=by
 show (if x=y then _ else _)=_
 rw [if_pos h]
section
variable {prog:Program} {w:World} {A:Around} {E:Value→Shared→Prop} {s:Shared}
theorem tup_lt {x y:Addr} {xs ys:List Value} {ps qs:List Str} {Q:Value→Shared→Prop} (hx:IsTup s.heap x xs.toArray) (hy:IsTup s.heap y ys.toArray) (sx:StrsAre xs ps) (sy:StrsAre ys qs) (h:Q (.bool (plB ps qs)) s) :
  wpAny (model prog w) A (Builtin.«tuple.__lt__» ⟨[.ref x,.ref y],[]⟩) (fun fin s' => ∃ v,fin = .done (.ret v)∧Q v s') E s:=by
 have hTy:=hy.typeIs
 unfold Builtin.«tuple.__lt__»
 refine wpAny_bind (m:=slotArgs _ _ _) (wpAny_pure ?_)
 dsimp only
 refine wpAny_bind (wpAny_isInstance (T := "tuple") (b := true) hTy (by rw [isSubtype_type]; kernel_rfl) ?_)
 refine wpAny_ite_split (fun z=>absurd z (by decide)) (fun _ => ?_)
 refine wpAny_bind (tupleItemsOf_ hx (wpAny_bind (tupleItemsOf_ hy ?_)))
 refine wpAny_bind ?_
 have loop:∀ (xs ys:List Value) (ps qs:List Str),StrsAre xs ps→StrsAre ys qs→∀ (R:Option Fin×Unit→Shared→Prop),(∀ b,b=plB ps qs→R (some (.done (.ret (.bool b))),()) s)→(plB ps qs=decide (xs.length<ys.length)→R (none,()) s) →
   wpAny (model prog w) A (forIn (xs.zip ys) ((none,()):Option Fin×Unit) fun x __s=>do
      let __do_lift ← eqBool x.fst x.snd
      if (!__do_lift)=true then do
        rule "tuple.compare.by-the-first-pair-that-differs"
        let __do_lift ← richCompare CmpOp.Lt x.fst x.snd
        let __do_lift ← ret __do_lift
        pure (ForInStep.done (some __do_lift,()))
       else pure (ForInStep.yield (none,()))) R E s:=by
  intro xs
  induction xs with
  | nil =>
   intro ys ps qs sx sy R h1 h2
   cases sx
   rw [List.zip_nil_left,List.forIn_nil]
   refine wpAny_pure (h2 ?_)
   cases sy <;> simp [plB]
  | cons v xs ih =>
   intro ys ps qs sx sy R h1 h2
   cases sx with
   | cons a t sx =>
    cases sy with
    | nil =>
     rw [List.zip_nil_right,List.forIn_nil]
     exact wpAny_pure (h2 (by simp [plB]))
    | cons b u sy =>
     rw [List.zip_cons_cons,List.forIn_cons]
     refine wpAny_bind ?_
     dsimp only
     refine wpAny_bind (wpAny_eqBool_str ?_)
     by_cases hab:a=b
     ·rw [decide_eq_true hab]
      refine wpAny_ite_split (fun z=>absurd z (by decide)) (fun _=>wpAny_pure ?_)
      dsimp only
      refine ih _ _ _ sx sy R (fun c hc=>h1 c (hc.trans (plB_same hab _ _).symm)) fun hc=>h2 ?_
      rw [plB_same hab,hc]
      simp
     ·rw [decide_eq_false hab]
      refine wpAny_ite_split (fun _ => ?_) (fun z=>absurd (by decide) z)
      refine wpAny_bind (wpAny_rule (wpAny_bind (show wpAny _ _ (compareOp .Lt (.str a t) (.str b u)) _ _ _ from lt_str ?_)))
      refine wpAny_bind (wpAny_pure (wpAny_pure (wpAny_pure (h1 _ ?_))))
      show _=(if a=b then _ else _)
      rw [if_neg hab]
      rfl
 refine loop xs ys ps qs sx sy _ (fun b hb => ?_) fun hb => ?_
 ·subst hb
  exact wpAny_pure ⟨_,rfl,h⟩
 ·refine wpAny_pure ⟨_,rfl,?_⟩
  rw [hb] at h
  simpa [Builtin.Tuple.tupleCompareSizes] using h
theorem call_tup_lt {x y:Addr} {xs ys:List Value} {ps qs:List Str} {Q:Value→Shared→Prop} (hx:IsTup s.heap x xs.toArray) (hy:IsTup s.heap y ys.toArray) (sx:StrsAre xs ps) (sy:StrsAre ys qs) (h:Q (.bool (plB ps qs)) s) :
  wpAny (model prog w) A (call (.builtin "tuple.__lt__") [.ref x, .ref y]) Q E s :=
 wpAny_call_entry PySem.F.slot_tuple_lt hx.typeIs PySem.F.entry_tuple_lt (tup_lt hx hy sx sy h) (PySem.F.args_tuple_lt_2 _ _)
theorem one_tup {x y:Addr} {xs ys:List Value} {ps qs:List Str} {Q:Bool→Shared→Prop} (hu:A.units<cLine) (hx:IsTup s.heap x xs.toArray) (hy:IsTup s.heap y ys.toArray) (sx:StrsAre xs ps) (sy:StrsAre ys qs) (h:Q (plB ps qs) s) :
  wpAny (model prog w) A (keyLt' oneType' (.ref x) (.ref y)) Q E s:=by
 rw [keyLt'_oneType,oneLt'_eq]
 simp only [if_true]
 refine wpAny_bind (wpAny_cRoomFor hu ?_)
 refine wpAny_bind (wpAny_callSpecialIfBound?_slot hx.typeIs PySem.F.slot_tuple_lt (call_tup_lt hx hy sx sy ?_))
 exact wpAny_truthy_bool h
theorem gen_tup {x y:Addr} {xs ys:List Value} {ps qs:List Str} {Q:Bool→Shared→Prop} (hu:A.units<cLine) (hx:IsTup s.heap x xs.toArray) (hy:IsTup s.heap y ys.toArray) (sx:StrsAre xs ps) (sy:StrsAre ys qs) (h:Q (plB ps qs) s) :
  wpAny (model prog w) A (keyLt' general' (.ref x) (.ref y)) Q E s:=by
 show wpAny _ _ (oneLt' false (.ref x) (.ref y)) _ _ _
 have hTx:=hx.typeIs
 have hTy:=hy.typeIs
 have f1 : typeLookup (.type "tuple") "__lt__" = pure (some (.builtin "tuple.__lt__")) := PySem.F.slot_tuple_lt.lookup
 have f2:=PySem.F.slot_tuple_lt.bind (.ref x)
 refine kat_one _ _ ?_
 show wpAny _ _ (richCompare .Lt (.ref x) (.ref y)) _ _ _
 unfold richCompare
 refine wpAny_holding (wpAny_bind (wpAny_cRoomFor hu ?_))
 obtain ⟨hp,g,d,tk,os⟩:=s
 have sl : Slot "tuple" "__lt__" "tuple.__lt__" := PySem.F.slot_tuple_lt
 repeat (any_goals (first | assumption | refine wpAny_callSpecialIfBound?_slot (name := Str.ofString "__lt__") hTx sl (call_tup_lt hx hy sx sy ?_) | wp_step))
 done
end
end DL
end
section
set_option maxHeartbeats 1000000
namespace DL
open PySem PySem.Spec PyProof.Rows L2 PySem.W SO
noncomputable def PlsAre (h:Heap):List Value→List (List Str)→Prop
 | [],[]=>True
 | v :: vs,p :: ps=>(∃ b its,v = .ref b∧IsTup h b its.toArray∧StrsAre its p)∧PlsAre h vs ps
 | _,_=>False
theorem PlsAre.mono {h h':Heap}:∀ {vs:List Value} {ps:List (List Str)},PlsAre h vs ps→(∀ b,(.ref b)∈vs→∀ o,h.get? b=some o→h'.get? b=some o)→PlsAre h' vs ps
 | [],[],_,_=>trivial
 | v :: vs,p :: ps,x,k=>by
  obtain ⟨⟨b,its,rfl,⟨o,e,r⟩,s⟩,t⟩:=x
  exact ⟨⟨b,its,rfl,⟨o,k b List.mem_cons_self o e,r⟩,s⟩,t.mono fun c hc=>k c (List.mem_cons_of_mem _ hc)⟩
 | [],_ :: _,x,_=>x.elim
 | _ :: _,[],x,_=>x.elim
theorem PlsAre.length {h:Heap}:∀ {vs:List Value} {ps:List (List Str)},PlsAre h vs ps→vs.length=ps.length
 | [],[],_=>rfl
 | v :: vs,p :: ps,x=>by simp [PlsAre.length x.2]
 | [],_ :: _,x=>x.elim
 | _ :: _,[],x=>x.elim
theorem PlsAre.get {h:Heap}:∀ {vs:List Value} {ps:List (List Str)},PlsAre h vs ps→∀ (i:Nat),i<vs.length→∃ b its,vs.getD i .none = .ref b∧IsTup h b its.toArray∧StrsAre its (ps.getD i [])
 | [],[],_,i,hi=>by simp at hi
 | v :: vs,p :: ps,x,i,hi=>by
  obtain ⟨⟨b,its,rfl,t,s⟩,r⟩:=x
  cases i with
  | zero=>exact ⟨b,its,rfl,t,s⟩
  | succ i=>exact PlsAre.get r i (by simpa using hi)
 | [],_ :: _,x,_,_=>x.elim
 | _ :: _,[],x,_,_=>x.elim
noncomputable def FsOk:List (Option Value)→List (List Str)→Prop
 | [],[]=>True
 | none :: fs,[] :: ps=>FsOk fs ps
 | some v :: fs,(x :: _) :: ps=>(∃ t,v = .str x t)∧FsOk fs ps
 | _,_=>False
section
variable {prog:Program} {w:World} {A:Around} {E:Value→Shared→Prop} {s:Shared}
theorem firsts_any:∀ {vs:List Value} {ps:List (List Str)} {Q:List (Option Value)→Shared→Prop},PlsAre s.heap vs ps→(∀ fs,FsOk fs ps→Q fs s)→wpAny (model prog w) A (vs.mapM firstOfTuple') Q E s
 | [],[],Q,_,h=>by rw [List.mapM_nil]; exact wpAny_pure (h [] trivial)
 | [],_ :: _,_,x,_=>x.elim
 | _ :: _,[],_,x,_=>x.elim
 | v :: vs,p :: ps,Q,x,h=>by
  obtain ⟨⟨b,its,rfl,ht,hs⟩,r⟩:=x
  obtain ⟨o,ho,hc,n,hd⟩:=id ht
  rw [List.mapM_cons]
  refine wpAny_bind ?_
  rw [kas_first_eq]
  refine wpAny_bind (wpAny_typeOf (T := "tuple") ⟨o, ho, hc⟩ ?_)
  refine wpAny_ite_split (fun z=>absurd z (by decide)) (fun _ => ?_)
  refine wpAny_bind (listItems_at ho hd (wpAny_pure ?_))
  refine wpAny_bind (firsts_any (Q:=fun bs s'=>wpAny (model prog w) A (pure (its.toArray[0]? :: bs)) Q E s') r fun fs hf=>wpAny_pure (h _ ?_))
  cases hs with
  | nil=>exact hf
  | cons x t hs=>exact ⟨⟨t,rfl⟩,hf⟩
theorem fs_all:∀ {fs:List (Option Value)} {ps:List (List Str)},FsOk fs ps→(fs.all (·.isSome))=ps.all (fun p => !p.isEmpty)
 | [],[],_=>rfl
 | none :: fs,[] :: ps,h=>by simp
 | some v :: fs,(x :: _) :: ps,h=>by simp [fs_all h.2]
 | [],_ :: _,h=>by cases h
 | none :: fs,(_ :: _) :: ps,h=>by cases h
 | some v :: fs,[] :: ps,h=>by cases h
 | _ :: _,[],h=>by rename_i o fs; cases o <;> cases h
theorem fs_strs:∀ {fs:List (Option Value)} {ps:List (List Str)},FsOk fs ps→∀ v∈fs.filterMap id,∃ x t,v = .str x t
 | [],[],_,v,hv=>by simp at hv
 | none :: fs,[] :: ps,h,v,hv=>fs_strs (show FsOk fs ps from h) v (by simpa using hv)
 | some u :: fs,(x :: _) :: ps,h,v,hv=>by
  obtain ⟨⟨t,rfl⟩,h2⟩:=(show (∃ t,u = .str x t)∧FsOk fs ps from h)
  simp only [List.filterMap_cons,id] at hv
  rcases List.mem_cons.mp hv with rfl | hv
  ·exact ⟨x,t,rfl⟩
  ·exact fs_strs h2 v hv
 | [],_ :: _,h,_,_=>by cases h
 | none :: fs,(_ :: _) :: ps,h,_,_=>by cases h
 | some v :: fs,[] :: ps,h,_,_=>by cases h
 | o :: _,[],h,_,_=>by cases o <;> cases h
theorem fs_head {fs:List (Option Value)} {p:List Str} {ps:List (List Str)} (h:FsOk fs (p :: ps)):((fs.toArray[0]?).bind id).isSome = !p.isEmpty:=by
 match fs,p,h with
 | none :: fs,[],h=>rfl
 | some v :: fs,x :: _,h=>rfl
 | [],_,h=>cases h
 | none :: fs,_ :: _,h=>cases h
 | some v :: fs,[],h=>cases h
noncomputable def kindP (ps:List (List Str)):SortKind:=if ps.all (fun p => !p.isEmpty)=true then tuples' true else if (ps.headD []).isEmpty=true then oneType' else general'
theorem kind_places {vs:List Value} {ps:List (List Str)} {Q:SortKind→Shared→Prop} (x:PlsAre s.heap vs ps) (h2:2≤vs.length) (h:Q (kindP ps) s):wpAny (model prog w) A (keyKind' vs.toArray) Q E s:=by
 rw [kat_kind_eq,List.mapM_toArray,map_eq_pure_bind]
 have hl:=x.length
 refine wpAny_bind (wpAny_bind (firsts_any x fun fs hf=>wpAny_pure ?_))
 have ha:=fs_all hf
 unfold kindP at h
 refine wpAny_ite_split (fun c => ?_) (fun c => ?_)
 ·have c':fs.all (·.isSome)=true:=by simpa using c
  rw [ha] at c'
  rw [if_pos c'] at h
  refine wpAny_bind (wpAny_rule ?_)
  have hfm:(fs.toArray.filterMap id)=(fs.filterMap id).toArray:=by simp
  rw [hfm,oneTypeOnly'_eq,List.mapM_toArray,map_eq_pure_bind]
  refine wpAny_bind (wpAny_bind (wpAny_bind (kas_mapM (r := Value.type "str") _ (fun v hv Q' hq => ?_) (wpAny_pure ?_))))
  ·obtain ⟨y,t,rfl⟩:=fs_strs hf v hv
   exact wpAny_typeOf (typeIs_str s y t) hq
  ·have hne:fs.filterMap id≠[]:=by
    match ps,fs,hf,hl,h2,c' with
    | [],_,_,hl,h2,_=>simp at hl; rw [hl] at h2; simp at h2
    | (y :: _) :: ps,some v :: fs,hf,_,_,_=>simp
    | [] :: ps,_,_,_,_,c'=>simp at c'
    | (_ :: _) :: ps,[],hf,_,_,_=>cases hf
    | (_ :: _) :: ps,none :: _,hf,_,_,_=>cases hf
   obtain ⟨f1,fr,e⟩:=List.exists_cons_of_ne_nil hne
   rw [e]
   have h0 : (List.map (fun _ => Value.type "str") (f1 :: fr)).toArray[0]? = some (Value.type "str") := by simp
   rw [h0]
   have hall2 : ((List.map (fun _ => Value.type "str") (f1 :: fr)).toArray.all fun x => x == Value.type "str") = true := by simp
   simp only [hall2,if_true]
   exact wpAny_pure (wpAny_pure h)
 ·have c':¬ ps.all (fun p => !p.isEmpty)=true:=by
   rw [← ha]
   simpa using c
  rw [if_neg c'] at h
  match ps,hl,h2,hf,h with
  | [],hl,h2,_,_=>simp at hl; rw [hl] at h2; simp at h2
  | p :: ps,hl,h2,hf,h =>
   have hh:=fs_head hf
   refine wpAny_ite_split (fun d => ?_) (fun d => ?_)
   ·rw [hh] at d
    have:p.isEmpty=false:=by simpa using d
    rw [show ((p :: ps).headD []).isEmpty=false from this] at h
    exact wpAny_pure (by simpa using h)
   ·rw [hh] at d
    have hp:p.isEmpty=true:=by simpa using d
    rw [show ((p :: ps).headD []).isEmpty=true from hp,if_pos rfl] at h
    rw [oneTypeOnly'_eq,List.mapM_toArray,map_eq_pure_bind]
    refine wpAny_bind (wpAny_bind (wpAny_bind (kas_mapM (r := Value.type "tuple") _ (fun v hv Q' hq => ?_) (wpAny_pure ?_))))
    ·obtain ⟨i,hi,rfl⟩:=List.getElem_of_mem hv
     obtain ⟨b,its,e1,⟨o,e2,e3,_⟩,_⟩:=x.get i hi
     rw [List.getD_eq_getElem?_getD,List.getElem?_eq_getElem hi] at e1
     rw [show vs[i] = .ref b from e1]
     exact wpAny_typeOf (T := "tuple") ⟨o, e2, e3⟩ hq
    ·match vs,h2 with
     | v :: vr,_ =>
      have h0 : (List.map (fun _ => Value.type "tuple") (v :: vr)).toArray[0]? = some (Value.type "tuple") := by simp
      rw [h0]
      have hall2 : ((List.map (fun _ => Value.type "tuple") (v :: vr)).toArray.all fun x => x == Value.type "tuple") = true := by simp
      simp only [hall2,if_true]
      exact wpAny_pure (wpAny_pure (by simpa using h))
theorem plB_diff {x y:Str} (h:¬ x=y) (xs ys:List Str):plB (x :: xs) (y :: ys)=tltB x y:=if_neg h
theorem kat_places {fin:Bool} {Q:Bool→Shared→Prop}:∀ (xs ys:List Value) (ps qs:List Str) (i:Nat),StrsAre xs ps→StrsAre ys qs→(plB ps qs=decide (xs.length<ys.length)→Q fin s)→Q (plB ps qs) s→KatLex prog w A true fin Q (xs.zip ys) i s
 | [],ys,ps,qs,i,sx,sy,h1,h2=>by
  cases sx
  rw [List.zip_nil_left]
  refine kat_nil (h1 ?_)
  cases sy <;> simp [plB]
 | v :: xs,[],ps,qs,i,sx,sy,h1,h2=>by
  cases sx
  cases sy
  rw [List.zip_nil_right]
  exact kat_nil (h1 (by simp [plB]))
 | v :: xs,u :: ys,ps,qs,i,sx,sy,h1,h2=>by
  cases sx with
  | cons a t sx =>
   cases sy with
   | cons b u sy =>
    rw [List.zip_cons_cons]
    refine kat_cons (wpAny_eqBool_str ?_)
    by_cases hab:a=b
    ·rw [decide_eq_true hab]
     rw [plB_same hab] at h2
     refine kat_yes (kat_places xs ys _ _ (i+1) sx sy (fun hc=>h1 ?_) h2)
     rw [plB_same hab,hc]
     simp
    ·rw [decide_eq_false hab]
     rw [plB_diff hab] at h2
     refine kat_no ?_
     cases hi:(true && i == 0) with
     | true=>exact oneLt_str h2
     | false=>exact kat_one _ _ (lt_str h2)
theorem lt_places {vs:List Value} {ps:List (List Str)} {i j:Nat} {Q:Bool→Shared→Prop} (x:PlsAre s.heap vs ps) (hu:A.units<cLine) (hi:i<vs.length) (hj:j<vs.length) (h:Q (plB (ps.getD i []) (ps.getD j [])) s) :
  wpAny (model prog w) A (keyLt' (kindP ps) (vs.getD i .none) (vs.getD j .none)) Q E s:=by
 obtain ⟨b,its,e1,t1,s1⟩:=x.get i hi
 obtain ⟨b',its',e2,t2,s2⟩:=x.get j hj
 rw [e1,e2]
 unfold kindP
 split
 ·obtain ⟨o,ho,_,n,hd⟩:=t1
  obtain ⟨o',ho',_,n',hd'⟩:=t2
  refine kat_lt ho hd ho' hd' (kat_places its its' _ _ 0 s1 s2 (fun hc => ?_) h)
  rw [hc] at h
  simpa using h
 ·split
  ·exact one_tup hu t1 t2 s1 s2 h
  ·exact gen_tup hu t1 t2 s1 s2 h
end
end DL
end
section
set_option maxHeartbeats 1000000
namespace SO
open PySem PySem.W PyProof.Rows
section
variable {prog:Program} {w:World} {A:Around} {E:Value→Shared→Prop} {s:Shared}
structure CmpR (prog:Program) (w:World) (s:Shared) (a:Addr) (vs:List Value) (κ:SortKind) (lt:Nat→Nat→Bool):Prop where
 kind:2≤vs.length→∀ (h':Heap) (A:Around) (E:Value→Shared→Prop) (Q:SortKind→Shared→Prop),KB s a h'→Q κ { s with heap:=h' }→wpAny (model prog w) A (keyKind' vs.toArray) Q E { s with heap:=h' }
 less:2≤vs.length→∀ (h':Heap) (A:Around) (E:Value→Shared→Prop) (Q:Bool→Shared→Prop) (i j:Nat),A.units<cLine→KB s a h'→i<vs.length→j<vs.length→Q (lt i j) { s with heap:=h' }→wpAny (model prog w) A (keyLt' κ (vs.getD i .none) (vs.getD j .none)) Q E { s with heap:=h' }
 inj:∀ i j,i<vs.length→j<vs.length→vs.getD i .none=vs.getD j .none→i=j
theorem fin_keep2 {g : Heap} {a : Addr} {e1 : Nat} {vs : List Value} {p : List Nat} {f : Bool → Sem PySem.Fin} {P : PySem.Fin → Shared → Prop} (hoa : g.get? a = some (seqObj "list" #[] e1)) (h64 : vs.length < 128) (hp : p.Perm (List.range vs.length))
  (k : ∀ h' c, (∀ b o, b ≠ a → g.get? b = some o → h'.get? b = some o) → h'.get? a = some (seqObj "list" (p.map fun i => vs.getD i .none).toArray c) → wpAny (model prog w) A (f false) P E { s with heap := h' }) :
  wpAny (model prog w) A (seqEpoch a >>= fun e=>Builtin.List.listUpdate (.ref a) (fun _=>(p.map fun i=>vs.getD i Value.none).toArray) >>= fun _=>f (e != e1)) P E { s with heap:=g }:=by
 have z:((p.map fun i=>vs.getD i Value.none).toArray).size≤sizeLine+1:=by
  rw [List.size_toArray,List.length_map,hp.length_eq,List.length_range,sizeLine_eq]
  omega
 have s2:=Heap.SameBut.update g a (Obj.mapSeq fun _=>(p.map fun i=>vs.getD i Value.none).toArray)
 refine wpAny_bind (seqEpoch_at hoa rfl (wpAny_bind (listUpdate_at hoa rfl ?_ (Nat.zero_le _) z)))
 rw [bne_self_eq_false]
 exact k _ _ (fun b o ne e=>s2.extBut b o ne e) (get?_update_seq hoa fun _=>(p.map fun i=>vs.getD i Value.none).toArray)
theorem list_sort_room {a : Addr} {vs : List Value} {n0 : Nat} {κ : SortKind} {lt : Nat → Nat → Bool} {P : PySem.Fin → Shared → Prop} (hu : A.units < cLine) (ho : s.heap.get? a = some (seqObj "list" vs.toArray n0)) (h64 : vs.length < 128)
  (C:CmpR prog w s a vs κ lt) (O:Ord vs.length lt)
  (k : ∀ p : List Nat, p.Perm (List.range vs.length) → p.Pairwise (fun i j => lt i j = true) → ∀ h' c, KB s a h' → h'.get? a = some (seqObj "list" (p.map fun i => vs.getD i .none).toArray c) → P (.done (.ret .none)) { s with heap := h' }) :
  wpAny (model prog w) A (Builtin.«list.sort» ⟨[.ref a],[]⟩) P E s:=by
 have ha:a<s.heap.objs.size:=Heap.lt_size ho
 have s1:=Heap.SameBut.update s.heap a (Obj.mapSeq fun _=>(#[]:Array Value))
 obtain ⟨e1, ho1⟩ : ∃ e1, (s.heap.update a (Obj.mapSeq fun _ => (#[] : Array Value))).get? a = some (seqObj "list" #[] e1) := ⟨_, get?_update_seq ho fun _ => #[]⟩
 have hk : KB s a (((s.heap.update a (Obj.mapSeq fun _ => (#[] : Array Value))).push (seqObj "tuple" vs.toArray 0)).push (seqObj "list" #[] 0)) := fun b o hb e =>
  Heap.get?_push_of_some _ (Heap.get?_push_of_some _ (s1.extBut b o hb e))
 have hoa : (((s.heap.update a (Obj.mapSeq fun _ => (#[] : Array Value))).push (seqObj "tuple" vs.toArray 0)).push (seqObj "list" #[] 0)).get? a = some (seqObj "list" #[] e1) := Heap.get?_push_of_some _ (Heap.get?_push_of_some _ ho1)
 rw [list_sort_plain]
 refine wpAny_bind (listItems_at ho rfl ?_)
 refine wpAny_bind (listUpdate_at ho rfl ?_ (by rw [List.size_toArray,sizeLine_eq]; omega) (Nat.zero_le _))
 refine wpAny_bind (seqEpoch_at ho1 rfl ?_)
 refine wpAny_bind (wpAny_newTuple ?_ (by show vs.length≤_; rw [sizeLine_eq]; omega))
 refine wpAny_bind (wpAny_newList ?_ (Nat.zero_le _))
 refine wpAny_holding ?_
 show wpAny (model prog w) A _ P E { s with heap := ((s.heap.update a (Obj.mapSeq fun _ => (#[] : Array Value))).push (seqObj "tuple" vs.toArray 0)).push (seqObj "list" #[] 0) }
 generalize hg : ((s.heap.update a (Obj.mapSeq fun _ => (#[] : Array Value))).push (seqObj "tuple" vs.toArray 0)).push (seqObj "list" #[] 0) = g at hk hoa
 dsimp only
 by_cases h2:vs.length<2
 ·have hn2:vs.toArray.size<2:=by rw [List.size_toArray]; omega
  rw [if_pos hn2,if_pos hn2]
  refine wpAny_bind (wpAny_pure (wpAny_bind (wpAny_pure ?_)))
  have hm:(arrOf (SortSt.mk' general' (vs.toArray.zip vs.toArray) #[] 7 none)).map (·.2)=((List.range vs.length).map fun i=>vs.getD i Value.none).toArray:=by
   show (vs.toArray.zip vs.toArray).map (·.2)=_
   match vs,h2 with
   | [],_=>simp
   | [v],_=>simp [List.range_succ]
  have hpw:(List.range vs.length).Pairwise (fun i j=>lt i j=true):=by
   match vs,h2 with
   | [],_=>exact .nil
   | [v],_=>exact List.pairwise_singleton _ _
  have hf:failedOf (SortSt.mk' general' (vs.toArray.zip vs.toArray) #[] 7 none)=none:=rfl
  dsimp only
  rw [hm]
  refine fin_keep2 (f:=fun b=>if b=true then _ else _) hoa h64 (List.Perm.refl _) fun h' c hb hc => ?_
  simp only [Bool.false_eq_true,if_false]
  exact wpAny_pure (k _ (List.Perm.refl _) hpw h' c (fun b o ne e=>hb b o ne (hk b o ne e)) hc)
 ·have hn2:¬ vs.toArray.size<2:=by rw [List.size_toArray]; omega
  rw [if_neg hn2,if_neg hn2]
  refine wpAny_bind (C.kind (by omega) g A E _ hk ?_)
  refine wpAny_bind (wpAny_mono (run128 (κ:=κ) (vs:=vs) (lt:=lt) (Q:=fun st' s' => ∃ p:Array Nat,arrOf st'=p.map (kas_item (vs.toArray.zip vs.toArray))∧failedOf st'=none∧p.toList.Perm (List.range vs.length)∧p.toList.Pairwise (fun i j=>lt i j=true)∧s' = { s with heap:=g })
   (by omega) h64 C.inj (fun E Q i j hi hj hQ=>C.less (by omega) g A E Q i j hu hk hi hj hQ) O fun st' p h1 h2 h3 h4=>⟨p,h3,h4,h1,h2,rfl⟩) ?_ fun _ _ e=>e)
  rintro ⟨⟨⟩,st'⟩ s' ⟨p,har,hf,hA,hS,rfl⟩
  dsimp only
  rw [kat_snds rfl har,hf]
  refine fin_keep2 (f:=fun b=>if b=true then _ else _) hoa h64 hA fun h' c hb hc => ?_
  simp only [Bool.false_eq_true,if_false]
  exact wpAny_pure (k _ hA hS h' c (fun b o ne e=>hb b o ne (hk b o ne e)) hc)
theorem sorted_room {T:String} {r d:Addr} {n:Nat} {P:Nat→Value→Prop} {OK:Heap→Prop} {κ:SortKind} {lt:Nat→Nat→Bool} {Q:Value→Shared→Prop} (hu:A.units+2<cLine) (src:KdlSrc prog w T r d n P OK) (hh:A.handled=none) (ok:OK s.heap) (h64:n<128)
  (C:∀ vs a h' tk,ItemsOf P vs n→(∀ b o,s.heap.get? b=some o→b≠a)→(∀ b o,s.heap.get? b=some o→h'.get? b=some o)→CmpR prog w { s with heap:=h',toks:=tk } a vs.toList κ lt) (O:Ord n lt)
  (k:∀ vs,ItemsOf P vs n→∀ p:List Nat,p.Perm (List.range n)→p.Pairwise (fun i j=>lt i j=true)→∀ (h1:Heap) a (h':Heap) tk c,(∀ b o,s.heap.get? b=some o→h1.get? b=some o)→h1.objs.size≤a→(∀ b o,h1.get? b=some o→h'.get? b=some o) →
   h'.get? a = some (seqObj "list" (p.map fun i => vs.toList.getD i .none).toArray c) → Q (.ref a) { s with heap := h', toks := tk }) :
  wpAny (model prog w) A (call (.builtin "sorted") [.ref r]) Q E s := by
 refine Calls.call_function_entry kind_sorted plain_sorted entry_sorted (args_sorted1 _) ?_
 unfold Builtin.«sorted»
 refine wpAny_bind (m := checkCount "sorted" 1 1 _) (wpAny_pure ?_)
 refine wpAny_bind (kdu_collect src hh ok (by rw [sizeLine_eq]; omega) fun h1 tk acc k1 hI => ?_)
 have hlen:acc.toList.length=n:=by rw [Array.length_toList]; exact hI.1
 refine wpAny_bind (wpAny_newList ?_ (by rw [sizeLine_eq,hlen]; omega))
 have hoL : (h1.push (seqObj "list" acc.toList.toArray 0)).get? h1.objs.size = some (seqObj "list" acc.toList.toArray 0) := Heap.get?_push_size _ rfl
 have keep : ∀ b o, h1.get? b = some o → (h1.push (seqObj "list" acc.toList.toArray 0)).get? b = some o := fun b o q => Heap.get?_push_of_some _ q
 show wpAny _ _ _ _ _ { s with heap := h1.push (seqObj "list" acc.toList.toArray 0), toks := tk }
 generalize h1.push (seqObj "list" acc.toList.toArray 0) = g at hoL keep
 refine wpAny_bind (wpAny_holding (wpAny_call_entry slot_list_sort ⟨_,hoL,rfl⟩ entry_list_sort ?body (args_list_sort _)))
 case body =>
  refine list_sort_room (s:={ s with heap:=g,toks:=tk }) (by show _<_; omega) hoL (by omega) (C acc _ g tk hI (fun b o e=>Nat.ne_of_lt (Heap.lt_size (k1 b o e))) fun b o e=>keep b o (k1 b o e)) (by rw [hlen]; exact O) fun p hp hpw h' c hb hc => ?_
  refine ⟨_,rfl,wpAny_pure ⟨_,rfl,?_⟩⟩
  rw [hlen] at hp
  exact k acc hI p hp hpw h1 _ h' tk c k1 (Nat.le_refl _) (fun b o e=>hb b o (Nat.ne_of_lt (Heap.lt_size e)) (keep b o e)) hc
end
end SO
namespace DL
open PySem PySem.Spec PyProof.Rows L2 PySem.W SO
theorem tlt_irrefl (a:Str):tltB a a=false:=by simp [tltB]
theorem tlt_trans {a b c:Str} (h1:tltB a b=true) (h2:tltB b c=true):tltB a c=true:=by
 simp only [tltB,decide_eq_true_eq] at *
 exact List.lt_trans h1 h2
theorem tlt_total {a b:Str} (h:a≠b) (h1:tltB a b=false):tltB b a=true:=by
 simp only [tltB,decide_eq_true_eq,decide_eq_false_iff_not] at *
 have h2:=List.not_lt.mp h1
 by_cases h3:b.cps.toList<a.cps.toList
 ·exact h3
 ·exact absurd (str_cps (List.le_antisymm (List.not_lt.mp h3) h2)) h
theorem pl_irrefl:∀ a:List Str,plB a a=false
 | []=>rfl
 | x :: xs=>by rw [plB_same rfl]; exact pl_irrefl xs
theorem pl_trans:∀ {a b c:List Str},plB a b=true→plB b c=true→plB a c=true
 | [],[],c,h,_=>by cases h
 | [],_ :: _,[],_,h=>by cases h
 | [],_ :: _,_ :: _,_,_=>rfl
 | _ :: _,[],_,h,_=>by cases h
 | _ :: _,_ :: _,[],_,h=>by cases h
 | x :: xs,y :: ys,z :: zs,h1,h2=>by
  by_cases e1:x=y
  ·subst e1
   rw [plB_same rfl] at h1
   by_cases e2:x=z
   ·subst e2
    rw [plB_same rfl] at h2 ⊢
    exact pl_trans h1 h2
   ·rw [plB_diff e2] at h2 ⊢
    exact h2
  ·rw [plB_diff e1] at h1
   by_cases e2:y=z
   ·subst e2
    rw [plB_diff e1]
    exact h1
   ·rw [plB_diff e2] at h2
    have h3:=tlt_trans h1 h2
    by_cases e3:x=z
    ·subst e3
     rw [tlt_irrefl] at h3
     cases h3
    ·rw [plB_diff e3]
     exact h3
theorem pl_total:∀ {a b:List Str},a≠b→plB a b=false→plB b a=true
 | [],[],h,_=>absurd rfl h
 | [],_ :: _,_,h=>by cases h
 | _ :: _,[],_,_=>rfl
 | x :: xs,y :: ys,h,h1=>by
  by_cases e:x=y
  ·subst e
   rw [plB_same rfl] at h1 ⊢
   exact pl_total (fun z=>h (by rw [z])) h1
  ·rw [plB_diff e] at h1
   rw [plB_diff fun z=>e z.symm]
   exact tlt_total e h1
noncomputable def plcB (a b:List Str):Bool:=!plB b a
noncomputable def srtL (ps:List (List Str)):List (List Str):=ps.mergeSort plcB
theorem srtL_perm (ps:List (List Str)):(srtL ps).Perm ps:=List.mergeSort_perm _ _
theorem srtL_pw (ps:List (List Str)):(srtL ps).Pairwise (fun a b=>plcB a b=true):=by
 refine List.pairwise_mergeSort (fun a b c h1 h2 => ?_) (fun a b => ?_) ps
 ·simp only [plcB,Bool.not_eq_true'] at *
  cases hca:plB c a with
  | false=>rfl
  | true =>
   by_cases e:a=b
   ·subst e
    rw [hca] at h2
    cases h2
   ·have h3:=pl_total (fun z=>e z.symm) h1
    rw [pl_trans hca h3] at h2
    cases h2
 ·cases h:plB b a with
  | false=>simp [plcB,h]
  | true =>
   have:plB a b=false:=by
    cases h2:plB a b with
    | false=>rfl
    | true =>
     have:=pl_trans h h2
     rw [pl_irrefl] at this
     cases this
   simp [plcB,this]
theorem srtL_uniq {ps qs:List (List Str)} (hp:qs.Perm ps) (hw:qs.Pairwise (fun a b=>plB a b=true)):qs=srtL ps:=by
 refine List.Perm.eq_of_pairwise (le:=fun a b=>plcB a b=true) (fun a b _ _ h1 h2 => ?_) (hw.imp fun {a b} h => ?_) (srtL_pw ps) (hp.trans (srtL_perm ps).symm)
 ·simp only [plcB,Bool.not_eq_true'] at h1 h2
  by_cases e:a=b
  ·exact e
  ·have:=pl_total e h2
   rw [h1] at this
   cases this
 ·cases h2:plB b a with
  | false=>simp [plcB,h2]
  | true =>
   have:=pl_trans h h2
   rw [pl_irrefl] at this
   cases this
theorem pl_ord {ps:List (List Str)} (hn:ps.Nodup):Ord ps.length (fun i j=>plB (ps.getD i []) (ps.getD j [])):=by
 have apart:∀ i j,i<ps.length→j<ps.length→i≠j→ps.getD i []≠ps.getD j []:=fun i j hi hj ne e=>by
  rw [List.getD_eq_getElem?_getD,List.getD_eq_getElem?_getD,List.getElem?_eq_getElem hi,List.getElem?_eq_getElem hj] at e
  exact ne ((List.getElem_inj hn).mp e)
 refine ⟨fun i j hi hj ne h=>pl_total (apart i j hi hj ne) h,fun i j hi hj h => ?_,fun i j k hi hj hk h1 h2=>pl_trans h1 h2⟩
 cases h2:plB (ps.getD j []) (ps.getD i []) with
 | false=>rfl
 | true =>
  have:=pl_trans h h2
  rw [pl_irrefl] at this
  cases this
section
variable {prog:Program} {w:World} {A:Around} {E:Value→Shared→Prop} {s:Shared}
theorem strsA_fun:∀ {its:List Value} {p q:List Str},StrsAre its p→StrsAre its q→p=q
 | _,_,_,.nil,.nil=>rfl
 | _,_,_,.cons x t r,.cons _ _ r2=>by rw [strsA_fun r r2]
theorem plsA_at {h:Heap}:∀ {vs:List Value} {ps:List (List Str)},PlsAre h vs ps→∀ i,i<vs.length→∃ b its,vs.getD i .none = .ref b∧IsTup h b its.toArray∧StrsAre its (ps.getD i [])
 | [],[],_,i,hi=>absurd hi (by simp)
 | v :: vs,p :: ps,x,0,_=>by
  obtain ⟨b,its,h1,h2,h3⟩:=x.1
  exact ⟨b,its,h1,h2,h3⟩
 | v :: vs,p :: ps,x,i+1,hi=>plsA_at x.2 i (by simpa using hi)
theorem plsA_inj {h:Heap} {vs:List Value} {ps:List (List Str)} (x:PlsAre h vs ps) (hn:ps.Nodup) (hl:vs.length=ps.length) (i j:Nat) (hi:i<vs.length) (hj:j<vs.length) (e:vs.getD i .none=vs.getD j .none):i=j:=by
 obtain ⟨b,its,h1,⟨o,g1,g2,n1,g3⟩,h3⟩:=plsA_at x i hi
 obtain ⟨b',its',h1',⟨o',g1',g2',n1',g3'⟩,h3'⟩:=plsA_at x j hj
 rw [h1,h1'] at e
 cases e
 rw [g1] at g1'
 cases g1'
 rw [g3] at g3'
 have e2:its.toArray=its'.toArray:=by injection g3'
 have e3:its=its':=by simpa using e2
 subst e3
 have e4:=strsA_fun h3 h3'
 rw [List.getD_eq_getElem?_getD,List.getD_eq_getElem?_getD,List.getElem?_eq_getElem (by omega),List.getElem?_eq_getElem (by omega)] at e4
 exact (List.getElem_inj hn).mp e4
theorem pl_cmp {vs:List Value} {ps:List (List Str)} {a:Addr} {h':Heap} {tk:Nat} (hn:ps.Nodup) (x:PlsAre s.heap vs ps) (ha:∀ b o,s.heap.get? b=some o→b≠a) (hk:∀ b o,s.heap.get? b=some o→h'.get? b=some o) :
  CmpR prog w { s with heap:=h',toks:=tk } a vs (kindP ps) (fun i j=>plB (ps.getD i []) (ps.getD j [])):=by
 have y:∀ g,KB { s with heap:=h',toks:=tk } a g→PlsAre g vs ps:=fun g hg=>x.mono fun b _ o e=>hg b o (ha b o e) (hk b o e)
 exact ⟨fun h2 g A E Q hg hQ=>kind_places (s:={ s with heap:=g,toks:=tk }) (y g hg) h2 hQ,fun h2 g A E Q i j hu hg hi hj hQ=>lt_places (s:={ s with heap:=g,toks:=tk }) (y g hg) hu hi hj hQ,plsA_inj x hn x.length⟩
end
end DL
end
section
set_option maxHeartbeats 1000000
namespace DL
open PySem PySem.Spec PyProof.Rows L2 PySem.W SO
noncomputable def plsD:List D→Option (List (List Str))
 | []=>some []
 | .tup ds :: r=>match strsD ds,plsD r with
  | some p,some ps=>some (p :: ps)
  | _,_=>none
 | _ :: _=>none
theorem plsD_eq:∀ {ds:List D} {ps:List (List Str)},plsD ds=some ps→ds=ps.map fun p=>D.tup (p.map D.str)
 | [],ps,e=>by cases e; rfl
 | d :: ds,ps,e=>by
  unfold plsD at e
  split at e
  ·rename_i h; cases h
  ·rename_i es r h
   cases h
   split at e
   ·rename_i p qs h1 h2
    cases e
    rw [List.map_cons,← plsD_eq h2,strsD_eq h1]
   ·cases e
  ·cases e
theorem plsD_map:∀ (ps:List (List Str)),plsD (ps.map fun p=>D.tup (p.map D.str))=some ps
 | []=>rfl
 | p :: ps=>by
  show (match strsD (p.map D.str),plsD (ps.map fun p=>D.tup (p.map D.str)) with | some p,some ps=>some (p :: ps) | _,_=>none)=_
  rw [strsD_map,plsD_map ps]
section
variable {X:Cx} {EX:EXT} {pins:List (Addr×Obj)} {σ:L2.St} {H:Hp} {s:Shared} {O:List Addr}
theorem pls_rd (I:Inv X pins σ H s):∀ {ps:List (List Str)} {vs:List V} {us:List Value},Reps X.K O H (ps.map fun p=>D.tup (p.map D.str)) vs→Vals vs us→PlsAre s.heap us ps
 | [],vs,us,r,u=>by
  rw [List.map_nil,Reps.nil_i] at r
  subst r
  cases u
  trivial
 | p :: ps,vs,us,r,u=>by
  obtain ⟨v,rs,rfl,r1,r2⟩:=Reps.cons_i.mp r
  rw [Rep.tup_i] at r1
  obtain ⟨a,ys,rfl,q,r3⟩:=r1
  cases u with
  | cons u1 u2 =>
   cases u1
   obtain ⟨its,t1,t2,_⟩:=I.tuple (SqT.of q)
   refine ⟨⟨a,its,rfl,t2,?_⟩,pls_rd I r2 u2⟩
   have hl1:=t1.length
   have hl2:=r3.length
   rw [List.length_map] at hl2
   refine strsAre_of (by omega) fun i v x h1 h2 => ?_
   obtain ⟨y,h3,h4⟩:=r3.get (i:=i) (d:=D.str x) (by rw [List.getElem?_map,h2]; rfl)
   rw [Rep.str_i] at h4
   subst h4
   obtain ⟨u,h5,t,h6⟩:=t1.get h3
   rw [h1] at h5
   cases h5
   exact ⟨t,h6⟩
theorem pl_new {st:Sto} {Q:VK} {its:List Value} {vs:List V} {ps:List (List Str)} {ix:List Nat} {a:Addr} {h1 h':Heap} {tk c:Nat} (I:Inv X pins σ H s) (W:WR X.K O H st) (rs:Reps X.K O H (ps.map fun p=>D.tup (p.map D.str)) vs) (rv:Vals vs its)
  (R:Run X.K EX O H (.ok ((srtL ps).map fun p=>D.tup (p.map D.str)) st) (New X.K Q)) (hp:ix.Perm (List.range ps.length)) (hw:ix.Pairwise (fun i j=>plB (ps.getD i []) (ps.getD j [])=true)) (h64:ps.length<128)
  (k1 : ∀ b o, s.heap.get? b = some o → h1.get? b = some o) (ha : h1.objs.size ≤ a) (hk : ∀ b o, h1.get? b = some o → h'.get? b = some o) (hg : h'.get? a = some (seqObj "list" (ix.map fun i => its.getD i .none).toArray c)) :
  ∃ v H',Inv X pins σ H' { s with heap:=h',toks:=tk }∧RelV v (.ref a)∧Q v H':=by
 have hl:=rv.length
 have hl2:=rs.length
 rw [List.length_map] at hl2
 have hix:ix.map (fun i=>ps.getD i [])=srtL ps:=by
  refine srtL_uniq ?_ (List.pairwise_map.mpr hw)
  refine (hp.map (fun i=>ps.getD i [])).trans (List.Perm.of_eq ?_)
  refine List.ext_getElem (by simp) fun i h1 h2 => ?_
  simp [List.getD_eq_getElem?_getD,List.getElem?_eq_getElem h2]
 have hb:∀ i∈ix,i<ps.length:=fun i hi=>by
  have:=hp.mem_iff.mp hi
  simpa using this
 have I1:Inv X pins σ H { s with heap:=h1,toks:=tk }:=I.kept k1
 refine ⟨.ref a,upd H a (.lst (ix.map fun i=>vs.getD i .non)),I1.laid hk ha ⟨?_,ix.map (fun i=>its.getD i .none),c,?_,hg⟩,rfl,?_⟩
 ·have h0:=hp.length_eq
  simp only [List.length_map,List.length_range] at h0 ⊢
  rw [sizeLine_eq]
  omega
 ·refine vals_map ix fun i hi => ?_
  have:=hb i hi
  obtain ⟨u,h1,h2⟩:=rv.get (i:=i) (x:=vs.getD i .non) (by rw [List.getD_eq_getElem?_getD,List.getElem?_eq_getElem (by omega)]; rfl)
  rw [List.getD_eq_getElem?_getD (l:=its),h1]
  exact h2
 ·refine Run.now (k:=New X.K Q) R W a _ ?_ (I1.hok.fresh ha)
  rw [← hix,List.map_map]
  refine reps_map ix fun i hi => ?_
  have:=hb i hi
  obtain ⟨v,h1,h2⟩:=rs.get (i:=i) (d:=D.tup ((ps.getD i []).map D.str)) (by rw [List.getElem?_map,List.getD_eq_getElem?_getD,List.getElem?_eq_getElem this]; rfl)
  rw [List.getD_eq_getElem?_getD (l:=vs),h1]
  exact h2
end
noncomputable def sortTF:List D→Sto→Out (List D)
 | [.res i],st=>match st[i]? with
  | some (.dtt ds)=>match plsD (ds.map (·.1)) with
   | some ps=>if ps.Nodup∧ps.length<128 then .ok ((srtL ps).map fun p=>D.tup (p.map D.str)) st else .bad
   | none => .bad
  | _ => .bad
 | _,_ => .bad
section
variable {X:Cx} {EX:EXT}
theorem call_sortTF (hc : X.calm = true) (hu : X.A.units + 2 < cLine) : CallF X EX (.builtin "sorted") sortTF := by
 intro pins s σ H xs us Q I rx h
 obtain ⟨O,ds,st,W,r,R⟩:=h
 unfold sortTF at R
 split at R
 ·rename_i i
  obtain ⟨v,rfl,rv⟩:=r.one_of
  rw [Rep.res_i] at rv
  obtain ⟨a,rfl,q⟩:=rv
  split at R
  ·rename_i kvs hk
   obtain ⟨vs,e2,kv⟩:=W.at_ _ _ _ q hk
   split at R
   ·rename_i ps hps
    by_cases hok:ps.Nodup∧ps.length<128
    ·rw [if_pos hok] at R
     cases rx with
     | cons r0 rt =>
      cases rt
      cases r0
      obtain ⟨z,hd,xs,kt,o,es,ep,g1,g2,g3,g4,g5,g6⟩:=dt_rd I.hok (.inl e2)
      have hl:es.size=xs.length:=by
       have:=congrArg List.length g4
       simpa using this
      have rs:=kt_keys kv kt
      rw [plsD_eq hps] at rs
      have hlp:ps.length=xs.length:=by
       have:=rs.length
       simpa using this
      have refs:∀ (l:List (List Key×Addr×Value)),Vals (l.map fun x=>V.ref x.2.1) (l.map fun x=>Value.ref x.2.1):=by
       intro l
       induction l with
       | nil=>exact .nil
       | cons x l ih=>exact .cons rfl ih
      have hacc:∀ acc:Array Value,ItemsOf (fun i v => ∃ e,es[i]?=some e∧v=e.key) acc es.size→acc.toList=xs.map fun x=>Value.ref x.2.1:=by
       intro acc hit
       refine List.ext_getElem? fun j => ?_
       rw [Array.getElem?_toList,List.getElem?_map]
       by_cases hj:j<acc.size
       ·obtain ⟨e,h1,h2⟩:=hit.2 j acc[j] (Array.getElem?_eq_getElem hj)
        rw [Array.getElem?_eq_getElem hj,h2]
        have h3:es.toList[j]?=some e:=by rw [Array.getElem?_toList]; exact h1
        rw [g4,List.getElem?_map] at h3
        obtain ⟨x,h4,h5⟩:=Option.map_eq_some_iff.mp h3
        rw [h4,← h5]
        rfl
       ·have:=hit.1
        rw [Array.getElem?_eq_none (by omega),List.getElem?_eq_none (by omega)]
        rfl
      have P0:PlsAre s.heap (xs.map fun x=>Value.ref x.2.1) ps:=pls_rd I rs (refs xs)
      refine sorted_room (κ:=kindP ps) (lt:=fun i j=>plB (ps.getD i []) (ps.getD j [])) hu (raw_src (d:=a) (es:=es) (ep:=ep) hd) (I.ok.hd hc) ⟨o,g1,g2,g3⟩ (by omega) (fun acc b h' tk hI ha hk' => ?_) (by rw [hl,← hlp]; exact pl_ord hok.1) fun acc hI ix hp hw h1 b h' tk c k1 hb hk' hg => ?_
      ·rw [hacc acc hI]
       exact pl_cmp hok.1 P0 ha hk'
      ·rw [hl,← hlp] at hp
       rw [hacc acc hI] at hg
       exact pl_new I W rs (refs xs) R hp hw hok.2 k1 hb hk' hg
    ·rw [if_neg hok] at R; exact R.elim
   ·exact R.elim
  ·exact R.elim
 ·exact R.elim
end
end DL
namespace DL
open PySem
theorem units2 {A:Around} (h:A.units+64<cLine):A.units+2<cLine:=by omega
end DL
end
section
set_option maxHeartbeats 1000000
namespace DL
open PySem PySem.Spec PyProof.Rows L2
noncomputable def Rs (xs:Array Nat):Prop:=xs.toList.Pairwise (· < ·)
theorem Rs.lt {xs:Array Nat} (h:Rs xs) {i j:Nat} (hij:i<j) (hj:j<xs.size):xs.getD i 0<xs.getD j 0:=by
 have hi:i<xs.size:=by omega
 have:=List.pairwise_iff_getElem.mp h i j (by simpa using hi) (by simpa using hj) hij
 simpa [Array.getD,hi,hj] using this
theorem go_spec {xs:Array Nat} (h:Rs xs) (j:Nat):∀ (f lo hi:Nat),hi - lo≤f→lo≤hi→hi≤xs.size→(∀ k,k<lo→xs.getD k 0<j)→(∀ k,hi≤k→k<xs.size→j≤xs.getD k 0) →
  SetTable.below.go xs j f lo hi≤xs.size∧(∀ k,k<SetTable.below.go xs j f lo hi→xs.getD k 0<j)∧∀ k,SetTable.below.go xs j f lo hi≤k→k<xs.size→j≤xs.getD k 0
 | 0,lo,hi,hf,hlh,hs,h1,h2=>by
  have:lo=hi:=by omega
  subst this
  unfold SetTable.below.go
  exact ⟨hs,h1,h2⟩
 | f+1,lo,hi,hf,hlh,hs,h1,h2=>by
  unfold SetTable.below.go
  by_cases hc:lo<hi
  ·rw [if_pos hc]
   have hm1:lo≤(lo+hi) / 2:=by omega
   have hm2:(lo+hi) / 2<hi:=by omega
   have hms:(lo+hi) / 2<xs.size:=by omega
   have eD:xs.getD ((lo+hi) / 2) j=xs.getD ((lo+hi) / 2) 0:=by simp [Array.getD,hms]
   dsimp only
   rw [eD]
   by_cases hd:xs.getD ((lo+hi) / 2) 0<j
   ·rw [if_pos hd]
    refine go_spec h j f _ hi (by omega) (by omega) hs (fun k hk => ?_) h2
    by_cases e:k=(lo+hi) / 2
    ·rw [e]; exact hd
    ·exact Nat.lt_trans (h.lt (by omega) hms) hd
   ·rw [if_neg hd]
    refine go_spec h j f lo _ (by omega) hm1 (by omega) h1 fun k hk hks => ?_
    by_cases e:k=(lo+hi) / 2
    ·rw [e]; omega
    ·have:=h.lt (show (lo+hi) / 2<k by omega) hks
     omega
  ·rw [if_neg hc]
   have:lo=hi:=by omega
   subst this
   exact ⟨hs,h1,h2⟩
theorem below_spec {xs:Array Nat} (h:Rs xs) (j:Nat):SetTable.below xs j≤xs.size∧(∀ k,k<SetTable.below xs j→xs.getD k 0<j)∧∀ k,SetTable.below xs j≤k→k<xs.size→j≤xs.getD k 0 :=
 go_spec h j xs.size 0 xs.size (by omega) (Nat.zero_le _) (Nat.le_refl _) (fun k hk=>by omega) fun k hk hks=>by omega
noncomputable def live (t:SetTable) (j:Nat):Prop:=t.place[SetTable.below t.place j]?=some j
theorem slot_live {t:SetTable} {j:Nat} (h:t.slot j = .empty∨t.slot j = .dummy):¬ live t j:=by
 intro hl
 unfold live at hl
 have:t.slot j = .live (SetTable.below t.place j):=by
  unfold SetTable.slot
  simp [hl]
 rw [this] at h
 rcases h with h | h <;> cases h
theorem probe_free {t:SetTable} {f:Nat→Int} {h:Int}:∀ (n:Nat) (p:SetTable.Probe) {j:Nat} {d:Option Nat},(∀ k,p.dummy=some k→¬ live t k)→SetTable.probe.go t f h n p=some (.empty j d)→¬ live t (d.getD j)
 | 0,p,j,d,_,e=>by unfold SetTable.probe.go at e; cases e
 | n+1,p,j,d,hp,e=>by
  unfold SetTable.probe.go at e
  have hadv:∀ (q:SetTable.Probe),(t.advance q).dummy=q.dummy:=fun q=>by
   unfold SetTable.advance
   split <;> rfl
  cases hs:t.slot p.j with
  | empty =>
   rw [hs] at e
   cases e
   cases hd:p.dummy with
   | none=>exact slot_live (.inl hs)
   | some k=>exact hp k hd
  | dummy =>
   rw [hs] at e
   refine probe_free n _ (fun k hk => ?_) e
   rw [hadv] at hk
   cases hk
   exact slot_live (.inr hs)
  | live i =>
   rw [hs] at e
   dsimp only at e
   split at e
   ·cases e
   ·refine probe_free n _ (fun k hk => ?_) e
    rw [hadv] at hk
    exact hp k hk
theorem free_live {t:SetTable} {h:Int} {j:Nat} {b:Bool} (e:t.freeSlot h=some (j,b)):¬ live t j:=by
 unfold SetTable.freeSlot at e
 split at e
 ·rename_i j' d he
  cases e
  exact probe_free _ _ (fun k hk=>by cases hk) he
 ·cases e
theorem put_rs {t:SetTable} {j:Nat} (h:Rs t.place) (hl:¬ live t j):Rs (t.put j).1.place:=by
 obtain ⟨a,b,c⟩:=below_spec h j
 show Rs (SetTable.insertAt t.place (SetTable.below t.place j) j)
 unfold live at hl
 generalize SetTable.below t.place j=p at *
 unfold Rs at *
 have e:(SetTable.insertAt t.place p j).toList=t.place.toList.take p++j :: t.place.toList.drop p:=by
  unfold SetTable.insertAt
  simp [Array.toList_extract,List.extract]
  rw [List.take_of_length_le (by simp)]
 have hsp:t.place.toList=t.place.toList.take p++t.place.toList.drop p:=(List.take_append_drop _ _).symm
 rw [hsp,List.pairwise_append] at h
 rw [e,List.pairwise_append]
 refine ⟨h.1,List.pairwise_cons.mpr ⟨fun x hx => ?_,h.2.1⟩,fun x hx y hy => ?_⟩
 ·obtain ⟨k,hk,rfl⟩:=List.getElem_of_mem hx
  have hk':p+k<t.place.size:=by simp at hk; omega
  have h1:=c (p+k) (by omega) hk'
  have h2:(t.place.toList.drop p)[k]=t.place.getD (p+k) 0:=by simp [Array.getD,hk']
  rw [h2]
  by_cases hz:k=0
  ·subst hz
   refine Nat.lt_of_le_of_ne h1 fun z=>hl ?_
   rw [Array.getElem?_eq_getElem (by omega)]
   simp only [Nat.add_zero] at z hk'
   rw [z]
   simp [Array.getD,hk']
  ·have hp0:p<t.place.size:=by omega
   have h3:=c p (Nat.le_refl _) hp0
   have h4:t.place.getD p 0<t.place.getD (p+k) 0:=by
    have h5:=List.pairwise_iff_getElem.mp h.2.1 0 k (by simp; omega) hk (by omega)
    simpa [Array.getD,hk',hp0] using h5
   omega
 ·rcases List.mem_cons.mp hy with rfl | hy
  ·obtain ⟨k,hk,rfl⟩:=List.getElem_of_mem hx
   have hk1:k<p:=by simp at hk; omega
   have hk2:k<t.place.size:=by omega
   have:=b k hk1
   simpa [Array.getD,hk2] using this
  ·exact h.2.2 x hx y hy
theorem fm_sub {α:Type} (f:Nat→Option α):∀ l:List Nat,((l.filterMap fun j=>(f j).map (j,·)).map (·.1)).Sublist l
 | [] => .slnil
 | x :: l=>by
  rw [List.filterMap_cons]
  cases f x with
  | none=>exact (fm_sub f l).cons x
  | some y=>exact (fm_sub f l).cons₂ x
theorem laid_rs {mask finger moves:Nat} {led plain:Bool} {hs:Array Int} {t:SetTable} {o:Array Nat} (h:SetTable.laid mask finger moves led plain hs=some (t,o)):Rs t.place:=by
 unfold SetTable.laid at h
 cases hc:SetTable.layClean mask hs with
 | none=>rw [hc] at h; cases h
 | some ow =>
  rw [hc] at h
  have h':=Option.some.inj h
  cases h'
  unfold Rs
  dsimp only
  exact List.Pairwise.sublist (fm_sub _ _) List.pairwise_lt_range
end DL
end
section
set_option maxHeartbeats 1000000
namespace DL
open PySem PySem.Spec PyProof.Rows L2
theorem lay_rs {t:SetTable} {es:Array (Int×Value)} {h:Int} {x:Value} (hr:t.plain=true→Rs t.place) (hp:(layNew t es h x).2.1.plain=true):Rs (layNew t es h x).2.1.place:=by
 have ht:=(lay_led t es h x).2 hp
 unfold layNew at hp ⊢
 cases hf:t.freeSlot h with
 | none=>rw [hf] at hp; cases hp
 | some q =>
  obtain ⟨j,b⟩:=q
  rw [hf] at hp
  dsimp only at hp ⊢
  unfold SetTable.orStandIn at hp ⊢
  split
  ·exact put_rs (hr ht) (free_live hf)
  ·rename_i hc
   rw [if_neg hc] at hp
   cases hp
theorem relay_rs {t:SetTable} {es:Array (Int×Value)} {k:Nat} (hp:(relayAll t es k).2.1.plain=true):Rs (relayAll t es k).2.1.place:=by
 unfold relayAll at hp ⊢
 cases hr:t.relaid (es.map (·.1)) k with
 | none=>rw [hr] at hp; cases hp
 | some q =>
  obtain ⟨t',o⟩:=q
  rw [hr] at hp
  dsimp only at hp ⊢
  split
  ·exact laid_rs hr
  ·rename_i hc
   rw [if_neg hc] at hp
   cases hp
structure TabI (w:World) (t:SetTable) (n:Nat):Prop where
 fits:t.fits n=true
 led:t.led = !byT w
 plain:t.plain=true→Rs t.place
section
variable (prog:Program) (w:World)
noncomputable def SetI (h:Heap) (a:Addr) (xs:List Int):Prop :=
 ∃ o es ep t,h.get? a=some o∧o.ExactSet∧o.data = .set es ep t∧TabI w t es.size∧ElemsOf (intKind prog w) es.toList∧IntsAre (es.toList.map (·.2)) xs∧xs.Nodup∧es.size<scanBound
end
section
variable {prog:Program} {w:World} {A:Around} {E:Value→Shared→Prop} {s:Shared} {a:Addr}
theorem ints_mem:∀ {vs:List Value} {xs:List Int},IntsAre vs xs→∀ x,x∈xs ↔ ∃ v∈vs,(intKind prog w).is x v=true
 | _,_,.nil,x=>⟨(fun h=>by cases h),fun ⟨v,h,_⟩=>by cases h⟩
 | _,_,.cons y t r,x=>by
  have ih:=ints_mem r x
  constructor
  ·intro h
   rcases List.mem_cons.mp h with rfl | h
   ·exact ⟨_,List.mem_cons_self,intKind_is _ _ _ _⟩
   ·obtain ⟨v,h1,h2⟩:=ih.mp h
    exact ⟨v,List.mem_cons_of_mem _ h1,h2⟩
  ·rintro ⟨v,h1,h2⟩
   rcases List.mem_cons.mp h1 with rfl | h1
   ·have e:x=y:=(intKind prog w).inj _ x y h2 (intKind_is _ _ _ _)
    rw [e]
    exact List.mem_cons_self
   ·exact List.mem_cons_of_mem _ (ih.mpr ⟨v,h1,h2⟩)
theorem ints_perm:∀ {vs vs':List Value},vs.Perm vs'→∀ {xs:List Int},IntsAre vs xs→∃ xs',IntsAre vs' xs'∧xs.Perm xs':=by
 intro vs vs' p
 induction p with
 | nil=>intro xs h; exact ⟨xs,h,.refl _⟩
 | cons v _ ih =>
  intro xs h
  cases h with
  | cons x t r =>
   obtain ⟨xs',h1,h2⟩:=ih r
   exact ⟨x :: xs',.cons x t h1,h2.cons x⟩
 | swap u v l =>
  intro xs h
  cases h with
  | cons x t r =>
   cases r with
   | cons y t' r'=>exact ⟨y :: x :: _,.cons y t' (.cons x t r'),.swap y x _⟩
 | trans _ _ ih1 ih2 =>
  intro xs h
  obtain ⟨ys,h1,h2⟩:=ih1 h
  obtain ⟨zs,h3,h4⟩:=ih2 h1
  exact ⟨zs,h3,h2.trans h4⟩
theorem ints_snoc:∀ {vs:List Value} {xs:List Int},IntsAre vs xs→∀ (x:Int) (t:Tok),IntsAre (vs++[.int x t]) (xs++[x])
 | _,_,.nil,x,t => .cons x t .nil
 | _,_,.cons y u r,x,t => .cons y u (ints_snoc r x t)
theorem add_storeI {es es1:Array (Int×Value)} {ep:Nat} {t t2:SetTable} {o:Obj} {xs1:List Int} {wd:Bool} {g:Bool→Sem Unit} {R:Option Bool→Shared→Prop} (hg:∀ (b:Bool) (s₁:Shared) (Q':Unit→Shared→Prop),Q' () s₁→wpAny (model prog w) A (g b) Q' E s₁)
  (ho:s.heap.get? a=some o) (hx:o.ExactSet) (hd:o.data = .set es ep t) (hb:es1.size<scanBound) (hT:TabI w t2 es1.size) (hel:ElemsOf (intKind prog w) es1.toList) (hs:IntsAre (es1.toList.map (·.2)) xs1) (hn:xs1.Nodup)
  (h:∀ h' xs',Heap.SameBut a s.heap h'→SetI prog w h' a xs'→xs1.Perm xs'→R (some true) { s with heap:=h' }) :
  wpAny (model prog w) A (do
    storeSet a es1 t2
    if (!wd && t2.tooFull)=true then do
      g (relayAll t2 es1 (SetTable.grown es1.size)).2.2
      storeSet a (relayAll t2 es1 (SetTable.grown es1.size)).1 (relayAll t2 es1 (SetTable.grown es1.size)).2.1
      pure (some true)
     else pure (some true)) R E s:=by
 refine wpAny_bind (wpAny_storeSet_of ho hd ?_ (fits_of_scanBound hb))
 have o1:(s.heap.update a (Obj.putSet es1 t2)).get? a=some { o with data:=.set es1 (ep+1) t2 }:=by
  have q:=Heap.get?_update_self (Obj.putSet es1 t2) ho (by rw [putSet_of es1 t2 hd]; rfl)
  rwa [putSet_of es1 t2 hd] at q
 have b1:=Heap.SameBut.update s.heap a (Obj.putSet es1 t2)
 by_cases hc:(!wd && t2.tooFull)=true
 ·rw [if_pos hc]
  have hp:=relayAll_perm t2 es1 (SetTable.grown es1.size)
  have hf:=relayAll_fits t2 es1 (SetTable.grown es1.size)
  have hl:=relay_led t2 es1 (SetTable.grown es1.size)
  have hrs:=relay_rs (t:=t2) (es:=es1) (k:=SetTable.grown es1.size)
  generalize relayAll t2 es1 (SetTable.grown es1.size)=Rl at hp hf hl hrs ⊢
  obtain ⟨es2,t3,gv⟩:=Rl
  dsimp only at hp hf hl hrs ⊢
  have hz:es2.size=es1.size:=by simpa using hp.length_eq
  obtain ⟨xs2,hs2,hpx⟩:=ints_perm (hp.map (·.2)).symm hs
  refine wpAny_bind (hg _ _ _ (wpAny_bind (wpAny_storeSet_of (s:={ s with heap:=s.heap.update a (Obj.putSet es1 t2) }) o1 rfl ?_ (fits_of_scanBound (by rw [hz]; exact hb)))))
  have o2:((s.heap.update a (Obj.putSet es1 t2)).update a (Obj.putSet es2 t3)).get? a=some { o with data:=.set es2 (ep+1+1) t3 }:=by
   have q:=Heap.get?_update_self (Obj.putSet es2 t3) o1 (by rw [putSet_of es2 t3 rfl]; rfl)
   rwa [putSet_of es2 t3 rfl] at q
  exact wpAny_pure (h _ xs2 (b1.trans (Heap.SameBut.update _ a _)) ⟨_,es2,_,t3,o2,hx,rfl,⟨hf,by rw [hl.1]; exact hT.led,hrs⟩,hel.perm hp,hs2,hpx.nodup_iff.mp hn,by rw [hz]; exact hb⟩ hpx)
 ·rw [if_neg hc]
  exact wpAny_pure (h _ xs1 b1 ⟨_,es1,_,t2,o1,hx,rfl,hT,hel,hs,hn,hb⟩ (.refl _))
theorem add_int {x:Int} {tk:Tok} {xs:List Int} {Q:Bool→Shared→Prop} (hS:SetI prog w s.heap a xs) (hr:xs.length+1<scanBound)
  (h:∀ h' xs' b,Heap.SameBut a s.heap h'→SetI prog w h' a xs'→(∀ y,y∈xs' ↔ y∈xs∨y=x)→xs'.length≤xs.length+1→Q b { s with heap:=h' }) :
  wpAny (model prog w) A (setAddHashed a (.int x tk) ((intKind prog w).hash x)) Q E s:=by
 obtain ⟨o,es,ep,t,ho,hx,hd,hT,hel,hs,hn,hb⟩:=id hS
 have hsz:es.size=xs.length:=by
  have:=hs.length
  simpa using this
 have hkey:(intKind prog w).is x (.int x tk)=true:=intKind_is _ _ _ _
 have hsc:(Value.int x tk).scannable=true:=rfl
 unfold setAddHashed setAddHashedIn
 refine wpAny_holding (wpAny_bind (wpAny_setState_of ho hd hT.fits ?_))
 dsimp only
 rw [byScan_of (knd:=intKind prog w) hsc hb hel,if_pos rfl]
 unfold setAddByScan
 refine wpAny_bind (wpAny_bind (wpAny_rule (wpAny_bind (wpAny_setScan_of (knd:=intKind prog w) hkey ho hd hT.fits hel ?_))))
 cases hf:es.toList.findIdx? (fun e=>(intKind prog w).is x e.2) with
 | some j =>
  dsimp only
  obtain ⟨hj,hp,_⟩:=List.findIdx?_eq_some_iff_getElem.mp hf
  have hm:x∈xs:=(ints_mem hs x).mpr ⟨_,List.mem_map.mpr ⟨_,List.getElem_mem hj,rfl⟩,hp⟩
  refine wpAny_pure (wpAny_pure ?_)
  have e:s = { s with heap:=s.heap }:=by cases s; rfl
  rw [e]
  exact h s.heap xs false (Heap.SameBut.refl a s.heap) hS (fun y=>⟨.inl,fun z=>z.elim id fun z=>z ▸ hm⟩) (Nat.le_succ _)
 | none =>
  dsimp only
  have hm:x ∉ xs:=fun hm=>by
   obtain ⟨v,hv,q⟩:=(ints_mem (prog:=prog) (w:=w) hs x).mp hm
   obtain ⟨e,he,rfl⟩:=List.mem_map.mp hv
   have:=List.findIdx?_eq_none_iff.mp hf e he
   rw [q] at this
   cases this
  have hg : ∀ (b : Bool) {s₁ : Shared} {Q' : Unit → Shared → Prop}, Q' () s₁ → wpAny (model prog w) A (match b with | true => rule "set.scan.the-table-gave-way" | false => pure ()) Q' E s₁ := by
   intro b s₁ Q' hq
   cases b
   ·exact wpAny_pure hq
   ·exact wpAny_rule hq
  have hp:=layNew_perm t es ((intKind prog w).hash x) (.int x tk)
  have hfit:=layNew_fits t es ((intKind prog w).hash x) (.int x tk)
  have hl:=lay_led t es ((intKind prog w).hash x) (.int x tk)
  have hrs:=lay_rs (t:=t) (es:=es) (h:=(intKind prog w).hash x) (x:=.int x tk) hT.plain
  generalize layNew t es ((intKind prog w).hash x) (.int x tk)=Ln at hp hfit hl hrs ⊢
  obtain ⟨es1,t1,wd,gv⟩:=Ln
  dsimp only at hp hfit hl hrs ⊢
  rw [Array.toList_push] at hp
  have hz:es1.size=es.size+1:=by simpa using hp.length_eq
  have hel1:ElemsOf (intKind prog w) es1.toList:=(hel.push hkey hsc).perm hp
  have hs0:IntsAre ((es.toList++[((intKind prog w).hash x,Value.int x tk)]).map (·.2)) (xs++[x]):=by
   rw [List.map_append]
   exact ints_snoc hs x tk
  obtain ⟨xs1,hs1,hpx⟩:=ints_perm (hp.map (·.2)).symm hs0
  have hn1:xs1.Nodup:=hpx.nodup_iff.mp (List.nodup_append.mpr ⟨hn,by simp,fun u hu v hv=>by
   rw [List.mem_singleton.mp hv]
   rintro rfl
   exact hm hu⟩)
  have fin:∀ h' xs',Heap.SameBut a s.heap h'→SetI prog w h' a xs'→xs1.Perm xs'→Q true { s with heap:=h' }:=fun h' xs' b1 b2 b3=>h h' xs' true b1 b2 (fun y=>by
   rw [← (hpx.trans b3).mem_iff]
   simp) (by rw [← (hpx.trans b3).length_eq]; simp)
  refine wpAny_bind (hg _ ?_)
  by_cases hpl:t1.plain=true
  ·rw [if_pos hpl,hashByValue_scannable 8 hsc]
   refine wpAny_bind (wpAny_pure ?_)
   refine add_storeI (t2:=if plainKind (Value.int x tk)=true then t1 else { t1 with plain:=false }) (fun b s₁ Q' hq=>by cases b <;> first | exact wpAny_pure hq | exact wpAny_rule hq) ho hx hd (by omega) ?_ hel1 hs1 hn1 fun h' xs' b1 b2 b3=>wpAny_pure (fin h' xs' b1 b2 b3)
   rw [if_pos (show plainKind (Value.int x tk)=true from rfl)]
   exact ⟨hfit,by rw [← hT.led]; exact hl.1,hrs⟩
  ·rw [if_neg hpl]
   refine wpAny_bind (wpAny_pure ?_)
   simp only [if_true]
   exact add_storeI (fun b s₁ Q' hq=>by cases b <;> first | exact wpAny_pure hq | exact wpAny_rule hq) ho hx hd (by omega) ⟨hfit,by rw [← hT.led]; exact hl.1,fun z=>absurd z hpl⟩ hel1 hs1 hn1 fun h' xs' b1 b2 b3=>wpAny_pure (fin h' xs' b1 b2 b3)
end
end DL
end
section
namespace DL
open PySem PySem.Spec PyProof.Rows L2
section
variable {prog:Program} {w:World} {A:Around} {E:Value→Shared→Prop} {s:Shared} {a:Addr}
end
end DL
end
section
set_option maxHeartbeats 1000000
namespace DL
open PySem PySem.Spec PyProof.Rows L2 PySem.W SO
section
variable {prog:Program} {w:World} {A:Around} {E:Value→Shared→Prop} {s:Shared} {a:Addr}
theorem SetI.kept {h h':Heap} {xs:List Int} (x:SetI prog w h a xs) (hk:∀ b o,h.get? b=some o→h'.get? b=some o):SetI prog w h' a xs:=by
 obtain ⟨o,es,ep,t,ho,r⟩:=x
 exact ⟨o,es,ep,t,hk _ _ ho,r⟩
theorem SetI.typeIs {xs : List Int} (x : SetI prog w s.heap a xs) : s.TypeIs (.ref a) "set" := by
 obtain ⟨o,es,ep,t,ho,hx,_⟩:=x
 exact ⟨o,ho,hx.1⟩
theorem SetI.len {h:Heap} {xs:List Int} (x:SetI prog w h a xs):xs.length<scanBound∧xs.Nodup∧a<h.objs.size:=by
 obtain ⟨o,es,ep,t,ho,hx,hd,hT,hel,hs,hn,hb⟩:=x
 have:=hs.length
 rw [List.length_map,Array.length_toList] at this
 exact ⟨by omega,hn,Heap.lt_size ho⟩
end
end DL
end
section
set_option maxHeartbeats 1000000
namespace DL
open PySem PySem.Spec PyProof.Rows L2 PySem.W SO
section
variable {prog:Program} {w:World} {A:Around} {E:Value→Shared→Prop} {s:Shared}
end
section
variable {X:Cx} {EX:EXT}
end
section
variable {prog:Program} {w:World} {A:Around} {E:Value→Shared→Prop} {s:Shared} {a:Addr}
end
section
variable {X:Cx} {EX:EXT} {pins:List (Addr×Obj)} {σ:L2.St} {H:Hp} {s:Shared}
end
end DL
end
section
set_option maxHeartbeats 1000000
namespace DL
open PySem PySem.SetTable
noncomputable def lq (m:Nat):Nat→Nat×Nat→Nat×Nat
 | 0,q=>q
 | n+1,q=>lq m n (leap m q.1 q.2)
theorem lq_add (m:Nat):∀ (a b:Nat) (q:Nat×Nat),lq m (a+b) q=lq m b (lq m a q)
 | 0,b,q=>by rw [Nat.zero_add]; rfl
 | a+1,b,q=>by rw [Nat.succ_add]; exact lq_add m a b _
theorem lq_pert (m:Nat):∀ (n:Nat) (q:Nat×Nat),(lq m n q).2=q.2 / 32 ^ n
 | 0,q=>by simp [lq]
 | n+1,q=>by
  rw [lq,lq_pert]
  show q.2 / 32 / 32 ^ n=_
  rw [Nat.div_div_eq_div_mul,Nat.pow_succ,Nat.mul_comm]
theorem lq_le (m:Nat):∀ (n:Nat) (q:Nat×Nat),q.1≤m→(lq m n q).1≤m
 | 0,q,h=>h
 | n+1,q,h=>lq_le m n _ (by
  show (q.1 * 5+1+q.2 / 32) % (m+1)≤m
  have:=Nat.mod_lt (q.1 * 5+1+q.2 / 32) (show 0<m+1 by omega)
  omega)
noncomputable def lc (m:Nat):Nat→Nat→Nat
 | 0,i=>i
 | n+1,i=>lc m n ((i * 5+1) % (m+1))
theorem lc_add (m:Nat):∀ (a b i:Nat),lc m (a+b) i=lc m b (lc m a i)
 | 0,b,i=>by rw [Nat.zero_add]; rfl
 | a+1,b,i=>by rw [Nat.succ_add]; exact lc_add m a b _
theorem lq_zero (m:Nat):∀ (n i:Nat),lq m n (i,0)=(lc m n i,0)
 | 0,i=>rfl
 | n+1,i=>by
  rw [lq]
  have:leap m (i,0).1 (i,0).2=((i * 5+1) % (m+1),0):=by simp [leap]
  rw [this,lq_zero]
  rfl
noncomputable def orb (m:Nat):Nat→Nat→List Nat
 | 0,_=>[]
 | n+1,i=>i :: orb m n ((i * 5+1) % (m+1))
theorem orb_mem (m:Nat):∀ (n i x:Nat),x∈orb m n i→∃ k,k<n∧lc m k i=x
 | 0,i,x,h=>by cases h
 | n+1,i,x,h=>by
  rcases List.mem_cons.mp h with rfl | h
  ·exact ⟨0,by omega,rfl⟩
  ·obtain ⟨k,h1,h2⟩:=orb_mem m n _ x h
   exact ⟨k+1,by omega,h2⟩
noncomputable def full (m:Nat):Bool:=(List.range (m+1)).all (fun e=>(orb m (m+1) 0).contains e) && lc m (m+1) 0 == 0
theorem full_hit {m e:Nat} (h:full m=true) (he:e≤m):∃ a,a≤m∧lc m a 0=e:=by
 unfold full at h
 rw [Bool.and_eq_true] at h
 have h1:=List.all_eq_true.mp h.1 e (by simp; omega)
 obtain ⟨k,h2,h3⟩:=orb_mem m (m+1) 0 e (by simpa using h1)
 exact ⟨k,by omega,h3⟩
theorem full_all {m i e:Nat} (h:full m=true) (hi:i≤m) (he:e≤m):∃ n,n≤m∧lc m n i=e:=by
 have h0:lc m (m+1) 0=0:=by
  unfold full at h
  rw [Bool.and_eq_true] at h
  exact eq_of_beq h.2
 obtain ⟨a,ha,rfl⟩:=full_hit h hi
 obtain ⟨b,hb,rfl⟩:=full_hit h he
 by_cases hab:a≤b
 ·exact ⟨b - a,by omega,by rw [← lc_add,show a+(b - a)=b by omega]⟩
 ·exact ⟨m+1+b - a,by omega,by rw [← lc_add,show a+(m+1+b - a)=(m+1)+b by omega,lc_add,h0]⟩
noncomputable def Msk (m:Nat):Prop:=m=7∨m=31∨m=127∨m=511
theorem full7:full 7=true:=by decide +kernel
theorem full31:full 31=true:=by decide +kernel
theorem full127:full 127=true:=by decide +kernel
theorem full511:full 511=true:=by decide +kernel
theorem Msk.full {m:Nat} (h:Msk m):full m=true:=by
 rcases h with rfl | rfl | rfl | rfl
 ·exact full7
 ·exact full31
 ·exact full127
 ·exact full511
theorem leap_hits {m e:Nat} (hm:Msk m) (q:Nat×Nat) (hi:q.1≤m) (hp:q.2<2 ^ 64) (he:e≤m):∃ n,1≤n∧n≤13+m∧(lq m n q).1=e:=by
 have h2:(lq m 13 q).2=0:=by
  rw [lq_pert]
  exact Nat.div_eq_of_lt (Nat.lt_of_lt_of_le hp (by decide))
 obtain ⟨n,h3,h4⟩:=full_all hm.full (lq_le m 13 q hi) he
 refine ⟨13+n,by omega,by omega,?_⟩
 rw [lq_add]
 have:lq m 13 q=((lq m 13 q).1,0):=by rw [← h2]
 rw [this,lq_zero,h4]
section
variable {t:SetTable}
noncomputable def advN (t:SetTable):Nat→Probe→Probe
 | 0,p=>p
 | n+1,p=>advN t n (t.advance p)
theorem advN_add:∀ (a b:Nat) (p:Probe),advN t (a+b) p=advN t b (advN t a p)
 | 0,b,p=>by rw [Nat.zero_add]; rfl
 | a+1,b,p=>by rw [Nat.succ_add]; exact advN_add a b _
theorem advN_succ (n:Nat) (p:Probe):advN t (n+1) p=t.advance (advN t n p):=advN_add n 1 p
theorem adv_lin:∀ (k:Nat) (p:Probe),k≤p.more→advN t k p = { p with j:=p.j+k,more:=p.more - k }
 | 0,p,_=>rfl
 | k+1,p,h=>by
  rw [advN]
  have:t.advance p = { p with j:=p.j+1,more:=p.more - 1 }:=by
   unfold advance
   rw [if_pos (by omega)]
  rw [this,adv_lin k _ (by show k≤p.more - 1; omega)]
  dsimp only
  congr 1 <;> omega
noncomputable def lpAt (t:SetTable) (p:Probe) (L:Nat×Nat):Probe:={ p with j:=L.1,more:=runEnd t.mask L.1 - L.1,i:=L.1,perturb:=L.2 }
theorem adv_leap (p:Probe):advN t (p.more+1) p=lpAt t p (leap t.mask p.i p.perturb):=by
 rw [advN_succ,adv_lin _ _ (Nat.le_refl _)]
 unfold advance
 rw [if_neg (by show ¬ p.more - p.more > 0; omega)]
 rfl
theorem bits_lt (h:Int):bits h<2 ^ 64:=by
 unfold bits
 have:=Int.emod_lt_of_pos h (show (0:Int)<2 ^ 64 by decide)
 have:=Int.emod_nonneg h (show (2 ^ 64:Int)≠0 by decide)
 omega
theorem has_nil (j:Nat):has #[] j=false:=by simp [has]
theorem slot_of (hd:t.dummies = #[]) (j:Nat):t.slot j = .empty∨∃ i,t.slot j = .live i∧t.place[i]?=some j:=by
 unfold slot
 by_cases h:(t.place[below t.place j]? == some j)=true
 ·right
  exact ⟨below t.place j,by simp only [h,if_true],eq_of_beq h⟩
 ·left
  simp only [h,if_false,hd,has_nil,Bool.false_eq_true]
theorem below_at {xs:Array Nat} (h:Rs xs) {i j:Nat} (e:xs[i]?=some j):below xs j=i:=by
 obtain ⟨hi,e⟩:=Array.getElem?_eq_some_iff.mp e
 obtain ⟨a,b,c⟩:=below_spec h j
 have hg:xs.getD i 0=j:=by simp [Array.getD,hi,e]
 have h1:¬ i<below xs j:=fun z=>by have:=b i z; omega
 have h2:¬ below xs j<i:=fun z=>by
  have h3:=h.lt z hi
  have h4:=c _ (Nat.le_refl _) (by omega)
  omega
 omega
theorem slot_live_at (h:Rs t.place) {i j:Nat} (e:t.place[i]?=some j):t.slot j = .live i:=by
 unfold slot
 simp only [below_at h e,e,beq_self_eq_true,if_true]
theorem slot_empty_of (hd:t.dummies = #[]) {j:Nat} (h:j ∉ t.place.toList):t.slot j = .empty:=by
 rcases slot_of hd j with e | ⟨i,_,e⟩
 ·exact e
 ·exact absurd (by rw [← Array.getElem?_toList] at e; exact List.mem_of_getElem? e) h
theorem slot_not {j:Nat} (hr:Rs t.place) (h:t.slot j = .empty):j ∉ t.place.toList:=fun z=>by
 obtain ⟨i,hi⟩:=List.mem_iff_getElem?.mp z
 rw [Array.getElem?_toList] at hi
 rw [slot_live_at hr hi] at h
 cases h
end
end DL
end
section
set_option maxHeartbeats 1000000
namespace DL
open PySem PySem.SetTable
noncomputable def Pth (t:SetTable) (p:Probe) (j:Nat):Prop:=∃ n,(advN t n p).j=j∧∀ m,m<n→t.slot (advN t m p).j≠.empty
structure TabP (t:SetTable) (es:List (Int×Value)):Prop where
 msk:Msk t.mask
 dum:t.dummies = #[]
 rs:Rs t.place
 len:t.place.size=es.length
 few:es.length * 5<t.mask * 3
 pth:∀ q∈t.place.toList.zip es,Pth t (t.probeStart q.2.1) q.1
section
variable {t t':SetTable} {es:List (Int×Value)}
theorem Msk.le {m:Nat} (h:Msk m):7≤m∧m≤511∧m % 2=1:=by
 rcases h with rfl | rfl | rfl | rfl <;> decide
theorem TabP.room (T:TabP t es):es.length≤t.mask:=by
 have:=T.few
 omega
theorem TabP.fits (T:TabP t es):t.fits es.length=true:=by
 have h:=T.room
 have l:=T.len
 have d:=T.dum
 unfold SetTable.fits SetTable.fill
 simp [l,d,h]
theorem TabP.gave (T:TabP t es):t.gaveWay=false:=by
 have:=T.msk.le
 unfold SetTable.gaveWay
 simp [this.2.2]
theorem advance_mask (h:t.mask=t'.mask) (p:Probe):t.advance p=t'.advance p:=by
 unfold advance
 rw [h]
theorem advN_mask (h:t.mask=t'.mask):∀ (n:Nat) (p:Probe),advN t n p=advN t' n p
 | 0,p=>rfl
 | n+1,p=>by rw [advN,advN,advance_mask h,advN_mask h]
theorem Pth.mono {p:Probe} {j:Nat} (h:t.mask=t'.mask) (hs:∀ x,t.slot x≠.empty→t'.slot x≠.empty) (q:Pth t p j):Pth t' p j:=by
 obtain ⟨n,a,b⟩:=q
 exact ⟨n,by rw [← advN_mask h]; exact a,fun m hm=>by rw [← advN_mask h]; exact hs _ (b m hm)⟩
theorem slot_iff (hd:t.dummies = #[]) (hr:Rs t.place) (x:Nat):t.slot x≠.empty ↔ x∈t.place.toList:=by
 constructor
 ·intro h
  exact Classical.byContradiction fun z=>h (slot_empty_of hd z)
 ·intro h z
  exact slot_not hr z h
theorem ins_toList {α:Type} (xs:Array α) (p:Nat) (x:α):(insertAt xs p x).toList=xs.toList.take p++x :: xs.toList.drop p:=by
 unfold insertAt
 simp [Array.toList_extract,List.extract]
 rw [List.take_of_length_le (by simp)]
theorem zip_ins {α β:Type} {xs:List α} {ys:List β} (h:xs.length=ys.length) (p:Nat) (x:α) (y:β) (q:α×β) (hq:q∈(xs.take p++x :: xs.drop p).zip (ys.take p++y :: ys.drop p)):q=(x,y)∨q∈xs.zip ys:=by
 rw [List.zip_append (by simp [h]),List.zip_cons_cons] at hq
 rcases List.mem_append.mp hq with z | z
 ·right
  rw [← List.take_append_drop p xs,← List.take_append_drop p ys,List.zip_append (by simp [h])]
  exact List.mem_append_left _ z
 ·rcases List.mem_cons.mp z with z | z
  ·exact .inl z
  ·right
   rw [← List.take_append_drop p xs,← List.take_append_drop p ys,List.zip_append (by simp [h])]
   exact List.mem_append_right _ z
theorem TabP.put (T:TabP t es) {j:Nat} {h:Int} {v:Value} (hj:t.slot j = .empty) (hp:Pth t (t.probeStart h) j) (pl:Bool) (hf:(es.length+1) * 5<t.mask * 3) :
  TabP { (t.put j).1 with plain:=pl } (es.take (t.put j).2++(h,v) :: es.drop (t.put j).2):=by
 have hd:(t.put j).1.dummies = #[]:=by
  show (if has t.dummies j then _ else t.dummies)=_
  rw [T.dum,has_nil]
  rfl
 have hpl:(t.put j).1.place.toList=t.place.toList.take (below t.place j)++j :: t.place.toList.drop (below t.place j):=ins_toList _ _ _
 have hrs:Rs (t.put j).1.place:=put_rs T.rs (slot_live (.inl hj))
 have hl:(es.take (t.put j).2++(h,v) :: es.drop (t.put j).2).length=es.length+1:=by
  simp only [List.length_append,List.length_cons,List.length_take,List.length_drop]
  omega
 have hsl:∀ x,t.slot x≠.empty→({ (t.put j).1 with plain:=pl }:SetTable).slot x≠.empty:=fun x hx=>by
  rw [slot_iff (show ({ (t.put j).1 with plain:=pl }:SetTable).dummies = #[] from hd) (show Rs ({ (t.put j).1 with plain:=pl }:SetTable).place from hrs)]
  have:=(slot_iff T.dum T.rs x).mp hx
  show x∈(t.put j).1.place.toList
  rw [hpl,List.mem_append,List.mem_cons]
  rw [← List.take_append_drop (below t.place j) t.place.toList,List.mem_append] at this
  rcases this with z | z
  ·exact .inl z
  ·exact .inr (.inr z)
 refine ⟨T.msk,hd,hrs,?_,?_,fun q hq => ?_⟩
 ·have h1:=congrArg List.length hpl
  rw [Array.length_toList] at h1
  rw [hl]
  show (t.put j).1.place.size=_
  rw [h1]
  have:=T.len
  simp only [List.length_append,List.length_cons,List.length_take,List.length_drop,Array.length_toList]
  omega
 ·rw [hl]
  exact hf
 ·have hq':q∈(t.place.toList.take (below t.place j)++j :: t.place.toList.drop (below t.place j)).zip (es.take (below t.place j)++(h,v) :: es.drop (below t.place j)):=by
   rw [← hpl]
   exact hq
  rcases zip_ins (by rw [Array.length_toList]; exact T.len) _ _ _ q hq' with rfl | z
  ·exact Pth.mono (t:=t) rfl hsl hp
  ·exact Pth.mono (t:=t) rfl hsl (T.pth q z)
end
section
variable {t:SetTable} {owner:Array (Option Nat)}
noncomputable def PthO (t:SetTable) (owner:Array (Option Nat)) (p:Probe) (j:Nat):Prop:=∃ n,(advN t n p).j=j∧∀ m,m<n→∃ k,owner[(advN t m p).j]?=some (some k)
noncomputable def stP (t:SetTable) (i pert:Nat):Probe:={ j:=i,more:=runEnd t.mask i - i,i,perturb:=pert,dummy:=none }
theorem run_in {m i:Nat} (h:i≤m):runEnd m i≤m∧i≤runEnd m i:=by
 unfold runEnd
 split <;> omega
theorem getD_some {j:Nat} (h:j<owner.size) (hn:(owner.getD j (some 0)).isNone=false):∃ k,owner[j]?=some (some k):=by
 rw [Array.getElem?_eq_getElem h]
 simp only [Array.getD,h,dite_true] at hn
 have hn':owner[j].isNone=false:=hn
 cases e:owner[j] with
 | none=>rw [e] at hn'; cases hn'
 | some k=>exact ⟨k,rfl⟩
theorem getD_none {j:Nat} (hn:(owner.getD j (some 0)).isNone=true):owner[j]?=some none:=by
 by_cases h:j<owner.size
 ·rw [Array.getElem?_eq_getElem h]
  simp only [Array.getD,h,dite_true] at hn
  have hn':owner[j].isNone=true:=hn
  cases e:owner[j] with
  | none=>rfl
  | some k=>rw [e] at hn'; cases hn'
 ·simp [Array.getD,h] at hn
theorem free_ok (ho:owner.size=t.mask+1):∀ (F i pert:Nat),i≤t.mask→(∃ n,n<F∧owner[(lq t.mask n (i,pert)).1]?=some none) →
  ∃ j,layClean.free t.mask owner F i pert=some j∧owner[j]?=some none∧PthO t owner (stP t i pert) j
 | 0,i,pert,_,⟨n,h,_⟩=>by omega
 | F+1,i,pert,hi,⟨n,h1,h2⟩=>by
  have hr:=run_in hi
  have lin:∀ m,m≤runEnd t.mask i - i→(advN t m (stP t i pert)).j=i+m:=fun m hm=>by
   rw [adv_lin m _ hm]
   rfl
  unfold layClean.free
  cases hf:(List.range (runEnd t.mask i+1 - i)).find? fun k=>(owner.getD (i+k) (some 0)).isNone with
  | some k =>
   rw [List.find?_range_eq_some] at hf
   obtain ⟨f1,f2,f3⟩:=hf
   have hk:k<runEnd t.mask i+1 - i:=List.mem_range.mp f2
   refine ⟨i+k,rfl,getD_none f1,k,lin k (by omega),fun m hm => ?_⟩
   rw [lin m (by omega)]
   have:=f3 m hm
   exact getD_some (by omega) (by simpa using this)
  | none =>
   have hall:∀ m,m≤runEnd t.mask i - i→∃ k,owner[i+m]?=some (some k):=fun m hm=>by
    have:=List.find?_eq_none.mp hf m (List.mem_range.mpr (by omega))
    exact getD_some (by omega) (Bool.eq_false_iff.mpr this)
   have hn0:n≠0:=by
    rintro rfl
    obtain ⟨k,e⟩:=hall 0 (Nat.zero_le _)
    rw [Nat.add_zero] at e
    have h2':owner[i]?=some none:=h2
    rw [e] at h2'
    cases h2'
   obtain ⟨n',rfl⟩:∃ n',n=n' + 1:=⟨n - 1,by omega⟩
   have hle:(leap t.mask i pert).1≤t.mask:=by
    have:=Nat.mod_lt (i * 5+1+pert / 32) (show 0<t.mask+1 by omega)
    show (i * 5+1+pert / 32) % (t.mask+1)≤t.mask
    omega
   obtain ⟨j,a,b,n2,c,d⟩:=free_ok ho F (leap t.mask i pert).1 (leap t.mask i pert).2 hle ⟨n',by omega,h2⟩
   have hlp:advN t (runEnd t.mask i - i+1) (stP t i pert)=stP t (leap t.mask i pert).1 (leap t.mask i pert).2:=adv_leap (stP t i pert)
   refine ⟨j,a,b,runEnd t.mask i - i+1+n2,by rw [advN_add,hlp]; exact c,fun m hm => ?_⟩
   by_cases hmm:m<runEnd t.mask i - i+1
   ·rw [lin m (by omega)]
    exact hall m (by omega)
   ·have e:m=runEnd t.mask i - i+1+(m - (runEnd t.mask i - i+1)):=by omega
    rw [e,advN_add,hlp]
    exact d _ (by omega)
structure OwnOk (t:SetTable) (hs:List Int) (owner:Array (Option Nat)) (k:Nat):Prop where
 size:owner.size=t.mask+1
 perm:(owner.toList.filterMap id).Perm (List.range k)
 way:∀ j i,owner[j]?=some (some i)→∃ h,hs[i]?=some h∧PthO t owner (t.probeStart h) j
theorem fm_set {k:Nat}:∀ (l:List (Option Nat)) (j:Nat),l[j]?=some none→((l.set j (some k)).filterMap id).Perm (k :: l.filterMap id)
 | [],j,h=>by simp at h
 | x :: l,0,h=>by
  simp at h
  subst h
  simp
 | x :: l,j+1,h=>by
  have ih:=fm_set (k:=k) l j (by simpa using h)
  cases x with
  | none=>simpa using ih
  | some y =>
   simp only [List.set_cons_succ,List.filterMap_cons,id]
   exact (ih.cons y).trans (.swap k y _)
theorem fm_len:∀ (l:List (Option Nat)),(∀ j,j<l.length→l[j]?≠some none)→l.length≤(l.filterMap id).length
 | [],_=>Nat.le_refl _
 | none :: l,h=>absurd rfl (h 0 (by simp))
 | some x :: l,h=>by
  have:=fm_len l fun j hj=>by
   have:=h (j+1) (by simpa using hj)
   simpa using this
  simpa using this
theorem OwnOk.step {hs:List Int} {k:Nat} {h:Int} (O:OwnOk t hs owner k) (hm:Msk t.mask) (hk:k≤t.mask) (hh:hs[k]?=some h) :
  ∃ j,layClean.free t.mask owner (turns t.mask) (bits h % (t.mask+1)) (bits h)=some j∧OwnOk t hs (owner.setIfInBounds j (some k)) (k+1):=by
 obtain ⟨e,he⟩:∃ e:Nat,owner[e]?=some none:=by
  refine Classical.byContradiction fun z => ?_
  have h1:=fm_len owner.toList fun j _ hj=>z ⟨j,by rw [← Array.getElem?_toList]; exact hj⟩
  rw [O.perm.length_eq,List.length_range,Array.length_toList,O.size] at h1
  omega
 have hel:e≤t.mask:=by
  have:=(Array.getElem?_eq_some_iff.mp he).1
  rw [O.size] at this
  omega
 have hi:bits h % (t.mask+1)≤t.mask:=by
  have:=Nat.mod_lt (bits h) (show 0<t.mask+1 by omega)
  omega
 obtain ⟨n,h1,h2,h3⟩:=leap_hits hm (bits h % (t.mask+1),bits h) hi (bits_lt h) hel
 obtain ⟨j,a,b,c⟩:=free_ok O.size (turns t.mask) _ _ hi ⟨n,by unfold turns; omega,by rw [h3]; exact he⟩
 have hj:j<owner.size:=(Array.getElem?_eq_some_iff.mp b).1
 have keep:∀ x i,owner[x]?=some (some i)→(owner.setIfInBounds j (some k))[x]?=some (some i):=fun x i hx=>by
  rw [Array.getElem?_setIfInBounds]
  rw [if_neg]
  ·exact hx
  ·rintro rfl
   rw [b] at hx
   cases hx
 have keepP:∀ {p:Probe} {x:Nat},PthO t owner p x→PthO t (owner.setIfInBounds j (some k)) p x:=fun ⟨n,u,v⟩=>⟨n,u,fun m hm=>let ⟨i,hi⟩:=v m hm; ⟨i,keep _ _ hi⟩⟩
 refine ⟨j,a,by simp [O.size],?_,fun x i hx => ?_⟩
 ·rw [Array.toList_setIfInBounds]
  refine (fm_set (k:=k) owner.toList j (by rw [Array.getElem?_toList]; exact b)).trans ?_
  refine (O.perm.cons k).trans ?_
  rw [List.range_succ]
  exact (List.perm_append_singleton k _).symm
 ·rw [Array.getElem?_setIfInBounds] at hx
  by_cases hjx:j=x
  ·subst hjx
   rw [if_pos rfl,if_pos hj] at hx
   cases hx
   exact ⟨h,hh,keepP c⟩
  ·rw [if_neg hjx] at hx
   obtain ⟨h',u,v⟩:=O.way x i hx
   exact ⟨h',u,keepP v⟩
end
end DL
end
section
set_option maxHeartbeats 1000000
namespace DL
open PySem PySem.Spec PyProof.Rows L2 PySem.W SO
section
variable (prog:Program) (w:World) (B:Addr→Prop)
inductive ElP (h:Heap):List (Int×Value)→List (List Str)→Prop
 | nil:ElP h [] []
 | cons {es:List (Int×Value)} {ps:List (List Str)} (b:Addr) (its:List Value) (p:List Str):B b→IsTup h b its.toArray→StrsAre its p→ElP h es ps→ElP h ((tupleKeyHash (strKind prog w) p,.ref b) :: es) (p :: ps)
noncomputable def SetP (h:Heap) (a:Addr) (ps:List (List Str)):Prop :=
 ∃ o es ep t,h.get? a=some o∧o.ExactSet∧o.data = .set es ep t∧t.led = !byT w∧TabP t es.toList∧ElP prog w B h es.toList ps∧ps.Nodup∧es.size<128
end
section
variable {prog:Program} {w:World} {B:Addr→Prop} {A:Around} {E:Value→Shared→Prop} {s:Shared} {a:Addr}
theorem ElP.mono {h h':Heap}:∀ {es:List (Int×Value)} {ps:List (List Str)},ElP prog w B h es ps→(∀ b its,IsTup h b its→IsTup h' b its)→ElP prog w B h' es ps
 | _,_,.nil,_ => .nil
 | _,_,.cons b its p y t r e,k => .cons b its p y (k b _ t) r (e.mono k)
theorem ElP.length {h:Heap} {es:List (Int×Value)} {ps:List (List Str)} (e:ElP prog w B h es ps):es.length=ps.length:=by
 induction e with
 | nil=>rfl
 | cons b its p _ _ _ _ ih=>simp [ih]
theorem ElP.at {h:Heap} {es:List (Int×Value)} {ps:List (List Str)} (e:ElP prog w B h es ps):∀ (i:Nat),i<es.length→∃ b its p,es[i]?=some (tupleKeyHash (strKind prog w) p,.ref b)∧ps[i]?=some p∧IsTup h b its.toArray∧StrsAre its p∧B b:=by
 induction e with
 | nil=>intro i hi; simp at hi
 | cons b its p y t r _ ih =>
  intro i hi
  cases i with
  | zero=>exact ⟨b,its,p,rfl,rfl,t,r,y⟩
  | succ i=>exact ih i (by simpa using hi)
theorem ElP.perm {h:Heap} {es es':List (Int×Value)} (pm:es.Perm es'):∀ {ps:List (List Str)},ElP prog w B h es ps→∃ ps',ElP prog w B h es' ps'∧ps.Perm ps':=by
 induction pm with
 | nil=>intro ps e; exact ⟨ps,e,.refl _⟩
 | cons x _ ih =>
  intro ps e
  cases e with
  | cons b its p y t r e =>
   obtain ⟨ps',h1,h2⟩:=ih e
   exact ⟨p :: ps',.cons b its p y t r h1,h2.cons p⟩
 | swap x y l =>
  intro ps e
  cases e with
  | cons b its p y t r e =>
   cases e with
   | cons b' its' p' y' t' r' e=>exact ⟨p' :: p :: _,.cons b' its' p' y' t' r' (.cons b its p y t r e),.swap p' p _⟩
 | trans _ _ ih1 ih2 =>
  intro ps e
  obtain ⟨qs,h1,h2⟩:=ih1 e
  obtain ⟨rs,h3,h4⟩:=ih2 h1
  exact ⟨rs,h3,h2.trans h4⟩
theorem ElP.bs {h:Heap} {es:List (Int×Value)} {ps:List (List Str)} (e:ElP prog w B h es ps):∀ v∈es.map (·.2),∃ b,v = .ref b∧B b:=by
 induction e with
 | nil=>intro v hv; cases hv
 | cons b its p y t r _ ih =>
  intro v hv
  rcases List.mem_cons.mp hv with rfl | hv
  ·exact ⟨b,rfl,y⟩
  ·exact ih v hv
end
end DL
end
section
namespace DL
open PySem PySem.Spec PyProof.Rows L2
section
variable {prog:Program} {w:World} {B:Addr→Prop} {A:Around} {E:Value→Shared→Prop} {s:Shared} {a:Addr}
end
end DL
end
section
set_option maxHeartbeats 1000000
namespace DL
open PySem PySem.Spec PyProof.Rows L2 PySem.W SO
section
variable {prog:Program} {w:World} {B:Addr→Prop} {A:Around} {E:Value→Shared→Prop} {s:Shared} {a:Addr}
theorem SetP.kept {h h':Heap} {xs:List (List Str)} (x:SetP prog w B h a xs) (hk:∀ b o,h.get? b=some o→h'.get? b=some o):SetP prog w B h' a xs:=by
 obtain ⟨o,es,ep,t,ho,h1,h2,h3,h4,h5,r⟩:=x
 exact ⟨o,es,ep,t,hk _ _ ho,h1,h2,h3,h4,h5.mono fun b its ⟨u,g1,g2⟩=>⟨u,hk _ _ g1,g2⟩,r⟩
theorem SetP.typeIs {xs : List (List Str)} (x : SetP prog w B s.heap a xs) : s.TypeIs (.ref a) "set" := by
 obtain ⟨o,es,ep,t,ho,hx,_⟩:=x
 exact ⟨o,ho,hx.1⟩
theorem SetP.len {h:Heap} {xs:List (List Str)} (x:SetP prog w B h a xs):xs.length<128∧xs.Nodup∧a<h.objs.size:=by
 obtain ⟨o,es,ep,t,ho,hx,hd,hled,T,el,hn,hb⟩:=x
 have:=el.length
 rw [Array.length_toList] at this
 exact ⟨by omega,hn,Heap.lt_size ho⟩
theorem ElP.lt {h:Heap}:∀ {es:List (Int×Value)} {ps:List (List Str)},ElP prog w B h es ps→ElP prog w (fun b=>B b∧b<h.objs.size) h es ps
 | _,_,.nil => .nil
 | _,_,.cons b its p y t r e => .cons b its p ⟨y,let ⟨_,g,_⟩:=t; Heap.lt_size g⟩ t r (ElP.lt e)
theorem SetP.lt {h:Heap} {xs:List (List Str)} (x:SetP prog w B h a xs):SetP prog w (fun b=>B b∧b<h.objs.size) h a xs:=by
 obtain ⟨o,es,ep,t,ho,h1,h2,h3,h4,h5,r⟩:=x
 exact ⟨o,es,ep,t,ho,h1,h2,h3,h4,h5.lt,r⟩
end
end DL
end
section
set_option maxHeartbeats 1000000
namespace DL
open PySem PySem.Spec PyProof.Rows L2 PySem.W SO
section
variable {prog:Program} {w:World} {B:Addr→Prop} {A:Around} {E:Value→Shared→Prop} {s:Shared} {a:Addr}
end
section
variable {X:Cx} {EX:EXT} {pins:List (Addr×Obj)} {σ:L2.St} {H:Hp} {s:Shared} {O:List Addr}
end
end DL
end
section
set_option maxHeartbeats 1000000
namespace DL
open PySem PySem.Spec PyProof.Rows L2
section
variable {M:Model} {A:Around} {E:Value→Shared→Prop} {s:Shared}
end
structure BlkD (sc scope:Scope) (N0 N:List Str) (caps:List Nat) (nT:Nat):Prop where
 kind:scope.kind = .function
 names:∀ y∈scope.names,y.2 = .local→scope.names.lookup y.1=some .local
 free:∀ y∈scope.names,y.2 = .free→sc.names.lookup y.1=some .cell∨sc.names.lookup y.1=some .free
 len:N.length=nT+caps.length
 cap:∀ q∈(List.range caps.length),∃ i x,caps[q]?=some i∧N[nT+q]?=some x∧N0[i]?=some x∧(x,NameKind.free)∈scope.names∧(x,NameKind.cell) ∉ scope.names∧((relS scope sc).names.lookup x=some .cell∨(relS scope sc).names.lookup x=some .free)
noncomputable def blkBD (sc scope:Scope) (N0 N:List Str) (caps:List Nat) (nT:Nat):Bool :=
 (scope.kind == .function) && scope.names.all (fun y => !(y.2 == .local) || scope.names.lookup y.1 == some .local) &&
  scope.names.all (fun y => !(y.2 == .free) || (sc.names.lookup y.1 == some .cell || sc.names.lookup y.1 == some .free)) && (N.length == nT+caps.length) &&
  (List.range caps.length).all fun q=>match caps[q]?,N[nT+q]? with
   | some i,some x=>(N0[i]? == some x) && scope.names.any (fun y=>y.1 == x && y.2 == .free) && scope.names.all (fun y => !(y.1 == x && y.2 == .cell)) && ((relS scope sc).names.lookup x == some .cell || (relS scope sc).names.lookup x == some .free)
   | _,_=>false
theorem BlkD.of {sc scope:Scope} {N0 N:List Str} {caps:List Nat} {nT:Nat} (h:blkBD sc scope N0 N caps nT=true):BlkD sc scope N0 N caps nT:=by
 unfold blkBD at h
 simp only [Bool.and_eq_true] at h
 obtain ⟨⟨⟨⟨h1,h3⟩,h4⟩,h5⟩,h6⟩:=h
 refine ⟨eq_of_beq h1,fun y hy hl => ?_,fun y hy hl => ?_,eq_of_beq h5,fun q hq => ?_⟩
 ·have:=List.all_eq_true.mp h3 y hy
  rw [hl] at this
  simpa using this
 ·have:=List.all_eq_true.mp h4 y hy
  rw [hl] at this
  simpa using this
 ·have:=List.all_eq_true.mp h6 q hq
  split at this
  ·rename_i i x e1 e2
   simp only [Bool.and_eq_true,Bool.or_eq_true,List.any_eq_true,beq_iff_eq] at this
   obtain ⟨⟨⟨g1,⟨y,g2,g3,g4⟩⟩,g6⟩,g5⟩:=this
   refine ⟨i,x,e1,e2,g1,?_,fun z => ?_,g5⟩
   ·obtain ⟨y1,y2⟩:=y
    simp only at g3 g4
    subst g3 g4
    exact g2
   ·have:=List.all_eq_true.mp g6 _ z
    simp at this
  ·cases this
section
variable {X:Cx} {pins:List (Addr×Obj)} {σ:L2.St} {H:Hp} {s:Shared} {scope:Scope} {N:List Str} {caps:List Nat} {nT:Nat} {fp:List Addr}
end
section
variable {X:Cx} {pins:List (Addr×Obj)} {σ:L2.St} {H:Hp} {s:Shared} {scope:Scope} {N:List Str} {fp:List Addr}
end
section
variable {X:Cx} {EX:EXT} {scope:Scope} {N:List Str} {caps:List Nat} {nT:Nat} {elt tg iter:Expr} {ifs:List Expr} {pos:Pos} {f:DI} {t:TgD} {cond:DT} {fe:DE}
end
section
variable {X:Cx} {EX:EXT} {scope:Scope} {N:List Str} {caps:List Nat} {nT:Nat} {elt tg iter:Expr} {ifs:List Expr} {pos spos py:Pos} {f:DI} {t:TgD} {cond:DT} {fe:DE} {y:Str}
end
end DL
end
section
set_option maxHeartbeats 1000000
namespace DL
open PySem PySem.Spec PyProof.Rows L2
section
variable {X:Cx} {EX:EXT} {o a e:Expr} {es:List Expr} {fo fa:DE} {g:DA} {cpos apos:Pos}
end
end DL
end
section
set_option maxHeartbeats 1000000
namespace DL
open PySem PySem.Spec PyProof.Rows L2
section
variable {X:Cx} {EX:EXT} {a b e:Expr} {es:List Expr} {fa fb:DE} {g:DA} {pos:Pos}
end
end DL
end
section
set_option maxHeartbeats 2000000
namespace DL
open PySem PySem.Spec PyProof.Rows L2
section
variable {X:Cx} {EX:EXT}
end
section
variable {X:Cx} {EX:EXT}
end
end DL
end
section
set_option maxHeartbeats 2000000
namespace L2
open PySem PyProof.Rows
section
variable {X:Cx} {pins:List (Addr×Obj)} {σ:St} {H:Hp} {s:Shared} {a:Addr} {y v:V} {u r:Value} {A:Around} {E:Value→Shared→Prop}
theorem d_dictSetT {H':Hp} {Q:Unit→Shared→Prop} {kvs0:List (List Key×V)} (hu:A.units<cLine) (I:Inv X pins σ H s) (e0:H a=some (.dT kvs0)) (g:DPut H a y v H') (ry:RelV y u) (rv:RelV v r) (h:∀ s',Inv X pins σ H' s'→Q () s') :
  wpAny (model X.prog X.w) A (dictSet a u r) Q E s:=by
 rcases g with ⟨kvs,k,e,_⟩ | ⟨kvs,k,b,e,ey,eb,l,eH⟩
 ·rw [e0] at e; cases e
 ·subst ey eH
  cases (show u=Value.ref b from ry)
  obtain ⟨z,hd,xs,rel,dd⟩:=dt_of I.hok e
  have hz:xs.length≤sizeLine:=by rw [← Paired.length rel]; exact z
  have hl:(putK kvs k v).length≤sizeLine:=by have:=length_putK kvs k v; omega
  refine wpAny_dictSet_heap (hsz:=hz) hu (key_of I.hok eb) dd fun h' dd' hs=>h _ ?_
  obtain ⟨q,es,ep,hq,h2,h3,h4,_,h5⟩:=dd'
  refine d_write I (by rw [e]; exact True.intro) hs ⟨q,hq⟩ ⟨hl,hd,_,(rel.put k eb rv).keeps fun c ys ec => ?_,q,es,ep,hq,h2,h3,h4,h5⟩
  rw [upd_ne (ne_of ec e (fun z=>nomatch z))]
  exact ec
noncomputable def tDispT (tk tv:TE):TE:=fun σ H Q => ∀ p,H p=none→tk σ (upd H p (.dT [])) fun x H1=>tv σ H1 fun y H2 => ∃ kvs0 H3,H2 p=some (.dT kvs0)∧DPut H2 p x y H3∧Q (.ref p) H3
theorem pe_dispT {pos:Pos} {k v:Expr} {tk tv:TE} (hu:X.A.units<cLine) (hk:PE X k tk) (hv:PE X v tv):PE X (.Dict [some k] [v] pos) (tDispT tk tv):=by
 intro pins s σ H Q I q
 have hn:=I.hok.fresh (Nat.le_refl s.heap.objs.size)
 have I1 := I.laid (a := s.heap.objs.size) (o := .dT []) (h' := s.heap.push { cls := .type "dict", data := .dict #[] }) (t' := s.toks) (fun _ _ q => Heap.get?_push_of_some _ q) (Nat.le_refl _) (dt_empty s.heap I.big)
 rw [arm_eval_Dict,zip_pairTrees [some k] [v] X.env pos rfl rfl,dictDisplay_pairs (pairTrees [some k] [v] X.env pos) (by simp [pairTrees]) (by simp [pairTrees])]
 refine wpAny_bind (wpAny_standAt (wpAny_bind ?_))
 unfold subDict
 refine wpAny_bind (wpAny_alloc ?_)
 refine wpAny_bind (wpAny_holding ?_)
 rw [if_pos (by simp [pairTrees])]
 refine wpAny_bind (pairTrees_cons_walk (thn (hk pins _ σ _ _ I1 (q _ hn)) fun u s1 ⟨x,H1,I2,rx,q1⟩=>thn (hv pins s1 σ H1 _ I2 q1) fun w2 s2 ⟨y,H2,I3,ry,kvs0,H3,e0,g,q2⟩=>pairTrees_nil_walk ?_))
 refine wpAny_holding ?_
 rw [List.forIn_cons]
 refine wpAny_bind (wpAny_bind (wpAny_bind (d_dictSetT hu I3 e0 g rx ry fun s' I4 => ?_)))
 refine wpAny_pure ?_
 show wpAny _ _ (forIn [] _ _) _ _ _
 rw [List.forIn_nil]
 have fin:EP X pins σ Q (.ref s.heap.objs.size) s':=⟨.ref s.heap.objs.size,H3,I4,rfl,q2⟩
 first
  | exact wpAny_pure (wpAny_pure (wpAny_pure (wpAny_pure fin)))
  | exact wpAny_pure (wpAny_pure fin)
  | exact wpAny_pure (wpAny_pure (wpAny_pure fin))
  | exact wpAny_pure fin
end
end L2
namespace DL
open PySem PySem.Spec PyProof.Rows L2
noncomputable def dDispT (fk fv:DE):DE:=fun ρ st=>(fk ρ (st++[.dtt []])).bind fun k st1=>(fv ρ st1).bind fun v st2=>match st2[st.length]? with
 | some (.dtt _)=>match dPutAt st2 (.res st.length) k v with
  | some st3 => .ok (.res st.length) st3
  | none => .bad
 | _ => .bad
section
variable {X:Cx} {EX:EXT} {k v:Expr} {fk fv:DE} {pos:Pos}
theorem pd_dispT (hu:X.A.units+64<cLine) (hk:PD X EX k fk) (hv:PD X EX v fv):PD X EX (.Dict [some k] [v] pos) (dDispT fk fv):=by
 refine PE.mono (pe_dispT (by omega) hk hv) ?_
 rintro σ H Q ⟨O,ρ,st,W,E,R⟩ p hp
 have kp:Keep X.K O H (O++[p]) (upd H p (.dT [])):=Keep.push hp
 have W1:WR X.K (O++[p]) (upd H p (.dT [])) (st++[.dtt []]):=W.push' hp ⟨[],upd_same,rfl⟩
 have R1:=Run.later R kp
 have hq:(O++[p])[st.length]?=some p:=by rw [← W.len]; simp
 refine ⟨O++[p],ρ,st++[.dtt []],W1,E.mono kp,R1.bind.mono fun d st1 O1 H1 k1 W2 R2 x rx => ?_⟩
 refine ⟨O1,ρ,st1,W2,E.mono (kp.trans k1),R2.bind.mono fun z st2 O2 H2 k2 W3 R3 y ry => ?_⟩
 have hq2:=k2.pre _ _ (k1.pre _ _ hq)
 split at R3
 ·rename_i kvs hs
  split at R3
  ·rename_i st3 h3
   have rr:Rep X.K O2 H2 (.res st.length) (.ref p):=Rep.res_i.mpr ⟨p,rfl,hq2⟩
   obtain ⟨a,H3,ea,g,kp3,W4⟩:=dPut_ok W3 h3 rr (Rep.mono k2 _ _ rx) ry
   cases ea
   obtain ⟨vs,e2,_⟩:=W3.at_ _ _ _ hq2 hs
   exact ⟨vs,H3,e2,g,R3 O2 H3 kp3 W4 (.ref p) (Rep.mono kp3 _ _ rr)⟩
  ·exact R3.elim
 ·exact R3.elim
theorem z_dispT {ρ:Ev} {st:Sto}:dDispT fk fv ρ st=(fk ρ (st++[.dtt []])).bind fun k st1=>(fv ρ st1).bind fun v st2=>match st2[st.length]? with
 | some (.dtt _)=>match dPutAt st2 (.res st.length) k v with
  | some st3 => .ok (.res st.length) st3
  | none => .bad
 | _ => .bad:=rfl
end
end DL
end
section
set_option maxHeartbeats 2000000
namespace PySem
open Sem (wp)
section
variable {prog:Program} {w:World} {K:Type} [DecidableEq K] {knd:HeapKind prog w K} {A:Around} {E:Value→Shared→Prop} {s:Shared}
theorem none_tells {stored:List Value} {Q:Bool→Shared→Prop} (hst:∀ v∈stored,∃ k' b,v = .ref b∧knd.is s.heap k' b) (h:Q false s):wpAny (model prog w) A (tableMayTell .none stored) Q E s:=by
 unfold tableMayTell
 split
 ·exact wpAny_pure h
 ·refine wpAny_bind (wpAny_pure ?_)
  simp only [Bool.not_true,Bool.false_eq_true,if_false]
  refine wpAny_bind ?_
  refine wpAny_forIn_list _ (fun rest r s'=>s'=s∧r=(none,())∧∀ v∈rest,∃ k' b,v = .ref b∧knd.is s.heap k' b) _ ?_ ?_ _ _ ⟨rfl,rfl,hst⟩
  ·rintro x rest r s' ⟨rfl,rfl,hr⟩
   obtain ⟨k',b,rfl,hb⟩:=hr x List.mem_cons_self
   refine wpAny_bind (knd.quiet hb ?_)
   simp only [Bool.not_true,Bool.false_eq_true,if_false]
   exact wpAny_pure ⟨rfl,rfl,fun v hv=>hr v (List.mem_cons_of_mem _ hv)⟩
  ·rintro r s' ⟨rfl,rfl,_⟩
   exact wpAny_pure h
theorem none_find {d:Addr} {o:Obj} {es ep} {xs:List (K×Addr×Value)} {h:Int} {Q:Option Nat→Shared→Prop} (ho:s.heap.get? d=some o) (hd:o.data = .dict es ep) (he:es.toList=xs.map (entryOfKey knd)) (his:∀ x∈xs,knd.is s.heap x.1 x.2.1)
  (heq:∀ x∈xs,∀ Q:Bool→Shared→Prop,Q false s→wpAny (model prog w) A (eqBool (.ref x.2.1) .none) Q E s) (hQ:Q none s):wpAny (model prog w) A (dictFind d .none h) Q E s:=by
 have hmem:∀ e∈es,∃ x∈xs,e=entryOfKey knd x:=by
  intro e hin
  have:e∈xs.map (entryOfKey knd):=he ▸ Array.mem_toList_iff.mpr hin
  obtain ⟨x,hx,rfl⟩:=List.mem_map.mp this
  exact ⟨x,hx,rfl⟩
 have hst:∀ v∈(placesWithHash es.size (fun i=>es[i]?.map (·.hash)) h).filterMap (fun i=>es[i]?.map (·.key)),∃ k' b,v = .ref b∧knd.is s.heap k' b:=by
  intro v hv
  obtain ⟨i,_,hi⟩:=List.mem_filterMap.mp hv
  cases hei:es[i]? with
  | none=>rw [hei] at hi; cases hi
  | some e =>
   rw [hei] at hi
   obtain rfl:e.key=v:=by simpa using hi
   obtain ⟨x,hx,rfl⟩:=hmem e (Array.mem_of_getElem? hei)
   exact ⟨x.1,x.2.1,rfl,his x hx⟩
 unfold dictFind
 try with_reducible refine wpAny_holding ?_
 refine wpAny_bind (wpAny_dictEntries ho hd ?_)
 dsimp only
 by_cases c:((Value.none :: (placesWithHash es.size (fun i=>es[i]?.map (·.hash)) h).filterMap (fun i=>es[i]?.map (·.key))).all carriedByValue)=true
 ·rw [if_pos c]
  unfold dictWalkPlain
  refine wpAny_bind ?_
  refine wpAny_forIn_list _ (fun rest r s'=>s'=s∧r=(none,())) _ ?_ ?_ _ _ ⟨rfl,rfl⟩
  ·rintro x rest r s' ⟨rfl,rfl⟩
   cases hei:es[x]? with
   | none =>
    dsimp only
    exact wpAny_pure ⟨rfl,rfl⟩
   | some e =>
    obtain ⟨y,hy,rfl⟩:=hmem e (Array.mem_of_getElem? hei)
    dsimp only
    split
    ·refine wpAny_bind (wpAny_dictEpoch ho hd (wpAny_bind (heq y hy _ (wpAny_bind (wpAny_dictEpoch ho hd ?_)))))
     rw [if_neg (by simp)]
     simp only [Bool.false_eq_true,if_false]
     first
      | exact wpAny_bind (wpAny_rule (wpAny_pure ⟨rfl,rfl⟩))
      | exact wpAny_bind (wpAny_pure (wpAny_bind (wpAny_rule (wpAny_pure ⟨rfl,rfl⟩))))
    ·exact wpAny_pure ⟨rfl,rfl⟩
  ·rintro r s' ⟨rfl,rfl⟩
   first
    | exact wpAny_pure (wpAny_pure hQ)
    | exact wpAny_pure hQ
 ·rw [if_neg c]
  by_cases hone:(((placesWithHash es.size (fun i=>es[i]?.map (·.hash)) h).filterMap (fun i=>es[i]?.map (·.key))) == [Value.none])=true <;>
  (first | rw [if_pos hone] | rw [if_neg hone]) <;> (first | refine wpAny_bind (wpAny_pure ?_) | refine wpAny_bind (none_tells (knd:=knd) hst ?_)) <;> (
   rw [if_neg (by simp)]
   refine wpAny_bind ?_
   refine wpAny_forIn_list _ (fun rest r s'=>s'=s∧r=(none,none)) _ ?_ ?_ _ _ ⟨rfl,rfl⟩
   ·rintro x rest r s' ⟨rfl,rfl⟩
    cases hei:es[x]? with
    | none =>
     dsimp only
     exact wpAny_pure ⟨rfl,rfl⟩
    | some e =>
     obtain ⟨y,hy,rfl⟩:=hmem e (Array.mem_of_getElem? hei)
     dsimp only
     split
     ·refine wpAny_bind (wpAny_dictEpoch ho hd (wpAny_bind (heq y hy _ (wpAny_bind (wpAny_dictEpoch ho hd ?_)))))
      rw [if_neg (by simp)]
      simp only [Bool.false_eq_true,if_false]
      first
       | exact wpAny_bind (wpAny_rule (wpAny_pure ⟨rfl,rfl⟩))
       | exact wpAny_bind (wpAny_pure (wpAny_bind (wpAny_rule (wpAny_pure ⟨rfl,rfl⟩))))
       | (refine wpAny_bind (wpAny_rule ?_); rw [if_neg (by simp)]; exact wpAny_pure ⟨rfl,rfl⟩)
     ·exact wpAny_pure ⟨rfl,rfl⟩
   ·rintro r s' ⟨rfl,rfl⟩
    exact wpAny_pure hQ)
theorem hash_none {Q:Int→Shared→Prop} (h:∀ n tk,Q n { s with toks:=tk }):wpAny (model prog w) A (pyHash .none) Q E s :=
 show wpAny (model prog w) A (pyHashByItsType .none) Q E s from
 PySem.W.pyHash_slot (T := "NoneType") rfl F.slot_NoneType_hash F.entry_NoneType_hash (F.args_NoneType_hash_1 _) (beq_builtin_none _) (.inl rfl) (wpAny_bind (wpAny_pure (wpAny_bind (wpAny_mkInt (wpAny_pure ⟨_, _, rfl, h _ _⟩)))))
theorem none_notIn {d:Addr} {xs:List (K×Addr×Value)} {Q:Value→Shared→Prop} (hd:(d == sysModules)=false) (hm:s.heap.DictOfH knd d xs)
  (heq:∀ tk,∀ x∈xs,∀ (E:Value→Shared→Prop) (Q:Bool→Shared→Prop),Q false { s with toks:=tk }→wpAny (model prog w) A.in1 (eqBool (.ref x.2.1) .none) Q E { s with toks:=tk }) (h:∀ tk,Q (.bool true) { s with toks:=tk }) :
  wpAny (model prog w) A (compareOp .NotIn .none (.ref d)) Q E s:=by
 show wpAny _ _ (do return .bool (!(← contains (.ref d) .none))) Q E s
 refine wpAny_bind ?_
 unfold contains
 try with_reducible refine wpAny_holding ?_
 refine wpAny_bind (wpAny_specialOf hm.typeIs slot_dict_contains.lookup ?_)
 show wpAny _ _ (if (some (Value.builtin "dict.__contains__") == some Value.none) = true then _ else _) _ E s
 rw [if_neg (by rw [beq_builtin_none]; exact Bool.false_ne_true)]
 refine wpAny_bind (wpAny_callSpecialUnlessNone?_slot (name := Str.ofString "__contains__") hm.typeIs slot_dict_contains
  (wpAny_call_entry slot_dict_contains hm.typeIs entry_dict_contains ?_ (args_dict_contains _ _)))
 show wpAny _ _ (dictGet d .none >>= _) _ _ s
 refine wpAny_bind ?_
 unfold dictGet
 try with_reducible refine wpAny_holding ?_
 refine wpAny_bind (hash_none fun n tk => ?_)
 obtain ⟨o,es,ep,ho,hc,hdd,he,his,hn⟩:=hm
 refine wpAny_bind (none_find (s:={ s with toks:=tk }) (knd:=knd) ho hdd he his (fun x hx Q hq=>heq tk x hx _ Q hq) ?_)
 refine wpAny_pure ?_
 show wpAny _ _ (Builtin.Dict.pendingKey? d .none >>= _) _ _ _
 exact wpAny_bind (wpAny_pendingKey_other hd (wpAny_pure ⟨_,rfl,wpAny_truthy_bool (wpAny_pure (h tk))⟩))
end
end PySem
namespace DL
open PySem PySem.Spec PyProof.Rows L2
noncomputable def notInNd:D→D→Sto→Out D
 | .non,.res i,st=>match st[i]? with
  | some (.dtt _) => .ok (.bl true) st
  | _ => .bad
 | k,d,st=>notInDd k d st
theorem inN_non {st:Sto} {K:PySem.W.Frag} {O:List Addr} {H:Hp}:∀ {ds:List (D×D)} {vs:List (List Key×V)},Kvs K keyT O H ds vs→inN st depth .non (ds.map (·.1))=some false
 | [],_,_=>rfl
 | (k,d) :: ds,vs,h=>by
  obtain ⟨q,v,r,rfl,hk,_,ht⟩:=(show ∃ q v r,vs=(q,v) :: r∧keyT k=some q∧Rep K O H d v∧Kvs K keyT O H ds r from h)
  rw [List.map_cons]
  unfold inN
  rw [inN_non ht]
  cases k with
  | tup xs=>rfl
  | _=>cases hk
section
variable {X:Cx} {EX:EXT}
theorem op_notInNd (hu:X.A.units+64<cLine):OpD X EX (compareOp .NotIn) notInNd:=by
 intro pins s σ H x y v u Q I rx ry h
 obtain ⟨O,k,d,st,W,rk,rd,R⟩:=h
 unfold notInNd at R
 split at R
 ·rename_i i
  split at R
  ·rename_i ds hs
   rw [Rep.non_i] at rk
   subst rk
   rw [Rep.res_i] at rd
   obtain ⟨a,rfl,q⟩:=rd
   cases (show v=Value.none from rx)
   cases (show u=Value.ref a from ry)
   obtain ⟨vs,e2,kv⟩:=W.at_ _ _ _ q hs
   obtain ⟨z,hd,xs,kt,dd⟩:=dt_rd I.hok (.inl e2)
   have refs:∀ (l:List (List Key×Addr×Value)),Vals (l.map fun x=>V.ref x.2.1) (l.map fun x=>Value.ref x.2.1):=by
    intro l
    induction l with
    | nil=>exact .nil
    | cons x l ih=>exact .cons rfl ih
   refine none_notIn hd dd (fun tk x hx E Q hq => ?_) fun tk=>⟨.bl true,H,I.tok tk,rfl,Run.now (k:=Val X.K Q) R W _ (Rep.bl_i.mpr rfl)⟩
   obtain ⟨e,_,h1,h2⟩:=in_items (I.tok tk) W (x:=.non) (vx:=.non) (ux:=Value.none) (Rep.non_i.mpr rfl) rfl (in_units hu) (inN_non kv) (kt_keys kv kt) (refs xs)
   have hm:Value.ref x.2.1∈xs.map fun x=>Value.ref x.2.1:=List.mem_map.mpr ⟨x,hx,rfl⟩
   have h3:=h1 _ hm
   have h4:e (Value.ref x.2.1)=false:=by
    cases h5:e (Value.ref x.2.1) with
    | false=>rfl
    | true =>
     have:(xs.map fun x=>Value.ref x.2.1).any e=true:=List.any_eq_true.mpr ⟨_,hm,h5⟩
     rw [h2] at this
     cases this
   rw [h4] at h3
   exact h3 _ _ E Q hq
  ·exact R.elim
 ·exact op_notInDd hu pins s σ H x y v u Q I rx ry ⟨O,k,d,st,W,rk,rd,R⟩
end
end DL
end
section
set_option maxHeartbeats 2000000
namespace HT
open PySem PyProof.Rows PyProof.Rows.LSm
section
variable {prog:Program} {w:World} {A:Around} {E:Value→Shared→Prop} {s:Shared} {l:Addr} {vs:List Value}
end
end HT
namespace DL
open PySem PySem.Spec PyProof.Rows L2
section
variable {X:Cx} {EX:EXT}
end
end DL
end
section
namespace DL
open PySem PySem.Spec PyProof.Rows L2
mutual
noncomputable def nice:Nat→D→Bool
 | 0,_=>false
 | _+1,.non=>true
 | _+1,.int _=>true
 | _+1,.str _=>true
 | n+1,.tup xs=>niceL n xs
 | n+1,.lst xs=>niceL n xs
 | _+1,_=>false
noncomputable def niceL:Nat→List D→Bool
 | _,[]=>true
 | n,x :: xs=>nice n x && niceL n xs
end
theorem niceL_all (n:Nat):∀ xs:List D,niceL n xs=true ↔ ∀ x∈xs,nice n x=true
 | []=>by simp [niceL]
 | x :: xs=>by simp [niceL,niceL_all n xs]
open Classical in
theorem eqItems_nice {f:D→D→Option Bool}:∀ (xs ys:List D),(∀ x∈xs,∀ y∈ys,f x y=some (decide (x=y)))→eqItems f xs ys=some (decide (xs=ys))
 | [],[],_=>by simp [eqItems]
 | [],y :: ys,_=>by simp [eqItems]
 | x :: xs,[],_=>by simp [eqItems]
 | x :: xs,y :: ys,h=>by
  unfold eqItems
  rw [h x List.mem_cons_self y List.mem_cons_self,eqItems_nice xs ys fun a ha b hb=>h a (List.mem_cons_of_mem _ ha) b (List.mem_cons_of_mem _ hb)]
  by_cases h1:x=y <;> by_cases h2:xs=ys <;> simp [h1,h2]
open Classical in
theorem eqN_nice (st:Sto):∀ (n:Nat) (a b:D),nice n a=true→nice n b=true→eqN st n a b=some (decide (a=b))
 | 0,a,b,h,_=>by cases a <;> simp [nice] at h
 | n+1,a,b,ha,hb=>by
  unfold eqN
  cases a <;> cases b <;> simp only [nice,Bool.false_eq_true] at ha hb <;> simp only [kd]
  case tup.tup xs ys =>
   rw [eqItems_nice xs ys fun x hx y hy=>eqN_nice st n x y ((niceL_all n xs).mp ha x hx) ((niceL_all n ys).mp hb y hy)]
   simp
  case lst.lst xs ys =>
   rw [eqItems_nice xs ys fun x hx y hy=>eqN_nice st n x y ((niceL_all n xs).mp ha x hx) ((niceL_all n ys).mp hb y hy)]
   simp
  all_goals simp [Bool.beq_eq_decide_eq]
open Classical in
theorem eqD_nice {a b:D} {st:Sto} (ha:nice depth a=true) (hb:nice depth b=true):eqD a b st = .ok (.bl (decide (a=b))) st:=by
 unfold eqD; rw [eqN_nice st depth a b ha hb]
open Classical in
theorem neD_nice {a b:D} {st:Sto} (ha:nice depth a=true) (hb:nice depth b=true):neD a b st = .ok (.bl (!decide (a=b))) st:=by
 unfold neD; rw [eqN_nice st depth a b ha hb]
noncomputable def pl (ws:List Str):D:=.tup (ws.map .str)
theorem niceL_str (n:Nat) (ws:List Str):niceL (n+1) (ws.map .str)=true:=by
 rw [niceL_all]
 intro x hx
 obtain ⟨w,_,rfl⟩:=List.mem_map.mp hx
 rfl
theorem nice_pl (n:Nat) (ws:List Str):nice (n+2) (pl ws)=true:=niceL_str n ws
theorem nice_pl' (ws:List Str):nice depth (pl ws)=true:=nice_pl 48 ws
theorem str_inj {ws us:List Str}:ws.map D.str=us.map D.str ↔ ws=us:=by
 constructor
 ·intro h
  have : (ws.map D.str).map (fun d => match d with | .str x => x | _ => ("" : Str)) = (us.map D.str).map (fun d => match d with | .str x => x | _ => ("" : Str)) := by rw [h]
  simpa [List.map_map,Function.comp_def] using this
 ·intro h; rw [h]
theorem pl_inj {ws us:List Str}:pl ws=pl us ↔ ws=us:=by
 unfold pl
 rw [D.tup.injEq]
 exact str_inj
theorem eqD_pl (ws us:List Str) (st:Sto):eqD (pl ws) (pl us) st = .ok (.bl (decide (ws=us))) st:=by
 rw [eqD_nice (nice_pl' ws) (nice_pl' us)]
 congr 2
 exact decide_eq_decide.mpr pl_inj
theorem eqD_str (x y:Str) (st:Sto):eqD (.str x) (.str y) st = .ok (.bl (decide (x=y))) st:=by
 rw [eqD_nice rfl rfl]
 congr 2
 exact decide_eq_decide.mpr (by rw [D.str.injEq])
theorem neD_str (x y:Str) (st:Sto):neD (.str x) (.str y) st = .ok (.bl (!decide (x=y))) st:=by
 rw [neD_nice rfl rfl]
 congr 3
 exact decide_eq_decide.mpr (by rw [D.str.injEq])
theorem eqD_int (x y:Int) (st:Sto):eqD (.int x) (.int y) st = .ok (.bl (decide (x=y))) st:=by
 rw [eqD_nice rfl rfl]
 congr 2
 exact decide_eq_decide.mpr (by rw [D.int.injEq])
theorem items_pl (ws:List Str) (st:Sto):itemsOf st (pl ws)=some (ws.map .str):=rfl
theorem len_pl (ws:List Str) (st:Sto):lenD [pl ws] st = .ok (.int ws.length) st:=by
 simp [lenD,pl,itemsOf]
theorem add_pl (ws us:List Str) (st:Sto) (h:ws.length+us.length≤small):addD (pl ws) (pl us) st = .ok (pl (ws++us)) st:=by
 simp [addD,pl,h]
theorem cutL_map {α β:Type} (f:α→β) (xs:List α) (lo hi:Option Int):cutL (xs.map f) lo hi=(cutL xs lo hi).map f:=by
 simp [cutL,List.map_take,List.map_drop]
theorem cut_pl (ws:List Str) (lo hi:Option Int) (st:Sto):cutT (pl ws) lo hi st = .ok (pl (cutL ws lo hi)) st:=by
 simp [cutT,pl,cutL_map]
theorem cutL_to {α:Type} (xs:List α) (n:Nat):cutL xs none (some (n:Int))=xs.take n:=by
 unfold cutL
 rw [HT.sIx_none,HT.sIx_nat,List.drop_zero,Nat.sub_zero]
 by_cases h:n≤xs.length
 ·rw [Nat.min_eq_left h]
 ·rw [Nat.min_eq_right (by omega),List.take_length,List.take_of_length_le (by omega)]
theorem loop_nil {chk:Sto→Prop} {t:TgD} {g:DS} {ρ:Ev} {st:Sto} (hc:chk st):loopD chk t g [] ρ st = .nx ρ st:=by
 unfold loopD; rw [if_pos hc]
theorem loop_nx {chk:Sto→Prop} {t:TgD} {g:DS} {x:D} {xs:List D} {ρ ρ1 ρ2:Ev} {st st2:Sto} (hc:chk st) (ht:t x ρ=some ρ1) (hg:g ρ1 st = .nx ρ2 st2):loopD chk t g (x :: xs) ρ st=loopD chk t g xs ρ2 st2:=by
 rw [loopD,if_pos hc,ht]; dsimp only; rw [hg]
theorem loop_rt {chk:Sto→Prop} {t:TgD} {g:DS} {x d:D} {xs:List D} {ρ ρ1:Ev} {st st2:Sto} (hc:chk st) (ht:t x ρ=some ρ1) (hg:g ρ1 st = .rt d st2):loopD chk t g (x :: xs) ρ st = .rt d st2:=by
 rw [loopD,if_pos hc,ht]; dsimp only; rw [hg]
theorem mulOk_r (i j:Int) (h1 : -(2 ^ 64)<j) (h2:j<2 ^ 64):mulOk i j=true:=by
 unfold mulOk
 rw [decide_eq_true h1,decide_eq_true h2]
 simp
theorem mulOk_l (i j:Int) (h1 : -(2 ^ 64)<i) (h2:i<2 ^ 64):mulOk i j=true:=by
 unfold mulOk
 rw [decide_eq_true h1,decide_eq_true h2]
 simp
theorem mul2_int (i j:Int) (st:Sto) (h:mulOk i j=true):mul2D (.int i) (.int j) st = .ok (.int (i * j)) st:=by
 simp [mul2D,mulD,intOp,h]
theorem mod_int (i j:Int) (st:Sto) (h:0<j):modD (.int i) (.int j) st = .ok (.int (i % j)) st:=by
 simp [modD,intOp,h]
theorem fdiv_int (i j:Int) (st:Sto) (h:0<j) (h2:j<1073741824):fdivD (.int i) (.int j) st = .ok (.int (i / j)) st:=by
 have e:divOk i j=true:=@decide_eq_true (0<j∧j<1073741824) (Classical.propDecidable _) ⟨h,h2⟩
 simp [fdivD,intOp,e]
theorem addD_int (a b:Int) (st:Sto):addD (.int a) (.int b) st = .ok (.int (a+b)) st:=rfl
theorem law_sp {K:PySem.W.Frag} {F:FD} (hF:∀ ns:List Int,ns.length≤63→∃ st,F [.scr (ns.map .int)] [] = .ok (.bl true) st) (H:Hp) (a:Addr) (ns:List Int) (hl:ns.length≤63) (ho:Only H) (hs:SqL K H a (ns.map V.int)) :
  spD K F [.ref a] H (fun v _=>v = .bl true) fun _ _ _=>False:=by
 obtain ⟨st,e⟩:=hF ns hl
 refine ⟨[],[.scr (ns.map .int)],[],⟨rfl,List.nodup_nil,fun i a s h=>by simp at h⟩,Reps.one (Rep.scr_i.mpr ⟨a,_,rfl,SqF.of hs ?_,?_⟩),?_⟩
 ·rcases ho a with h | ⟨o,xs,h⟩ <;> rw [h] <;> intro z <;> cases z
 ·have:∀ (ms:List Int),Reps K [] H (ms.map D.int) (ms.map V.int):=by
   intro ms
   induction ms with
   | nil=>exact Reps.nil_i.mpr rfl
   | cons m ms ih=>exact Reps.cons_i.mpr ⟨_,_,rfl,Rep.int_i.mpr rfl,ih⟩
  exact this ns
 ·rw [e]
  exact fun O' H' _ _ v r=>Rep.bl_i.mp r
section
variable {α β:Type} {ρ:Ev} {st:Sto} {f fa fb fc fo:DE} {ta tb t:DT} {g g':DS} {da:DA} {i:Nat} {G:D→D→Sto→Out D} {H:D→D→Sto→Out (List D)}
@[simp] theorem z_bind_ok (a:α) (st:Sto) (k:α→Sto→Out β):(Out.ok a st).bind k=k a st:=rfl
@[simp] theorem z_bind_bad (k:α→Sto→Out β):(Out.bad:Out α).bind k = .bad:=rfl
@[simp] theorem z_to_ok (a:α) (st:Sto) (k:α→Sto→OutS):(Out.ok a st).to k=k a st:=rfl
@[simp] theorem z_var:dVar i ρ st=match ρ[i]? with
 | some (some d) => .ok d st
 | _ => .bad:=rfl
@[simp] theorem z_C (d:D):dC d ρ st = .ok d st:=rfl
@[simp] theorem z_bin:dBin G fa fb ρ st=(fa ρ st).bind fun x st1=>(fb ρ st1).bind fun y st2=>G x y st2:=rfl
@[simp] theorem z_binF:dBinF H fa fb ρ st=(fa ρ st).bind fun x st1=>(fb ρ st1).bind fun y st2=>H x y st2:=rfl
@[simp] theorem z_B:dB f ρ st=(f ρ st).bind asB:=rfl
@[simp] theorem z_asB (b:Bool):asB (.bl b) st = .ok b st:=rfl
@[simp] theorem z_asInt (b:Int):asInt (.int b) st = .ok (some b) st:=rfl
@[simp] theorem z_and:dAnd ta tb ρ st=(ta ρ st).bind fun x st1=>if x=true then tb ρ st1 else .ok false st1:=rfl
@[simp] theorem z_if:dIf t fa fb ρ st=(t ρ st).bind fun x st1=>if x=true then fa ρ st1 else fb ρ st1:=rfl
@[simp] theorem z_nil:dNil ρ st = .ok [] st:=rfl
@[simp] theorem z_cons:dCons f da ρ st=(f ρ st).bind fun x st1=>(da ρ st1).bind fun xs st2 => .ok (x :: xs) st2:=rfl
@[simp] theorem z_tup:dTup da ρ st=(da ρ st).bind fun xs st1=>if xs.length≤small then .ok (.tup xs) st1 else .bad:=rfl
@[simp] theorem z_lst:dLst da ρ st=(da ρ st).bind fun xs st1=>if xs.length≤small then .ok xs st1 else .bad:=rfl
@[simp] theorem z_F:dF da ρ st=(da ρ st).bind fun xs st1 => .ok (.lst xs) st1:=rfl
@[simp] theorem z_sl {γ:D→Option Int→Option Int→Sto→Out α} {l h:DO}:dSl γ f l h ρ st=(f ρ st).bind fun x st1=>(l ρ st1).bind fun lo st2=>(h ρ st2).bind fun hi st3=>γ x lo hi st3:=rfl
@[simp] theorem z_noPart:dNoPart ρ st = .ok none st:=rfl
@[simp] theorem z_part:dPart f ρ st=(f ρ st).bind asInt:=rfl
@[simp] theorem z_call {γ:List D→Sto→Out α}:dCall γ da ρ st=(da ρ st).bind γ:=rfl
@[simp] theorem z_comp {caps:List Nat} {nT:Nat} {fi:DI} {tg:TgD}:dComp caps nT fi tg t f ρ st=(fi ρ st).bind fun q st1=>compD q.2 tg t f q.1 (capEv ρ caps nT) st1 []:=rfl
@[simp] theorem z_seq:dSeq f ρ st=(f ρ st).bind fun d st1=>match itemsOf st1 d with
 | some xs => .ok (xs,fun st=>itemsOf st d=some xs) st1
 | none => .bad:=rfl
@[simp] theorem z_neg:dNeg f ρ st=(f ρ st).bind fun d st1=>match d with
 | .int i => .ok (.int (-i)) st1
 | _ => .bad:=rfl
@[simp] theorem z_sNext:sNext ρ st = .nx ρ st:=rfl
@[simp] theorem z_sSeq:sSeq g g' ρ st=match g ρ st with
 | .nx ρ' st'=>g' ρ' st'
 | r=>r:=rfl
@[simp] theorem z_sExpr:sExpr f ρ st=(f ρ st).to fun _ st1 => .nx ρ st1:=rfl
@[simp] theorem z_sRet:sRet f ρ st=(f ρ st).to fun d st1 => .rt d st1:=rfl
@[simp] theorem z_sIf:sIf t g g' ρ st=(t ρ st).to fun x st1=>if x=true then g ρ st1 else g' ρ st1:=rfl
@[simp] theorem z_sSet:sSet i f ρ st=(f ρ st).to fun d st1 => .nx (ρ.set i (some d)) st1:=rfl
@[simp] theorem z_sSetF:sSetF i da ρ st=(da ρ st).to fun ds st1 => .nx (ρ.set i (some (.res st1.length))) (st1++[.lst ds]):=rfl
@[simp] theorem z_sFor {fi:DI} {tg:TgD}:sFor fi tg g ρ st=(fi ρ st).to fun q st1=>loopD q.2 tg g q.1 ρ st1:=rfl
@[simp] theorem z_runF {N n:Nat} {ds:List D}:runF N n g ds st=if ds.length=n then (match g (ds.map some++List.replicate (N - n) none) st with
 | .nx _ st' => .ok .non st'
 | .rt d st' => .ok d st'
 | _ => .bad) else .bad:=rfl
@[simp] theorem z_addD (a b:Int) (st:Sto):addD (.int a) (.int b) st = .ok (.int (a+b)) st:=rfl
theorem small_ge {n:Nat} (h:n≤1000):n≤small:=Nat.le_trans h (by decide)
@[simp] theorem z_small0:(0:Nat)≤small:=Nat.zero_le _
@[simp] theorem z_small1:(1:Nat)≤small:=by decide
@[simp] theorem z_small2:(2:Nat)≤small:=by decide
@[simp] theorem z_small3:(3:Nat)≤small:=by decide
@[simp] theorem z_small4:(4:Nat)≤small:=by decide
@[simp] theorem z_small5:(5:Nat)≤small:=by decide
@[simp] theorem z_small6:(6:Nat)≤small:=by decide
end
end DL
end
section
namespace K54
open PySem L2 DL
noncomputable def top (i:Nat):Stmt:=PySem.Challenge.pw_cardplaces_k54_whole_more_links.main.body.getD i (.Pass ⟨0,0,0,0⟩)
noncomputable abbrev sz_law_cell:Stmt:=top 14
theorem scz_law_cell : FnScope ["_law_script", "_law_k"] ["_law_script", "_law_k"] (defScope sz_law_cell) := ⟨rfl, rfl, rfl, by decide +kernel, rfl, by decide +kernel, by decide +kernel⟩
noncomputable def gz_law_cell:DS:=(sSeq (sIf (dB (dBin eqD (dVar 0) (dF (dLst dNil)))) (sRet (dBin mul2D (dC (.int 7)) (dVar 1))) sNext) (sRet (dBin addD (dBin ixD (dVar 0) (dBin modD (dVar 1) (dCall lenD (dCons (dVar 0) dNil)))) (dBin mul2D (dC (.int 6553)) (dBin fdivD (dVar 1) (dCall lenD (dCons (dVar 0) dNil)))))))
noncomputable def Fz_law_cell:FD:=runF 2 2 (gz_law_cell)
noncomputable abbrev sz_law_drawn:Stmt:=top 15
theorem scz_law_drawn : FnScope ["_law_script", "_law_k", "_law_many", "_law_cell_here"] ["_law_script", "_law_k", "_law_many"] (defScope sz_law_drawn) := ⟨rfl, rfl, rfl, by decide +kernel, rfl, by decide +kernel, by decide +kernel⟩
noncomputable def gz_law_drawn:DS:=(sSeq (sSet 3 (dBin modD (dBin addD (dBin mul2D (dBin modD (dCall Fz_law_cell (dCons (dVar 0) (dCons (dVar 1) dNil))) (dC (.int 2147483563))) (dC (.int 69069))) (dBin mul2D (dC (.int 104723)) (dBin addD (dVar 1) (dC (.int 1))))) (dC (.int 2147483563)))) (sSeq (sSet 3 (dBin modD (dBin addD (dBin mul2D (dVar 3) (dVar 3)) (dBin fdivD (dVar 3) (dC (.int 3)))) (dC (.int 2147483399)))) (sRet (dBin modD (dBin fdivD (dBin modD (dBin addD (dBin mul2D (dVar 3) (dVar 3)) (dBin fdivD (dVar 3) (dC (.int 7)))) (dC (.int 2147483647))) (dC (.int 11))) (dVar 2)))))
noncomputable def Fz_law_drawn:FD:=runF 4 3 (gz_law_drawn)
noncomputable abbrev sz_law_few:Stmt:=top 17
theorem scz_law_few : FnScope ["_law_script", "_law_at", "_law_found", "_law_k", "_law_here", "_law_word", "_law_whence", "_law_down", "_law_steps", "_law_kind"] ["_law_script", "_law_at"] (defScope sz_law_few) := ⟨rfl, rfl, rfl, by decide +kernel, rfl, by decide +kernel, by decide +kernel⟩
noncomputable def Ez_law_few_1 : DE := (dBin ixD (dC (.str "ab")) (dCall Fz_law_drawn (dCons (dVar 1) (dCons (dBin addD (dBin addD (dVar 2) (dC (.int 4))) (dVar 0)) (dCons (dC (.int 2)) dNil)))))
noncomputable def Bz_law_few_1 : DS := (sSeq (sSet 4 (dBin addD (dBin addD (dVar 1) (dC (.int 1))) (dBin mul2D (dC (.int 12)) (dVar 3)))) (sSeq (sSet 5 (dBin ixD (dF (dLst (dCons (dC (.str "up")) (dCons (dC (.str "in")) (dCons (dC (.str "on")) (dCons (dC (.str "go")) dNil)))))) (dCall Fz_law_drawn (dCons (dVar 0) (dCons (dVar 4) (dCons (dC (.int 4)) dNil)))))) (sSeq (sSet 6 (dCall tupleD (dCons (dF (dComp [0, 4] 1 (dRng1 (dCons (dCall Fz_law_drawn (dCons (dVar 0) (dCons (dBin addD (dVar 4) (dC (.int 3))) (dCons (dC (.int 3)) dNil)))) dNil)) (tgName 0) dTrue Ez_law_few_1)) dNil))) (sSeq (sSet 7 (dTup (dCons (dBin ixD (dC (.str "ab")) (dCall intD (dCons (dBin eqD (dCall lenD (dCons (dVar 6) dNil)) (dC (.int 2))) dNil))) dNil))) (sSeq (sSet 8 (dBin ixD (dF (dLst (dCons (dTup (dCons (dC (.str "a")) dNil)) (dCons (dVar 7) (dCons (dTup (dCons (dC (.str "..")) dNil)) (dCons (dTup (dCons (dC (.str "..")) (dCons (dC (.str "a")) dNil))) (dCons (dTup (dCons (dC (.str ".")) dNil)) (dCons (dTup (dCons (dC (.str "..")) (dCons (dC (.str "..")) dNil))) dNil)))))))) (dCall Fz_law_drawn (dCons (dVar 0) (dCons (dBin addD (dVar 4) (dC (.int 1))) (dCons (dC (.int 6)) dNil)))))) (sSeq (sSet 9 (dBin ixD (dF (dLst (dCons (dC (.str "open")) (dCons (dC (.str "open")) (dCons (dC (.str "replace")) (dCons (dC (.str "go")) dNil)))))) (dCall Fz_law_drawn (dCons (dVar 0) (dCons (dBin addD (dVar 4) (dC (.int 2))) (dCons (dC (.int 4)) dNil)))))) (sSet 2 (dBin addD (dVar 2) (dTup (dCons (dTup (dCons (dVar 6) (dCons (dVar 5) (dCons (dVar 9) (dCons (dBin ixD (dF (dLst (dCons (dVar 8) (dCons (dNeg (dC (.int 1))) dNil)))) (dCall intD (dCons (dBin eqD (dVar 9) (dC (.str "go"))) dNil))) dNil))))) dNil))))))))))
noncomputable def gz_law_few:DS:=(sSeq (sSet 2 (dTup dNil)) (sSeq (sFor (dRng1 (dCons (dCall Fz_law_drawn (dCons (dVar 0) (dCons (dVar 1) (dCons (dC (.int 6)) dNil)))) dNil)) (tgName 3) Bz_law_few_1) (sRet (dVar 2))))
noncomputable def Fz_law_few:FD:=runF 10 2 (gz_law_few)
noncomputable abbrev szis_under:Stmt:=top 3
theorem sczis_under : FnScope ["place", "other"] ["place", "other"] (defScope szis_under) := ⟨rfl, rfl, rfl, by decide +kernel, rfl, by decide +kernel, by decide +kernel⟩
noncomputable def gzis_under:DS:=(sRet (dBin eqD (dSl cutT (dVar 0) dNoPart (dPart (dCall lenD (dCons (dVar 1) dNil)))) (dVar 1)))
noncomputable def Fzis_under:FD:=runF 2 2 (gzis_under)
noncomputable abbrev szwords_at:Stmt:=top 7
theorem sczwords_at : FnScope ["links", "place"] ["links", "place"] (defScope szwords_at) := ⟨rfl, rfl, rfl, by decide +kernel, rfl, by decide +kernel, by decide +kernel⟩
noncomputable def Ezwords_at_1:DE:=(dBin ixD (dVar 0) (dC (.int 1)))
noncomputable def Czwords_at_1:DT:=(dB (dCall Fzis_under (dCons (dVar 1) (dCons (dBin ixD (dVar 0) (dC (.int 0))) dNil))))
noncomputable def gzwords_at:DS:=(sRet (dF (dCall setSF (dCons (dF (dComp [1] 1 (dSeq (dVar 0)) (tgName 0) Czwords_at_1 Ezwords_at_1)) dNil))))
noncomputable def Fzwords_at:FD:=runF 2 2 (gzwords_at)
noncomputable abbrev szlink_at:Stmt:=top 6
theorem sczlink_at : FnScope ["links", "place", "word", "link"] ["links", "place", "word"] (defScope szlink_at) := ⟨rfl, rfl, rfl, by decide +kernel, rfl, by decide +kernel, by decide +kernel⟩
noncomputable def Bzlink_at_1:DS:=(sIf (dAnd (dB (dBin eqD (dBin ixD (dVar 3) (dC (.int 1))) (dVar 2))) (dB (dCall Fzis_under (dCons (dVar 1) (dCons (dBin ixD (dVar 3) (dC (.int 0))) dNil))))) (sRet (dVar 3)) sNext)
noncomputable def gzlink_at:DS:=(sSeq (sFor (dSeq (dVar 0)) (tgName 3) Bzlink_at_1) (sRet (dC .non)))
noncomputable def Fzlink_at:FD:=runF 4 3 (gzlink_at)
noncomputable abbrev szis_too_long:Stmt:=top 2
theorem sczis_too_long : FnScope ["words"] ["words"] (defScope szis_too_long) := ⟨rfl, rfl, rfl, by decide +kernel, rfl, by decide +kernel, by decide +kernel⟩
noncomputable def gzis_too_long:DS:=(sRet (dBin gtD (dCall lenD (dCons (dVar 0) dNil)) (dC (.int 6))))
noncomputable def Fzis_too_long:FD:=runF 1 1 (gzis_too_long)
noncomputable abbrev szled:Stmt:=top 4
theorem sczled : FnScope ["place", "steps", "words", "step"] ["place", "steps"] (defScope szled) := ⟨rfl, rfl, rfl, by decide +kernel, rfl, by decide +kernel, by decide +kernel⟩
noncomputable def Bzled_1 : DS := (sIf (dB (dBin eqD (dVar 3) (dC (.str "..")))) (sSeq (sIf (dB (dBin eqD (dCall lenD (dCons (dVar 2) dNil)) (dC (.int 0)))) (sRet (dC .non)) sNext) (sExpr (dPop (dVar 2)))) (sIf (dB (dBin neD (dVar 3) (dC (.str ".")))) (sSeq (sExpr (dAppend (dVar 2) (dVar 3))) (sIf (dB (dCall Fzis_too_long (dCons (dVar 2) dNil))) (sRet (dC .non)) sNext)) sNext))
noncomputable def gzled:DS:=(sSeq (sSetF 2 (dCall listF (dCons (dVar 0) dNil))) (sSeq (sFor (dSeq (dVar 1)) (tgName 3) Bzled_1) (sRet (dCall tupleD (dCons (dVar 2) dNil)))))
noncomputable def Fzled:FD:=runF 4 2 (gzled)
noncomputable abbrev szgoal_of:Stmt:=top 8
theorem sczgoal_of : FnScope ["link", "place"] ["link", "place"] (defScope szgoal_of) := ⟨rfl, rfl, rfl, by decide +kernel, rfl, by decide +kernel, by decide +kernel⟩
noncomputable def gzgoal_of : DS := (sRet (dIf (dB (dBin eqD (dBin ixD (dVar 0) (dC (.int 2))) (dC (.str "go")))) (dC .non) (dCall Fzled (dCons (dVar 1) (dCons (dBin ixD (dVar 0) (dC (.int 3))) dNil)))))
noncomputable def Fzgoal_of:FD:=runF 2 2 (gzgoal_of)
noncomputable abbrev sznext_places:Stmt:=top 9
theorem scznext_places : FnScope ["links", "place", "told", "word", "goal"] ["links", "place"] (defScope sznext_places) := ⟨rfl, rfl, rfl, by decide +kernel, rfl, by decide +kernel, by decide +kernel⟩
noncomputable def Bznext_places_1:DS:=(sSeq (sSet 4 (dCall Fzgoal_of (dCons (dCall Fzlink_at (dCons (dVar 0) (dCons (dVar 1) (dCons (dVar 3) dNil)))) (dCons (dVar 1) dNil)))) (sIf (dB (dBin isNotD (dVar 4) (dC .non))) (sExpr (dAppend (dVar 2) (dTup (dCons (dVar 3) (dCons (dVar 4) dNil))))) sNext))
noncomputable def gznext_places:DS:=(sSeq (sSetF 2 (dLst dNil)) (sSeq (sFor (dSeq (dCall Fzwords_at (dCons (dVar 0) (dCons (dVar 1) dNil)))) (tgName 3) Bznext_places_1) (sRet (dVar 2))))
noncomputable def Fznext_places:FD:=runF 5 2 (gznext_places)
noncomputable abbrev szways_from:Stmt:=top 10
theorem sczways_from : FnScope ["links", "start", "goal", "ways", "ring", "further", "place", "word", "beyond"] ["links", "start", "goal"] (defScope szways_from) := ⟨rfl, rfl, rfl, by decide +kernel, rfl, by decide +kernel, by decide +kernel⟩
noncomputable def Bzways_from_1:DS:=(sIf (dB (dBin notInNd (dVar 8) (dVar 3))) (sSeq (sPutD (dVar 3) (dVar 8) (dBin addD (getDd (dVar 3) (dVar 6)) (dTup (dCons (dVar 7) dNil)))) (sExpr (dAppend (dVar 5) (dVar 8)))) sNext)
noncomputable def Bzways_from_2:DS:=(sFor (dSeq (dCall Fznext_places (dCons (dVar 0) (dCons (dVar 6) dNil)))) (tgTup [7,8]) Bzways_from_1)
noncomputable def gzways_from:DS:=(sSeq (sSet 3 (dDispT (dVar 1) (dTup dNil))) (sSeq (sSet 4 (dF (dLst (dCons (dVar 1) dNil)))) (sSeq (whileD 130 (dAnd (dB (dBin gtD (dCall lenD (dCons (dVar 4) dNil)) (dC (.int 0)))) (dB (dBin notInNd (dVar 2) (dVar 3)))) (sSeq (sSetF 5 (dLst dNil)) (sSeq (sFor (dSeq (dVar 4)) (tgName 6) Bzways_from_2) (sSet 4 (dVar 5))))) (sRet (dVar 3)))))
noncomputable def Fzways_from:FD:=runF 9 3 (gzways_from)
noncomputable abbrev szreached:Stmt:=top 12
theorem sczreached : FnScope ["links", "start"] ["links", "start"] (defScope szreached) := ⟨rfl, rfl, rfl, by decide +kernel, rfl, by decide +kernel, by decide +kernel⟩
noncomputable def gzreached:DS:=(sRet (dF (dCall sortTF (dCons (dCall Fzways_from (dCons (dVar 0) (dCons (dVar 1) (dCons (dC .non) dNil)))) dNil))))
noncomputable def Fzreached:FD:=runF 2 2 (gzreached)
noncomputable abbrev szshortest:Stmt:=top 11
theorem sczshortest : FnScope ["links", "start", "goal"] ["links", "start", "goal"] (defScope szshortest) := ⟨rfl, rfl, rfl, by decide +kernel, rfl, by decide +kernel, by decide +kernel⟩
noncomputable def gzshortest:DS:=(sRet (dGet1 (dCall Fzways_from (dCons (dVar 0) (dCons (dVar 1) (dCons (dVar 2) dNil)))) (dVar 2)))
noncomputable def Fzshortest:FD:=runF 3 3 (gzshortest)
noncomputable abbrev szlaw:Stmt:=top 18
theorem sczlaw : FnScope ["_law_script", "_law_more", "_law_links", "_law_start", "_law_place_here", "_law_words", "_law_fewer", "_law_every", "_law_goal"] ["_law_script"] (defScope szlaw) := ⟨rfl, rfl, rfl, by decide +kernel, rfl, by decide +kernel, by decide +kernel⟩
noncomputable def stzlaw_p1:Stmt:=(defBody szlaw).getD 0 (.Pass ⟨0,0,0,0⟩)
noncomputable def stzlaw_p2:Stmt:=(defBody szlaw).getD 1 (.Pass ⟨0,0,0,0⟩)
noncomputable def stzlaw_p3:Stmt:=(defBody szlaw).getD 2 (.Pass ⟨0,0,0,0⟩)
noncomputable def stzlaw_p4:Stmt:=(defBody szlaw).getD 3 (.Pass ⟨0,0,0,0⟩)
noncomputable def stzlaw_p5:Stmt:=(forBody stzlaw_p4).getD 0 (.Pass ⟨0,0,0,0⟩)
noncomputable def stzlaw_p6:Stmt:=(forBody stzlaw_p4).getD 1 (.Pass ⟨0,0,0,0⟩)
noncomputable def stzlaw_p7:Stmt:=(forBody stzlaw_p4).getD 2 (.Pass ⟨0,0,0,0⟩)
noncomputable def stzlaw_p8:Stmt:=(forBody stzlaw_p4).getD 3 (.Pass ⟨0,0,0,0⟩)
noncomputable def stzlaw_p9:Stmt:=(forBody stzlaw_p4).getD 4 (.Pass ⟨0,0,0,0⟩)
noncomputable def stzlaw_p10:Stmt:=(forBody stzlaw_p4).getD 5 (.Pass ⟨0,0,0,0⟩)
noncomputable def stzlaw_p11:Stmt:=(defBody szlaw).getD 4 (.Pass ⟨0,0,0,0⟩)
noncomputable def stzlaw_p12:Stmt:=(defBody szlaw).getD 5 (.Pass ⟨0,0,0,0⟩)
noncomputable def stzlaw_p13:Stmt:=(defBody szlaw).getD 6 (.Pass ⟨0,0,0,0⟩)
noncomputable def stzlaw_p14:Stmt:=(defBody szlaw).getD 7 (.Pass ⟨0,0,0,0⟩)
noncomputable def stzlaw_p15:Stmt:=(defBody szlaw).getD 8 (.Pass ⟨0,0,0,0⟩)
noncomputable def Pzlaw_p1:DS:=(sSet 1 (dCall Fz_law_few (dCons (dVar 0) (dCons (dC (.int 0)) dNil))))
noncomputable def Pzlaw_p2:DS:=(sSet 2 (dSl cutT (dVar 1) dNoPart (dPart (dC (.int 3)))))
noncomputable def Ezlaw_1 : DE := (dBin ixD (dC (.str "ab")) (dCall Fz_law_drawn (dCons (dVar 1) (dCons (dBin addD (dC (.int 101)) (dVar 0)) (dCons (dC (.int 2)) dNil)))))
noncomputable def Pzlaw_p3:DS:=(sSet 3 (dCall tupleD (dCons (dF (dComp [0] 1 (dRng1 (dCons (dCall Fz_law_drawn (dCons (dVar 0) (dCons (dC (.int 100)) (dCons (dC (.int 4)) dNil)))) dNil)) (tgName 0) dTrue Ezlaw_1)) dNil)))
noncomputable def Pzlaw_p5:DS:=(sSet 5 (dCall Fzwords_at (dCons (dVar 2) (dCons (dVar 4) dNil))))
noncomputable def Ezlaw_2:DE:=(dVar 0)
noncomputable def Czlaw_1:DT:=(dB (dBin neD (dCall Fzlink_at (dCons (dVar 1) (dCons (dVar 2) (dCons (dVar 0) dNil)))) (dCall Fzlink_at (dCons (dVar 3) (dCons (dVar 2) (dCons (dVar 0) dNil))))))
noncomputable def Pzlaw_p6:DS:=(sIf (dB (dBin neD (dF (dComp [1,4,2] 1 (dSeq (dVar 5)) (tgName 0) Czlaw_1 Ezlaw_2)) (dF (dLst dNil)))) (sRet (dC (.bl false))) sNext)
noncomputable def Ezlaw_3:DE:=(dVar 0)
noncomputable def Czlaw_2:DT:=(dB (dBin notInD (dVar 0) (dCall Fznext_places (dCons (dVar 1) (dCons (dVar 2) dNil)))))
noncomputable def Pzlaw_p7:DS:=(sIf (dB (dBin neD (dF (dComp [1,4] 1 (dSeq (dCall Fznext_places (dCons (dVar 2) (dCons (dVar 4) dNil)))) (tgName 0) Czlaw_2 Ezlaw_3)) (dF (dLst dNil)))) (sRet (dC (.bl false))) sNext)
noncomputable def Ezlaw_4:DE:=(dBin ixD (dVar 0) (dC (.int 1)))
noncomputable def Czlaw_3:DT:=(dB (dBin eqD (dSl cutT (dVar 1) dNoPart (dPart (dCall lenD (dCons (dBin ixD (dVar 0) (dC (.int 0))) dNil)))) (dBin ixD (dVar 0) (dC (.int 0)))))
noncomputable def Pzlaw_p8:DS:=(sIf (dB (dBin neD (dVar 5) (dF (dCall setSF (dCons (dF (dComp [4] 1 (dSeq (dVar 2)) (tgName 0) Czlaw_3 Ezlaw_4)) dNil))))) (sRet (dC (.bl false))) sNext)
noncomputable def Pzlaw_p9 : DS := (sIf (dB (dBin neD (dCall Fzwords_at (dCons (dBin addD (dVar 2) (dTup (dCons (dTup (dCons (dBin addD (dVar 4) (dTup (dCons (dC (.str "zz")) dNil))) (dCons (dC (.str "odd")) (dCons (dC (.str "go")) (dCons (dC (.int 1)) dNil))))) dNil))) (dCons (dVar 4) dNil))) (dVar 5))) (sRet (dC (.bl false))) sNext)
noncomputable def Pzlaw_p10 : DS := (sIf (dB (dBin neD (dCall Fzwords_at (dCons (dBin addD (dVar 2) (dTup (dCons (dTup (dCons (dSl cutT (dVar 4) dNoPart (dPart (dC (.int 1)))) (dCons (dC (.str "odd")) (dCons (dC (.str "go")) (dCons (dC (.int 1)) dNil))))) dNil))) (dCons (dVar 4) dNil))) (dF (dCall sortSF (dCons (dF (dBinF catL (dVar 5) (dF (dLst (dCons (dC (.str "odd")) dNil))))) dNil))))) (sRet (dC (.bl false))) sNext)
noncomputable def Bzlaw_1:DS:=(sSeq Pzlaw_p5 (sSeq Pzlaw_p6 (sSeq Pzlaw_p7 (sSeq Pzlaw_p8 (sSeq Pzlaw_p9 Pzlaw_p10)))))
noncomputable def Pzlaw_p4 : DS := (sFor (dSeq (dTup (dCons (dVar 3) (dCons (dSl cutT (dVar 3) dNoPart (dPart (dC (.int 1)))) (dCons (dTup (dCons (dC (.str "b")) (dCons (dC (.str "a")) dNil))) dNil))))) (tgName 4) Bzlaw_1)
noncomputable def Pzlaw_p11:DS:=(sSet 6 (dCall Fzreached (dCons (dVar 2) (dCons (dVar 3) dNil))))
noncomputable def Pzlaw_p12:DS:=(sSet 7 (dCall Fzreached (dCons (dVar 1) (dCons (dVar 3) dNil))))
noncomputable def Ezlaw_5:DE:=(dVar 0)
noncomputable def Czlaw_4:DT:=(dB (dBin notInD (dVar 0) (dVar 1)))
noncomputable def Pzlaw_p13:DS:=(sIf (dB (dBin neD (dF (dComp [7] 1 (dSeq (dVar 6)) (tgName 0) Czlaw_4 Ezlaw_5)) (dF (dLst dNil)))) (sRet (dC (.bl false))) sNext)
noncomputable def Pzlaw_p14:DS:=(sSet 8 (dBin ixD (dVar 6) (dCall Fz_law_drawn (dCons (dVar 0) (dCons (dC (.int 110)) (dCons (dCall lenD (dCons (dVar 6) dNil)) dNil))))))
noncomputable def Pzlaw_p15:DS:=(sRet (dBin leX (dCall lenD (dCons (dCall Fzshortest (dCons (dVar 1) (dCons (dVar 3) (dCons (dVar 8) dNil)))) dNil)) (dCall lenD (dCons (dCall Fzshortest (dCons (dVar 2) (dCons (dVar 3) (dCons (dVar 8) dNil)))) dNil))))
noncomputable def gzlaw:DS:=(sSeq Pzlaw_p1 (sSeq Pzlaw_p2 (sSeq Pzlaw_p3 (sSeq Pzlaw_p4 (sSeq Pzlaw_p11 (sSeq Pzlaw_p12 (sSeq Pzlaw_p13 (sSeq Pzlaw_p14 Pzlaw_p15))))))))
noncomputable def Fzlaw:FD:=runF 9 1 (gzlaw)
section
set_option maxHeartbeats 4000000
variable {P:Program} {w:World} {K:PySem.W.Frag} {mg:Str→Option Value} {base:Heap} {cv:Nat→Addr}
theorem okz_law_cell {f : Addr} {fd : FuncData} (F : Fun K "_law_cell" "_law_cell" sz_law_cell f fd) (hm : mg "_law_cell" = some (.ref f)) (hb : Binds K fd ["_law_script", "_law_k"] []) (b_len : mg "len" = none) : FnAt P w K mg base "_law_cell" 1 Fz_law_cell :=
 fnAt (k:=0) F scz_law_cell hm hb fun cdv A outer s H E hr=>(pds_cons (pd_if (pdt_cmp (op_eqD hr.units) (pd_var 0) (pd_F (pdf_lst pda_nil))) (pds_one (pd_ret (pd_op op_mul2D pd_int (pd_var 1)))) pds_nil) (pds_one (pd_ret (pd_op op_addD (pd_ix (pd_var 0) (pd_op op_modD (pd_var 1) (pd_callB call_lenD rfl b_len PySem.boot_len (pda_cons (pd_var 0) pda_nil)))) (pd_op op_mul2D pd_int (pd_op op_fdivD (pd_var 1) (pd_callB call_lenD rfl b_len PySem.boot_len (pda_cons (pd_var 0) pda_nil))))))))
theorem okz_law_drawn {f : Addr} {fd : FuncData} (F : Fun K "_law_drawn" "_law_drawn" sz_law_drawn f fd) (hm : mg "_law_drawn" = some (.ref f)) (hb : Binds K fd ["_law_script", "_law_k", "_law_many"] []) (hz_law_cell : FnAt P w K mg base "_law_cell" 1 Fz_law_cell) : FnAt P w K mg base "_law_drawn" 2 Fz_law_drawn :=
 fnAt (k:=1) F scz_law_drawn hm hb fun cdv A outer s H E hr=>(pds_cons (pd_set 3 scz_law_drawn.nd rfl (by first | exact Or.inl rfl | exact Or.inr rfl) (pd_op op_modD (pd_op op_addD (pd_op op_mul2D (pd_op op_modD (pd_fn hz_law_cell hr (by decide) rfl (pda_cons (pd_var 0) (pda_cons (pd_var 1) pda_nil))) pd_int) pd_int) (pd_op op_mul2D pd_int (pd_op op_addD (pd_var 1) pd_int))) pd_int)) (pds_cons (pd_set 3 scz_law_drawn.nd rfl (by first | exact Or.inl rfl | exact Or.inr rfl) (pd_op op_modD (pd_op op_addD (pd_op op_mul2D (pd_var 3) (pd_var 3)) (pd_op op_fdivD (pd_var 3) pd_int)) pd_int)) (pds_one (pd_ret (pd_op op_modD (pd_op op_fdivD (pd_op op_modD (pd_op op_addD (pd_op op_mul2D (pd_var 3) (pd_var 3)) (pd_op op_fdivD (pd_var 3) pd_int)) pd_int) pd_int) (pd_var 2))))))
theorem okz_law_few {f : Addr} {fd : FuncData} (F : Fun K "_law_few" "_law_few" sz_law_few f fd) (hm : mg "_law_few" = some (.ref f)) (hb : Binds K fd ["_law_script", "_law_at"] []) (b_int : mg "int" = none) (b_len : mg "len" = none) (b_range : mg "range" = none) (b_tuple : mg "tuple" = none) (hz_law_drawn : FnAt P w K mg base "_law_drawn" 2 Fz_law_drawn) : FnAt P w K mg base "_law_few" 3 Fz_law_few :=
 fnAt (k := 2) F scz_law_few hm hb fun cdv A outer s H E hr => (pds_cons (pd_set 2 scz_law_few.nd rfl (by first | exact Or.inl rfl | exact Or.inr rfl) (pd_tup pda_nil)) (pds_cons (pd_for PassesOwn.never rfl (pid_range1 rfl b_range (pda_cons (pd_fn hz_law_drawn hr (by decide) rfl (pda_cons (pd_var 0) (pda_cons (pd_var 1) (pda_cons pd_int pda_nil)))) pda_nil)) (pgd_name 3 scz_law_few.nd rfl (by first | exact Or.inl rfl | exact Or.inr rfl)) (pds_cons (pd_set 4 scz_law_few.nd rfl (by first | exact Or.inl rfl | exact Or.inr rfl) (pd_op op_addD (pd_op op_addD (pd_var 1) pd_int) (pd_op op_mul2D pd_int (pd_var 3)))) (pds_cons (pd_set 5 scz_law_few.nd rfl (by first | exact Or.inl rfl | exact Or.inr rfl) (pd_ix (pd_F (pdf_lst (pda_cons pd_str (pda_cons pd_str (pda_cons pd_str (pda_cons pd_str pda_nil)))))) (pd_fn hz_law_drawn hr (by decide) rfl (pda_cons (pd_var 0) (pda_cons (pd_var 4) (pda_cons pd_int pda_nil)))))) (pds_cons (pd_set 6 scz_law_few.nd rfl (by first | exact Or.inl rfl | exact Or.inr rfl) (pd_callTy call_tupleD rfl b_tuple PyProof.Rows.boot_tuple (pda_cons (pd_F (pdf_lc rfl ⟨Blk.of (N := ["_law_j", "_law_script", "_law_here"]) (caps := [0, 4]) (nT := 1) (by show blkB (defScope sz_law_few) _ ["_law_script", "_law_at", "_law_found", "_law_k", "_law_here", "_law_word", "_law_whence", "_law_down", "_law_steps", "_law_kind"] _ _ _ = true; decide +kernel), fun _ _ _ _ => (pgd_name 0 (by show (["_law_j", "_law_script", "_law_here"] : List Str).Nodup; decide +kernel) rfl (by first | exact Or.inl rfl | exact Or.inr rfl)), fun _ _ _ _ => pts_nil, fun _ _ _ _ => (pd_ix pd_str (pd_fn hz_law_drawn hr (by decide) rfl (pda_cons (pd_var 1) (pda_cons (pd_op op_addD (pd_op op_addD (pd_var 2) pd_int) (pd_var 0)) (pda_cons pd_int pda_nil)))))⟩ (pid_range1 rfl b_range (pda_cons (pd_fn hz_law_drawn hr (by decide) rfl (pda_cons (pd_var 0) (pda_cons (pd_op op_addD (pd_var 4) pd_int) (pda_cons pd_int pda_nil)))) pda_nil)))) pda_nil))) (pds_cons (pd_set 7 scz_law_few.nd rfl (by first | exact Or.inl rfl | exact Or.inr rfl) (pd_tup (pda_cons (pd_ix pd_str (pd_callTy call_intD rfl b_int PyProof.Rows.boot_int (pda_cons (pd_cmp (op_eqD hr.units) (pd_callB call_lenD rfl b_len PySem.boot_len (pda_cons (pd_var 6) pda_nil)) pd_int) pda_nil))) pda_nil))) (pds_cons (pd_set 8 scz_law_few.nd rfl (by first | exact Or.inl rfl | exact Or.inr rfl) (pd_ix (pd_F (pdf_lst (pda_cons (pd_tup (pda_cons pd_str pda_nil)) (pda_cons (pd_var 7) (pda_cons (pd_tup (pda_cons pd_str pda_nil)) (pda_cons (pd_tup (pda_cons pd_str (pda_cons pd_str pda_nil))) (pda_cons (pd_tup (pda_cons pd_str pda_nil)) (pda_cons (pd_tup (pda_cons pd_str (pda_cons pd_str pda_nil))) pda_nil)))))))) (pd_fn hz_law_drawn hr (by decide) rfl (pda_cons (pd_var 0) (pda_cons (pd_op op_addD (pd_var 4) pd_int) (pda_cons pd_int pda_nil)))))) (pds_cons (pd_set 9 scz_law_few.nd rfl (by first | exact Or.inl rfl | exact Or.inr rfl) (pd_ix (pd_F (pdf_lst (pda_cons pd_str (pda_cons pd_str (pda_cons pd_str (pda_cons pd_str pda_nil)))))) (pd_fn hz_law_drawn hr (by decide) rfl (pda_cons (pd_var 0) (pda_cons (pd_op op_addD (pd_var 4) pd_int) (pda_cons pd_int pda_nil)))))) (pds_one (pd_set 2 scz_law_few.nd rfl (by first | exact Or.inl rfl | exact Or.inr rfl) (pd_op op_addD (pd_var 2) (pd_tup (pda_cons (pd_tup (pda_cons (pd_var 6) (pda_cons (pd_var 5) (pda_cons (pd_var 9) (pda_cons (pd_ix (pd_F (pdf_lst (pda_cons (pd_var 8) (pda_cons (pd_neg pd_int) pda_nil)))) (pd_callTy call_intD rfl b_int PyProof.Rows.boot_int (pda_cons (pd_cmp (op_eqD hr.units) (pd_var 9) pd_str) pda_nil))) pda_nil))))) pda_nil)))))))))))) (pds_one (pd_ret (pd_var 2)))))
theorem okzis_under {f : Addr} {fd : FuncData} (F : Fun K "is_under" "is_under" szis_under f fd) (hm : mg "is_under" = some (.ref f)) (hb : Binds K fd ["place", "other"] []) (b_len : mg "len" = none) : FnAt P w K mg base "is_under" 1 Fzis_under :=
 fnAt (k:=0) F sczis_under hm hb fun cdv A outer s H E hr=>(pds_one (pd_ret (pd_cmp (op_eqD hr.units) (pd_slice sl_T (pd_var 0) pdo_none (pdo_some (pd_callB call_lenD rfl b_len PySem.boot_len (pda_cons (pd_var 1) pda_nil)))) (pd_var 1))))
theorem okzwords_at {f : Addr} {fd : FuncData} (F : Fun K "words_at" "words_at" szwords_at f fd) (hm : mg "words_at" = some (.ref f)) (hb : Binds K fd ["links", "place"] []) (b_set : mg "set" = none) (b_sorted : mg "sorted" = none) (hzis_under : FnAt P w K mg base "is_under" 1 Fzis_under) : FnAt P w K mg base "words_at" 2 Fzwords_at :=
 fnAt (k := 1) F sczwords_at hm hb fun cdv A outer s H E hr => (pds_one (pd_ret (pd_F (pdf_sortSet rfl rfl b_sorted PyProof.Rows.boot_sorted rfl b_set PyProof.Rows.boot_set (pda_cons (pd_F (pdf_lc rfl ⟨Blk.of (N := ["link", "place"]) (caps := [1]) (nT := 1) (by show blkB (defScope szwords_at) _ ["links", "place"] _ _ _ = true; decide +kernel), fun _ _ _ _ => (pgd_name 0 (by show (["link", "place"] : List Str).Nodup; decide +kernel) rfl (by first | exact Or.inl rfl | exact Or.inr rfl)), fun _ _ _ _ => pts_one (pdt_val (pd_fn hzis_under hr (by decide) rfl (pda_cons (pd_var 1) (pda_cons (pd_ix (pd_var 0) pd_int) pda_nil)))), fun _ _ _ _ => (pd_ix (pd_var 0) pd_int)⟩ (pid_seq (pd_var 0)))) pda_nil)))))
theorem okzlink_at {f : Addr} {fd : FuncData} (F : Fun K "link_at" "link_at" szlink_at f fd) (hm : mg "link_at" = some (.ref f)) (hb : Binds K fd ["links", "place", "word"] []) (hzis_under : FnAt P w K mg base "is_under" 1 Fzis_under) : FnAt P w K mg base "link_at" 2 Fzlink_at :=
 fnAt (k:=1) F sczlink_at hm hb fun cdv A outer s H E hr=>(pds_cons (pd_for PassesOwn.never rfl (pid_seq (pd_var 0)) (pgd_name 3 sczlink_at.nd rfl (by first | exact Or.inl rfl | exact Or.inr rfl)) (pds_one (pd_if (PDW.pt (pdw_and (pdt_cmp (op_eqD hr.units) (pd_ix (pd_var 3) pd_int) (pd_var 2)) (pdw_and1 (pdt_val (pd_fn hzis_under hr (by decide) rfl (pda_cons (pd_var 1) (pda_cons (pd_ix (pd_var 3) pd_int) pda_nil))))))) (pds_one (pd_ret (pd_var 3))) pds_nil))) (pds_one (pd_ret pd_non)))
theorem okzis_too_long {f : Addr} {fd : FuncData} (F : Fun K "is_too_long" "is_too_long" szis_too_long f fd) (hm : mg "is_too_long" = some (.ref f)) (hb : Binds K fd ["words"] []) (b_len : mg "len" = none) {t_MOST_WORDS : Tok} (c_MOST_WORDS : mg "MOST_WORDS" = some (Value.int 6 t_MOST_WORDS)) : FnAt P w K mg base "is_too_long" 1 Fzis_too_long :=
 fnAt (k:=0) F sczis_too_long hm hb fun cdv A outer s H E hr=>(pds_one (pd_ret (pd_cmp op_gtD (pd_callB call_lenD rfl b_len PySem.boot_len (pda_cons (pd_var 0) pda_nil)) (pd_glob (v:=.int 6) rfl c_MOST_WORDS ⟨_,rfl⟩ (fun _ _=>Rep.int_i.mpr rfl)))))
theorem okzled {f : Addr} {fd : FuncData} (F : Fun K "led" "led" szled f fd) (hm : mg "led" = some (.ref f)) (hb : Binds K fd ["place", "steps"] []) (b_len : mg "len" = none) (b_list : mg "list" = none) (b_tuple : mg "tuple" = none) (hzis_too_long : FnAt P w K mg base "is_too_long" 1 Fzis_too_long) : FnAt P w K mg base "led" 2 Fzled :=
 fnAt (k:=1) F sczled hm hb fun cdv A outer s H E hr=>(pds_cons (pd_setF 2 sczled.nd rfl (by first | exact Or.inl rfl | exact Or.inr rfl) (pdf_callTy call_listF rfl b_list PyProof.Rows.boot_list (pda_cons (pd_var 0) pda_nil))) (pds_cons (pd_for PassesOwn.never rfl (pid_seq (pd_var 1)) (pgd_name 3 sczled.nd rfl (by first | exact Or.inl rfl | exact Or.inr rfl)) (pds_one (pd_if (pdt_cmp (op_eqD hr.units) (pd_var 3) pd_str) (pds_cons (pd_if (pdt_cmp (op_eqD hr.units) (pd_callB call_lenD rfl b_len PySem.boot_len (pda_cons (pd_var 2) pda_nil)) pd_int) (pds_one (pd_ret pd_non)) pds_nil) (pds_one (pd_expr (pd_pop (pd_var 2))))) (pds_one (pd_if (pdt_cmp (op_neD hr.units) (pd_var 3) pd_str) (pds_cons (pd_expr (pd_append (pd_var 2) (pd_var 3))) (pds_one (pd_if (pdt_val (pd_fn hzis_too_long hr (by decide) rfl (pda_cons (pd_var 2) pda_nil))) (pds_one (pd_ret pd_non)) pds_nil))) pds_nil))))) (pds_one (pd_ret (pd_callTy call_tupleD rfl b_tuple PyProof.Rows.boot_tuple (pda_cons (pd_var 2) pda_nil))))))
theorem okzgoal_of {f : Addr} {fd : FuncData} (F : Fun K "goal_of" "goal_of" szgoal_of f fd) (hm : mg "goal_of" = some (.ref f)) (hb : Binds K fd ["link", "place"] []) (hzled : FnAt P w K mg base "led" 2 Fzled) : FnAt P w K mg base "goal_of" 3 Fzgoal_of :=
 fnAt (k:=2) F sczgoal_of hm hb fun cdv A outer s H E hr=>(pds_one (pd_ret (pd_ifExp (pdt_cmp (op_eqD hr.units) (pd_ix (pd_var 0) pd_int) pd_str) pd_non (pd_fn hzled hr (by decide) rfl (pda_cons (pd_var 1) (pda_cons (pd_ix (pd_var 0) pd_int) pda_nil))))))
theorem okznext_places {f : Addr} {fd : FuncData} (F : Fun K "next_places" "next_places" sznext_places f fd) (hm : mg "next_places" = some (.ref f)) (hb : Binds K fd ["links", "place"] []) (hzgoal_of : FnAt P w K mg base "goal_of" 3 Fzgoal_of) (hzlink_at : FnAt P w K mg base "link_at" 2 Fzlink_at) (hzwords_at : FnAt P w K mg base "words_at" 2 Fzwords_at) : FnAt P w K mg base "next_places" 4 Fznext_places :=
 fnAt (k:=3) F scznext_places hm hb fun cdv A outer s H E hr=>(pds_cons (pd_setF 2 scznext_places.nd rfl (by first | exact Or.inl rfl | exact Or.inr rfl) (pdf_lst pda_nil)) (pds_cons (pd_for PassesOwn.never rfl (pid_seq (pd_fn hzwords_at hr (by decide) rfl (pda_cons (pd_var 0) (pda_cons (pd_var 1) pda_nil)))) (pgd_name 3 scznext_places.nd rfl (by first | exact Or.inl rfl | exact Or.inr rfl)) (pds_cons (pd_set 4 scznext_places.nd rfl (by first | exact Or.inl rfl | exact Or.inr rfl) (pd_fn hzgoal_of hr (by decide) rfl (pda_cons (pd_fn hzlink_at hr (by decide) rfl (pda_cons (pd_var 0) (pda_cons (pd_var 1) (pda_cons (pd_var 3) pda_nil)))) (pda_cons (pd_var 1) pda_nil)))) (pds_one (pd_if (pdt_cmp op_isNotD (pd_var 4) pd_non) (pds_one (pd_expr (pd_append (pd_var 2) (pd_tup (pda_cons (pd_var 3) (pda_cons (pd_var 4) pda_nil)))))) pds_nil)))) (pds_one (pd_ret (pd_var 2)))))
theorem okzways_from {f : Addr} {fd : FuncData} (F : Fun K "ways_from" "ways_from" szways_from f fd) (hm : mg "ways_from" = some (.ref f)) (hb : Binds K fd ["links", "start", "goal"] []) (b_len : mg "len" = none) (hznext_places : FnAt P w K mg base "next_places" 4 Fznext_places) : FnAt P w K mg base "ways_from" 5 Fzways_from :=
 fnAt (k:=4) F sczways_from hm hb fun cdv A outer s H E hr=>(pds_cons (pd_set 3 sczways_from.nd rfl (by first | exact Or.inl rfl | exact Or.inr rfl) (pd_dispT hr.units (pd_var 1) (pd_tup pda_nil))) (pds_cons (pd_set 4 sczways_from.nd rfl (by first | exact Or.inl rfl | exact Or.inr rfl) (pd_F (pdf_lst (pda_cons (pd_var 1) pda_nil)))) (pds_cons (pd_while 130 PassesOwn.never (PDW.pt (pdw_and (pdt_cmp op_gtD (pd_callB call_lenD rfl b_len PySem.boot_len (pda_cons (pd_var 4) pda_nil)) pd_int) (pdw_and1 (pdt_cmp (op_notInNd hr.units) (pd_var 2) (pd_var 3))))) (pds_cons (pd_setF 5 sczways_from.nd rfl (by first | exact Or.inl rfl | exact Or.inr rfl) (pdf_lst pda_nil)) (pds_cons (pd_for PassesOwn.never rfl (pid_seq (pd_var 4)) (pgd_name 6 sczways_from.nd rfl (by first | exact Or.inl rfl | exact Or.inr rfl)) (pds_one (pd_for PassesOwn.never rfl (pid_seq (pd_fn hznext_places hr (by decide) rfl (pda_cons (pd_var 0) (pda_cons (pd_var 6) pda_nil)))) (pgd_tup rfl (pgsd_cons 7 sczways_from.nd rfl (by first | exact Or.inl rfl | exact Or.inr rfl) (pgsd_cons 8 sczways_from.nd rfl (by first | exact Or.inl rfl | exact Or.inr rfl) pgsd_nil))) (pds_one (pd_if (pdt_cmp (op_notInNd hr.units) (pd_var 8) (pd_var 3)) (pds_cons (pd_dput hr.units (pd_var 3) (pd_var 8) (pd_op op_addD (pd_dget hr.units (pd_var 3) (pd_var 6)) (pd_tup (pda_cons (pd_var 7) pda_nil)))) (pds_one (pd_expr (pd_append (pd_var 5) (pd_var 8))))) pds_nil))))) (pds_one (pd_set 4 sczways_from.nd rfl (by first | exact Or.inl rfl | exact Or.inr rfl) (pd_var 5)))))) (pds_one (pd_ret (pd_var 3))))))
theorem okzreached {f : Addr} {fd : FuncData} (F : Fun K "reached" "reached" szreached f fd) (hm : mg "reached" = some (.ref f)) (hb : Binds K fd ["links", "start"] []) (b_sorted : mg "sorted" = none) (hzways_from : FnAt P w K mg base "ways_from" 5 Fzways_from) : FnAt P w K mg base "reached" 6 Fzreached :=
 fnAt (k:=5) F sczreached hm hb fun cdv A outer s H E hr=>(pds_one (pd_ret (pd_F (pdf_callB (call_sortTF rfl (units2 hr.units)) rfl b_sorted PyProof.Rows.boot_sorted (pda_cons (pd_fn hzways_from hr (by decide) rfl (pda_cons (pd_var 0) (pda_cons (pd_var 1) (pda_cons pd_non pda_nil)))) pda_nil)))))
theorem okzshortest {f : Addr} {fd : FuncData} (F : Fun K "shortest" "shortest" szshortest f fd) (hm : mg "shortest" = some (.ref f)) (hb : Binds K fd ["links", "start", "goal"] []) (hzways_from : FnAt P w K mg base "ways_from" 5 Fzways_from) : FnAt P w K mg base "shortest" 6 Fzshortest :=
 fnAt (k:=5) F sczshortest hm hb fun cdv A outer s H E hr=>(pds_one (pd_ret (pd_dget1 hr.units (pd_fn hzways_from hr (by decide) rfl (pda_cons (pd_var 0) (pda_cons (pd_var 1) (pda_cons (pd_var 2) pda_nil)))) (pd_var 2))))
noncomputable abbrev Nzlaw : List Str := ["_law_script", "_law_more", "_law_links", "_law_start", "_law_place_here", "_law_words", "_law_fewer", "_law_every", "_law_goal"]
theorem okzlaw_p1 (hz_law_few : FnAt P w K mg base "_law_few" 3 Fz_law_few) (fA : Addr) (cdv : Value) (A : Around) (outer : List Env) (s : Shared) (H : Hp) (E : XK) (hr : Room 6 (A.deeper (PyProof.Rows.envOfC "law" (defScope szlaw) s.heap.objs.size fA cdv))) : PDs (cxOf CX0 P w K mg base Nzlaw "law" (defScope szlaw) fA cdv A outer s H E).nox EX0 stzlaw_p1 Pzlaw_p1 := (pd_set 1 sczlaw.nd rfl (by first | exact Or.inl rfl | exact Or.inr rfl) (pd_fn hz_law_few hr (by decide) rfl (pda_cons (pd_var 0) (pda_cons pd_int pda_nil))))
theorem okzlaw_p2  (fA : Addr) (cdv : Value) (A : Around) (outer : List Env) (s : Shared) (H : Hp) (E : XK) (hr : Room 6 (A.deeper (PyProof.Rows.envOfC "law" (defScope szlaw) s.heap.objs.size fA cdv))) : PDs (cxOf CX0 P w K mg base Nzlaw "law" (defScope szlaw) fA cdv A outer s H E).nox EX0 stzlaw_p2 Pzlaw_p2 := (pd_set 2 sczlaw.nd rfl (by first | exact Or.inl rfl | exact Or.inr rfl) (pd_slice sl_T (pd_var 1) pdo_none (pdo_some pd_int)))
theorem okzlaw_p3 (b_range : mg "range" = none) (b_tuple : mg "tuple" = none) (hz_law_drawn : FnAt P w K mg base "_law_drawn" 2 Fz_law_drawn) (fA : Addr) (cdv : Value) (A : Around) (outer : List Env) (s : Shared) (H : Hp) (E : XK) (hr : Room 6 (A.deeper (PyProof.Rows.envOfC "law" (defScope szlaw) s.heap.objs.size fA cdv))) : PDs (cxOf CX0 P w K mg base Nzlaw "law" (defScope szlaw) fA cdv A outer s H E).nox EX0 stzlaw_p3 Pzlaw_p3 := (pd_set 3 sczlaw.nd rfl (by first | exact Or.inl rfl | exact Or.inr rfl) (pd_callTy call_tupleD rfl b_tuple PyProof.Rows.boot_tuple (pda_cons (pd_F (pdf_lc rfl ⟨Blk.of (N := ["_law_k", "_law_script"]) (caps := [0]) (nT := 1) (by show blkB (defScope szlaw) _ Nzlaw _ _ _ = true; decide +kernel), fun _ _ _ _ => (pgd_name 0 (by show (["_law_k", "_law_script"] : List Str).Nodup; decide +kernel) rfl (by first | exact Or.inl rfl | exact Or.inr rfl)), fun _ _ _ _ => pts_nil, fun _ _ _ _ => (pd_ix pd_str (pd_fn hz_law_drawn hr (by decide) rfl (pda_cons (pd_var 1) (pda_cons (pd_op op_addD pd_int (pd_var 0)) (pda_cons pd_int pda_nil)))))⟩ (pid_range1 rfl b_range (pda_cons (pd_fn hz_law_drawn hr (by decide) rfl (pda_cons (pd_var 0) (pda_cons pd_int (pda_cons pd_int pda_nil)))) pda_nil)))) pda_nil)))
theorem okzlaw_p5 (hzwords_at : FnAt P w K mg base "words_at" 2 Fzwords_at) (fA : Addr) (cdv : Value) (A : Around) (outer : List Env) (s : Shared) (H : Hp) (E : XK) (hr : Room 6 (A.deeper (PyProof.Rows.envOfC "law" (defScope szlaw) s.heap.objs.size fA cdv))) : PDs (cxOf CX0 P w K mg base Nzlaw "law" (defScope szlaw) fA cdv A outer s H E).nox EX0 stzlaw_p5 Pzlaw_p5 := (pd_set 5 sczlaw.nd rfl (by first | exact Or.inl rfl | exact Or.inr rfl) (pd_fn hzwords_at hr (by decide) rfl (pda_cons (pd_var 2) (pda_cons (pd_var 4) pda_nil))))
theorem okzlaw_p6 (hzlink_at : FnAt P w K mg base "link_at" 2 Fzlink_at) (fA : Addr) (cdv : Value) (A : Around) (outer : List Env) (s : Shared) (H : Hp) (E : XK) (hr : Room 6 (A.deeper (PyProof.Rows.envOfC "law" (defScope szlaw) s.heap.objs.size fA cdv))) : PDs (cxOf CX0 P w K mg base Nzlaw "law" (defScope szlaw) fA cdv A outer s H E).nox EX0 stzlaw_p6 Pzlaw_p6 := (pd_if (pdt_cmp (op_neD hr.units) (pd_F (pdf_lc rfl ⟨Blk.of (N := ["_law_word", "_law_more", "_law_place_here", "_law_links"]) (caps := [1, 4, 2]) (nT := 1) (by show blkB (defScope szlaw) _ Nzlaw _ _ _ = true; decide +kernel), fun _ _ _ _ => (pgd_name 0 (by show (["_law_word", "_law_more", "_law_place_here", "_law_links"] : List Str).Nodup; decide +kernel) rfl (by first | exact Or.inl rfl | exact Or.inr rfl)), fun _ _ _ _ => pts_one (pdt_cmp (op_neD hr.units) (pd_fn hzlink_at hr (by decide) rfl (pda_cons (pd_var 1) (pda_cons (pd_var 2) (pda_cons (pd_var 0) pda_nil)))) (pd_fn hzlink_at hr (by decide) rfl (pda_cons (pd_var 3) (pda_cons (pd_var 2) (pda_cons (pd_var 0) pda_nil))))), fun _ _ _ _ => (pd_var 0)⟩ (pid_seq (pd_var 5)))) (pd_F (pdf_lst pda_nil))) (pds_one (pd_ret pd_bl)) pds_nil)
theorem okzlaw_p7 (hznext_places : FnAt P w K mg base "next_places" 4 Fznext_places) (fA : Addr) (cdv : Value) (A : Around) (outer : List Env) (s : Shared) (H : Hp) (E : XK) (hr : Room 6 (A.deeper (PyProof.Rows.envOfC "law" (defScope szlaw) s.heap.objs.size fA cdv))) : PDs (cxOf CX0 P w K mg base Nzlaw "law" (defScope szlaw) fA cdv A outer s H E).nox EX0 stzlaw_p7 Pzlaw_p7 := (pd_if (pdt_cmp (op_neD hr.units) (pd_F (pdf_lc rfl ⟨Blk.of (N := ["_law_both", "_law_more", "_law_place_here"]) (caps := [1, 4]) (nT := 1) (by show blkB (defScope szlaw) _ Nzlaw _ _ _ = true; decide +kernel), fun _ _ _ _ => (pgd_name 0 (by show (["_law_both", "_law_more", "_law_place_here"] : List Str).Nodup; decide +kernel) rfl (by first | exact Or.inl rfl | exact Or.inr rfl)), fun _ _ _ _ => pts_one (pdt_cmp (op_notInD hr.units) (pd_var 0) (pd_fn hznext_places hr (by decide) rfl (pda_cons (pd_var 1) (pda_cons (pd_var 2) pda_nil)))), fun _ _ _ _ => (pd_var 0)⟩ (pid_seq (pd_fn hznext_places hr (by decide) rfl (pda_cons (pd_var 2) (pda_cons (pd_var 4) pda_nil)))))) (pd_F (pdf_lst pda_nil))) (pds_one (pd_ret pd_bl)) pds_nil)
theorem okzlaw_p8 (b_len : mg "len" = none) (b_set : mg "set" = none) (b_sorted : mg "sorted" = none) (fA : Addr) (cdv : Value) (A : Around) (outer : List Env) (s : Shared) (H : Hp) (E : XK) (hr : Room 6 (A.deeper (PyProof.Rows.envOfC "law" (defScope szlaw) s.heap.objs.size fA cdv))) : PDs (cxOf CX0 P w K mg base Nzlaw "law" (defScope szlaw) fA cdv A outer s H E).nox EX0 stzlaw_p8 Pzlaw_p8 := (pd_if (pdt_cmp (op_neD hr.units) (pd_var 5) (pd_F (pdf_sortSet rfl rfl b_sorted PyProof.Rows.boot_sorted rfl b_set PyProof.Rows.boot_set (pda_cons (pd_F (pdf_lc rfl ⟨Blk.of (N := ["_law_link", "_law_place_here"]) (caps := [4]) (nT := 1) (by show blkB (defScope szlaw) _ Nzlaw _ _ _ = true; decide +kernel), fun _ _ _ _ => (pgd_name 0 (by show (["_law_link", "_law_place_here"] : List Str).Nodup; decide +kernel) rfl (by first | exact Or.inl rfl | exact Or.inr rfl)), fun _ _ _ _ => pts_one (pdt_cmp (op_eqD hr.units) (pd_slice sl_T (pd_var 1) pdo_none (pdo_some (pd_callB call_lenD rfl b_len PySem.boot_len (pda_cons (pd_ix (pd_var 0) pd_int) pda_nil)))) (pd_ix (pd_var 0) pd_int)), fun _ _ _ _ => (pd_ix (pd_var 0) pd_int)⟩ (pid_seq (pd_var 2)))) pda_nil)))) (pds_one (pd_ret pd_bl)) pds_nil)
theorem okzlaw_p9 (hzwords_at : FnAt P w K mg base "words_at" 2 Fzwords_at) (fA : Addr) (cdv : Value) (A : Around) (outer : List Env) (s : Shared) (H : Hp) (E : XK) (hr : Room 6 (A.deeper (PyProof.Rows.envOfC "law" (defScope szlaw) s.heap.objs.size fA cdv))) : PDs (cxOf CX0 P w K mg base Nzlaw "law" (defScope szlaw) fA cdv A outer s H E).nox EX0 stzlaw_p9 Pzlaw_p9 := (pd_if (pdt_cmp (op_neD hr.units) (pd_fn hzwords_at hr (by decide) rfl (pda_cons (pd_op op_addD (pd_var 2) (pd_tup (pda_cons (pd_tup (pda_cons (pd_op op_addD (pd_var 4) (pd_tup (pda_cons pd_str pda_nil))) (pda_cons pd_str (pda_cons pd_str (pda_cons pd_int pda_nil))))) pda_nil))) (pda_cons (pd_var 4) pda_nil))) (pd_var 5)) (pds_one (pd_ret pd_bl)) pds_nil)
theorem okzlaw_p10 (b_sorted : mg "sorted" = none) (hzwords_at : FnAt P w K mg base "words_at" 2 Fzwords_at) (fA : Addr) (cdv : Value) (A : Around) (outer : List Env) (s : Shared) (H : Hp) (E : XK) (hr : Room 6 (A.deeper (PyProof.Rows.envOfC "law" (defScope szlaw) s.heap.objs.size fA cdv))) : PDs (cxOf CX0 P w K mg base Nzlaw "law" (defScope szlaw) fA cdv A outer s H E).nox EX0 stzlaw_p10 Pzlaw_p10 := (pd_if (pdt_cmp (op_neD hr.units) (pd_fn hzwords_at hr (by decide) rfl (pda_cons (pd_op op_addD (pd_var 2) (pd_tup (pda_cons (pd_tup (pda_cons (pd_slice sl_T (pd_var 4) pdo_none (pdo_some pd_int)) (pda_cons pd_str (pda_cons pd_str (pda_cons pd_int pda_nil))))) pda_nil))) (pda_cons (pd_var 4) pda_nil))) (pd_F (pdf_callB call_sortSF rfl b_sorted PyProof.Rows.boot_sorted (pda_cons (pd_F (pdf_op op_catL (pd_var 5) (pd_F (pdf_lst (pda_cons pd_str pda_nil))))) pda_nil)))) (pds_one (pd_ret pd_bl)) pds_nil)
theorem okzlaw_p4 (b_len : mg "len" = none) (b_set : mg "set" = none) (b_sorted : mg "sorted" = none) (hzlink_at : FnAt P w K mg base "link_at" 2 Fzlink_at) (hznext_places : FnAt P w K mg base "next_places" 4 Fznext_places) (hzwords_at : FnAt P w K mg base "words_at" 2 Fzwords_at) (fA : Addr) (cdv : Value) (A : Around) (outer : List Env) (s : Shared) (H : Hp) (E : XK) (hr : Room 6 (A.deeper (PyProof.Rows.envOfC "law" (defScope szlaw) s.heap.objs.size fA cdv))) : PDs (cxOf CX0 P w K mg base Nzlaw "law" (defScope szlaw) fA cdv A outer s H E).nox EX0 stzlaw_p4 Pzlaw_p4 := (pd_for PassesOwn.never rfl (pid_seq (pd_tup (pda_cons (pd_var 3) (pda_cons (pd_slice sl_T (pd_var 3) pdo_none (pdo_some pd_int)) (pda_cons (pd_tup (pda_cons pd_str (pda_cons pd_str pda_nil))) pda_nil))))) (pgd_name 4 sczlaw.nd rfl (by first | exact Or.inl rfl | exact Or.inr rfl)) (show PDS _ _ [stzlaw_p5, stzlaw_p6, stzlaw_p7, stzlaw_p8, stzlaw_p9, stzlaw_p10] _ from (pds_cons (okzlaw_p5 hzwords_at fA cdv A outer s H E hr) (pds_cons (okzlaw_p6 hzlink_at fA cdv A outer s H E hr) (pds_cons (okzlaw_p7 hznext_places fA cdv A outer s H E hr) (pds_cons (okzlaw_p8 b_len b_set b_sorted fA cdv A outer s H E hr) (pds_cons (okzlaw_p9 hzwords_at fA cdv A outer s H E hr) (pds_one (okzlaw_p10 b_sorted hzwords_at fA cdv A outer s H E hr)))))))))
theorem okzlaw_p11 (hzreached : FnAt P w K mg base "reached" 6 Fzreached) (fA : Addr) (cdv : Value) (A : Around) (outer : List Env) (s : Shared) (H : Hp) (E : XK) (hr : Room 6 (A.deeper (PyProof.Rows.envOfC "law" (defScope szlaw) s.heap.objs.size fA cdv))) : PDs (cxOf CX0 P w K mg base Nzlaw "law" (defScope szlaw) fA cdv A outer s H E).nox EX0 stzlaw_p11 Pzlaw_p11 := (pd_set 6 sczlaw.nd rfl (by first | exact Or.inl rfl | exact Or.inr rfl) (pd_fn hzreached hr (by decide) rfl (pda_cons (pd_var 2) (pda_cons (pd_var 3) pda_nil))))
theorem okzlaw_p12 (hzreached : FnAt P w K mg base "reached" 6 Fzreached) (fA : Addr) (cdv : Value) (A : Around) (outer : List Env) (s : Shared) (H : Hp) (E : XK) (hr : Room 6 (A.deeper (PyProof.Rows.envOfC "law" (defScope szlaw) s.heap.objs.size fA cdv))) : PDs (cxOf CX0 P w K mg base Nzlaw "law" (defScope szlaw) fA cdv A outer s H E).nox EX0 stzlaw_p12 Pzlaw_p12 := (pd_set 7 sczlaw.nd rfl (by first | exact Or.inl rfl | exact Or.inr rfl) (pd_fn hzreached hr (by decide) rfl (pda_cons (pd_var 1) (pda_cons (pd_var 3) pda_nil))))
theorem okzlaw_p13  (fA : Addr) (cdv : Value) (A : Around) (outer : List Env) (s : Shared) (H : Hp) (E : XK) (hr : Room 6 (A.deeper (PyProof.Rows.envOfC "law" (defScope szlaw) s.heap.objs.size fA cdv))) : PDs (cxOf CX0 P w K mg base Nzlaw "law" (defScope szlaw) fA cdv A outer s H E).nox EX0 stzlaw_p13 Pzlaw_p13 := (pd_if (pdt_cmp (op_neD hr.units) (pd_F (pdf_lc rfl ⟨Blk.of (N := ["_law_place_here", "_law_every"]) (caps := [7]) (nT := 1) (by show blkB (defScope szlaw) _ Nzlaw _ _ _ = true; decide +kernel), fun _ _ _ _ => (pgd_name 0 (by show (["_law_place_here", "_law_every"] : List Str).Nodup; decide +kernel) rfl (by first | exact Or.inl rfl | exact Or.inr rfl)), fun _ _ _ _ => pts_one (pdt_cmp (op_notInD hr.units) (pd_var 0) (pd_var 1)), fun _ _ _ _ => (pd_var 0)⟩ (pid_seq (pd_var 6)))) (pd_F (pdf_lst pda_nil))) (pds_one (pd_ret pd_bl)) pds_nil)
theorem okzlaw_p14 (b_len : mg "len" = none) (hz_law_drawn : FnAt P w K mg base "_law_drawn" 2 Fz_law_drawn) (fA : Addr) (cdv : Value) (A : Around) (outer : List Env) (s : Shared) (H : Hp) (E : XK) (hr : Room 6 (A.deeper (PyProof.Rows.envOfC "law" (defScope szlaw) s.heap.objs.size fA cdv))) : PDs (cxOf CX0 P w K mg base Nzlaw "law" (defScope szlaw) fA cdv A outer s H E).nox EX0 stzlaw_p14 Pzlaw_p14 := (pd_set 8 sczlaw.nd rfl (by first | exact Or.inl rfl | exact Or.inr rfl) (pd_ix (pd_var 6) (pd_fn hz_law_drawn hr (by decide) rfl (pda_cons (pd_var 0) (pda_cons pd_int (pda_cons (pd_callB call_lenD rfl b_len PySem.boot_len (pda_cons (pd_var 6) pda_nil)) pda_nil))))))
theorem okzlaw_p15 (b_len : mg "len" = none) (hzshortest : FnAt P w K mg base "shortest" 6 Fzshortest) (fA : Addr) (cdv : Value) (A : Around) (outer : List Env) (s : Shared) (H : Hp) (E : XK) (hr : Room 6 (A.deeper (PyProof.Rows.envOfC "law" (defScope szlaw) s.heap.objs.size fA cdv))) : PDs (cxOf CX0 P w K mg base Nzlaw "law" (defScope szlaw) fA cdv A outer s H E).nox EX0 stzlaw_p15 Pzlaw_p15 := (pd_ret (pd_cmp op_leX (pd_callB call_lenD rfl b_len PySem.boot_len (pda_cons (pd_fn hzshortest hr (by decide) rfl (pda_cons (pd_var 1) (pda_cons (pd_var 3) (pda_cons (pd_var 8) pda_nil)))) pda_nil)) (pd_callB call_lenD rfl b_len PySem.boot_len (pda_cons (pd_fn hzshortest hr (by decide) rfl (pda_cons (pd_var 2) (pda_cons (pd_var 3) (pda_cons (pd_var 8) pda_nil)))) pda_nil))))
theorem okzlaw {f : Addr} {fd : FuncData} (F : Fun K "law" "law" szlaw f fd) (b_len : mg "len" = none) (b_range : mg "range" = none) (b_set : mg "set" = none) (b_sorted : mg "sorted" = none) (b_tuple : mg "tuple" = none) (hz_law_drawn : FnAt P w K mg base "_law_drawn" 2 Fz_law_drawn) (hz_law_few : FnAt P w K mg base "_law_few" 3 Fz_law_few) (hzlink_at : FnAt P w K mg base "link_at" 2 Fzlink_at) (hznext_places : FnAt P w K mg base "next_places" 4 Fznext_places) (hzreached : FnAt P w K mg base "reached" 6 Fzreached) (hzshortest : FnAt P w K mg base "shortest" 6 Fzshortest) (hzwords_at : FnAt P w K mg base "words_at" 2 Fzwords_at) : FnOk P w K mg base CX0 7 f fd ["_law_script"] (spD K Fzlaw) :=
 fnD (k:=6) F sczlaw fun cdv A outer s H E hr=>(show PDS _ _ [stzlaw_p1,stzlaw_p2,stzlaw_p3,stzlaw_p4,stzlaw_p11,stzlaw_p12,stzlaw_p13,stzlaw_p14,stzlaw_p15] _ from (pds_cons (okzlaw_p1 hz_law_few f cdv A outer s H E hr) (pds_cons (okzlaw_p2  f cdv A outer s H E hr) (pds_cons (okzlaw_p3 b_range b_tuple hz_law_drawn f cdv A outer s H E hr) (pds_cons (okzlaw_p4 b_len b_set b_sorted hzlink_at hznext_places hzwords_at f cdv A outer s H E hr) (pds_cons (okzlaw_p11 hzreached f cdv A outer s H E hr) (pds_cons (okzlaw_p12 hzreached f cdv A outer s H E hr) (pds_cons (okzlaw_p13  f cdv A outer s H E hr) (pds_cons (okzlaw_p14 b_len hz_law_drawn f cdv A outer s H E hr) (pds_one (okzlaw_p15 b_len hzshortest f cdv A outer s H E hr)))))))))))
end
end K54
end
section
set_option maxHeartbeats 2000000
namespace K54
open PySem L2 DL
theorem loop_off {chk:Sto→Prop} {t:TgD} {g:DS} (P:Nat→Ev→Sto→Prop) (hc:∀ j ρ st,P j ρ st→chk st):∀ (xs:List D) (n:Nat),(∀ j x,xs[j]?=some x→∀ ρ st,P (n+j) ρ st→∃ ρ1 ρ2 st2,t x ρ=some ρ1∧g ρ1 st = .nx ρ2 st2∧P (n+j+1) ρ2 st2) →
  ∀ ρ st,P n ρ st→∃ ρ2 st2,loopD chk t g xs ρ st = .nx ρ2 st2∧P (n+xs.length) ρ2 st2
 | [],n,_,ρ,st,h=>⟨ρ,st,loop_nil (hc n ρ st h),h⟩
 | x :: xs,n,hx,ρ,st,h=>by
  obtain ⟨ρ1,ρ2,st2,e1,e2,h2⟩:=hx 0 x rfl ρ st h
  obtain ⟨ρ3,st3,e3,h3⟩:=loop_off P hc xs (n+1) (fun j y hy ρ st hp=>by
   have q:n+1+j=n+(j+1):=by omega
   rw [q] at hp
   obtain ⟨r1,r2,s2,k1,k2,k3⟩:=hx (j+1) y (by simpa using hy) ρ st hp
   exact ⟨r1,r2,s2,k1,k2,by rw [q]; exact k3⟩) ρ2 st2 h2
  refine ⟨ρ3,st3,(loop_nx (hc n ρ st h) e1 e2).trans e3,?_⟩
  have q:n+(x :: xs).length=n+1+xs.length:=by simp; omega
  rw [q]
  exact h3
theorem loop_rng {chk:Sto→Prop} {t:TgD} {g:DS} {f:Nat→D} (P:Nat→Ev→Sto→Prop) (hc:∀ j ρ st,P j ρ st→chk st) (n:Nat) (step:∀ j,j<n→∀ ρ st,P j ρ st→∃ ρ1 ρ2 st2,t (f j) ρ=some ρ1∧g ρ1 st = .nx ρ2 st2∧P (j+1) ρ2 st2) (ρ:Ev) (st:Sto) (h:P 0 ρ st) :
  ∃ ρ2 st2,loopD chk t g ((List.range n).map f) ρ st = .nx ρ2 st2∧P n ρ2 st2:=by
 obtain ⟨ρ2,st2,e,h2⟩:=loop_off P hc ((List.range n).map f) 0 (fun j x hx ρ st hp=>by
  rw [Nat.zero_add] at hp ⊢
  have hj:j<n:=by
   have:=(List.getElem?_eq_some_iff.mp hx).1
   simpa using this
  rw [List.getElem?_map,List.getElem?_range hj] at hx
  simp only [Option.map_some,Option.some.injEq] at hx
  rw [← hx]
  exact step j hj ρ st hp) ρ st h
 refine ⟨ρ2,st2,e,?_⟩
 simpa using h2
noncomputable def cellV (ns:List Int) (k:Int):Int:=if ns=[] then 7 * k else ns.getD (k % ns.length).toNat 0+6553 * (k / ns.length)
theorem eq_scr_nil (xs:List D) (st:Sto):eqD (.scr xs) (.lst []) st = .ok (.bl xs.isEmpty) st:=by
 cases xs <;> rfl
theorem len_scr (xs:List D) (st:Sto):lenD [.scr xs] st = .ok (.int xs.length) st:=rfl
theorem ix_scr (ns:List Int) (k:Int) (st:Sto) (h0:0≤k) (h1:k<ns.length):ixD (.scr (ns.map .int)) (.int k) st = .ok (.int (ns.getD k.toNat 0)) st:=by
 have e:L2.atI (ns.map D.int) k=some (.int (ns.getD k.toNat 0)):=by
  unfold L2.atI L2.ixN
  rw [if_pos h0,if_pos (by rw [List.length_map]; exact h1)]
  have hk:k.toNat<ns.length:=by omega
  simp [List.getElem?_map,List.getElem?_eq_getElem hk]
 simp [ixD,itemsOf,seqL,e]
theorem cell_eq (ns:List Int) (hl:ns.length≤63) (k:Int) (st:Sto):Fz_law_cell [.scr (ns.map .int),.int k] st = .ok (.int (cellV ns k)) st:=by
 unfold Fz_law_cell gz_law_cell cellV
 by_cases h:ns=[]
 ·subst h
  have e1:=mul2_int _ _ st (mulOk_l 7 k (by decide) (by decide))
  have e2:=eq_scr_nil [] st
  simp [e1,e2]
 ·have hp:0<ns.length:=List.length_pos_iff.mpr h
  have h1:(0:Int)<(ns.length:Int):=by omega
  have h2:0≤k % (ns.length:Int):=Int.emod_nonneg _ (by omega)
  have h3:k % (ns.length:Int)<ns.length:=Int.emod_lt_of_pos _ h1
  have e0:=eq_scr_nil (ns.map .int) st
  have e1:=len_scr (ns.map .int) st
  have e2:=mod_int k _ st h1
  have e3:=fdiv_int k _ st h1 (by omega:(ns.length:Int)<1073741824)
  have e4:=ix_scr ns _ st h2 h3
  have e5:=mul2_int _ _ st (mulOk_l 6553 (k / ns.length) (by decide) (by decide))
  rw [List.length_map] at e1
  simp [e0,e1,e2,e3,e4,e5,h]
noncomputable def mixA (c k:Int):Int:=(c % 2147483563 * 69069+104723 * (k+1)) % 2147483563
noncomputable def mixB (a:Int):Int:=(a * a+a / 3) % 2147483399
noncomputable def mixC (b m:Int):Int:=(b * b+b / 7) % 2147483647 / 11 % m
noncomputable def drawnV (ns:List Int) (k m:Int):Int:=mixC (mixB (mixA (cellV ns k) k)) m
theorem drawn_eq (ns:List Int) (hl:ns.length≤63) (k m:Int) (hm:0<m) (st:Sto):Fz_law_drawn [.scr (ns.map .int),.int k,.int m] st = .ok (.int (drawnV ns k m)) st:=by
 have a1:0≤mixA (cellV ns k) k:=Int.emod_nonneg _ (by decide)
 have a2:mixA (cellV ns k) k<2147483563:=Int.emod_lt_of_pos _ (by decide)
 have b1:0≤mixB (mixA (cellV ns k) k):=Int.emod_nonneg _ (by decide)
 have b2:mixB (mixA (cellV ns k) k)<2147483399:=Int.emod_lt_of_pos _ (by decide)
 have c0:0≤cellV ns k % 2147483563:=Int.emod_nonneg _ (by decide)
 have c1:cellV ns k % 2147483563<2147483563:=Int.emod_lt_of_pos _ (by decide)
 have e1:mul2D (.int (cellV ns k % 2147483563)) (.int 69069) st = .ok (.int (cellV ns k % 2147483563 * 69069)) st:=mul2_int _ _ _ (mulOk_r _ _ (by decide) (by decide))
 have e2:mul2D (.int 104723) (.int (k+1)) st = .ok (.int (104723 * (k+1))) st:=mul2_int _ _ _ (mulOk_l _ _ (by decide) (by decide))
 have e3:mul2D (.int (mixA (cellV ns k) k)) (.int (mixA (cellV ns k) k)) st = .ok (.int (mixA (cellV ns k) k * mixA (cellV ns k) k)) st:=mul2_int _ _ _ (mulOk_l _ _ (by omega) (by omega))
 have e4:mul2D (.int (mixB (mixA (cellV ns k) k))) (.int (mixB (mixA (cellV ns k) k))) st = .ok (.int (mixB (mixA (cellV ns k) k) * mixB (mixA (cellV ns k) k))) st:=mul2_int _ _ _ (mulOk_l _ _ (by omega) (by omega))
 have hA:(cellV ns k % 2147483563 * 69069+104723 * (k+1)) % 2147483563=mixA (cellV ns k) k:=rfl
 have hB:(mixA (cellV ns k) k * mixA (cellV ns k) k+mixA (cellV ns k) k / 3) % 2147483399=mixB (mixA (cellV ns k) k):=rfl
 have e0:=cell_eq ns hl k st
 have m1:=fun i=>mod_int i 2147483563 st (by decide)
 have m2:=fun i=>mod_int i 2147483399 st (by decide)
 have m3:=fun i=>mod_int i 2147483647 st (by decide)
 have m4:=fun i=>mod_int i m st hm
 have d1:=fun i=>fdiv_int i 3 st (by decide) (by decide)
 have d2:=fun i=>fdiv_int i 7 st (by decide) (by decide)
 have d3:=fun i=>fdiv_int i 11 st (by decide) (by decide)
 unfold Fz_law_drawn gz_law_drawn
 simp [e0,e1,e2,e3,e4,m1,m2,m3,m4,d1,d2,d3,hA,hB]
 rfl
theorem drawn_lo (ns:List Int) (k m:Int) (hm:0<m):0≤drawnV ns k m:=Int.emod_nonneg _ (by omega)
theorem drawn_hi (ns:List Int) (k m:Int) (hm:0<m):drawnV ns k m<m:=Int.emod_lt_of_pos _ hm
noncomputable def up : Str := ".."
noncomputable def stay : Str := "."
noncomputable def ledV:List Str→List Str→Option (List Str)
 | ws,[]=>some ws
 | ws,x :: xs=>if x=up then (if ws=[] then none else ledV ws.dropLast xs) else if x=stay then ledV ws xs else if ws.length<6 then ledV (ws++[x]) xs else none
noncomputable def optPl:Option (List Str)→D
 | some ws=>pl ws
 | none => .non
theorem getL {st:Sto} {xs:List D} {i:Nat} (h:st[i]?=some (.lst xs)):itemsOf st (.res i)=some xs:=by simp [itemsOf,seqL,h]
theorem len_res {st:Sto} {xs:List D} {i:Nat} (h:st[i]?=some (.lst xs)):lenD [.res i] st = .ok (.int xs.length) st:=by simp [lenD,getL h]
theorem tup_res {st:Sto} {xs:List D} {i:Nat} (h:st[i]?=some (.lst xs)):tupleD [.res i] st = .ok (.tup xs) st:=by simp [tupleD,getL h]
theorem pop_res {ρ:Ev} {st:Sto} {j i:Nat} {xs:List D} (hj:ρ[j]?=some (some (.res i))) (h:st[i]?=some (.lst xs)) (hx:xs≠[]):∃ d,dPop (dVar j) ρ st = .ok d (st.set i (.lst xs.dropLast)):=by
 have hl:0<xs.length:=List.length_pos_iff.mpr hx
 refine ⟨xs[xs.length - 1],?_⟩
 unfold dPop
 simp only [z_var,hj,z_bind_ok,h]
 rw [List.getElem?_eq_getElem (by omega)]
theorem app_res {ρ:Ev} {st:Sto} {j i:Nat} {xs:List D} {f:DE} {d:D} (hj:ρ[j]?=some (some (.res i))) (h:st[i]?=some (.lst xs)) (hf:f ρ st = .ok d st) (hx:xs.length<small):dAppend (dVar j) f ρ st = .ok .non (st.set i (.lst (xs++[d]))):=by
 unfold dAppend
 simp only [z_var,hj,z_bind_ok,h,hf,if_pos hx]
theorem set_at {st:Sto} {i:Nat} {s s':S} (h:st[i]?=some s):(st.set i s')[i]?=some s':=by
 rw [List.getElem?_set_self (List.getElem?_eq_some_iff.mp h).1]
theorem list_pl (ws:List Str) (st:Sto):listF [pl ws] st = .ok (ws.map .str) st:=by simp [listF,items_pl]
theorem at_last (st:Sto) (s:S):(st++[s])[st.length]?=some s:=by simp
theorem seq_nx {g g':DS} {ρ ρ':Ev} {st st':Sto} (h:g ρ st = .nx ρ' st'):sSeq g g' ρ st=g' ρ' st':=by simp [h]
theorem len_lst (xs:List D) (st:Sto):lenD [.lst xs] st = .ok (.int xs.length) st:=rfl
theorem compD_fm {α:Type} (g:α→D) (p:α→Bool) (h:α→D) {chk:Sto→Prop} {t:TgD} {cond:DT} {fe:DE} {st:Sto} (IE:Ev→Prop) (hc:chk st):∀ (xs:List α) (ρ:Ev) (acc:List D),IE ρ→acc.length+xs.length≤small →
  (∀ x∈xs,∀ ρ,IE ρ→∃ ρ1,t (g x) ρ=some ρ1∧IE ρ1∧cond ρ1 st = .ok (p x) st∧(p x=true→fe ρ1 st = .ok (h x) st))→compD chk t cond fe (xs.map g) ρ st acc = .ok (acc++(xs.filter p).map h) st
 | [],ρ,acc,_,_,_=>by simp [compD,hc]
 | x :: xs,ρ,acc,hI,hl,hx=>by
  obtain ⟨ρ1,e1,h1,e2,e3⟩:=hx x List.mem_cons_self ρ hI
  rw [List.map_cons]
  unfold compD
  rw [if_pos ⟨hc,by simp at hl; omega⟩,e1]
  dsimp only
  rw [e2]
  cases hp:p x with
  | true =>
   dsimp only
   rw [e3 hp]
   dsimp only
   rw [compD_fm g p h IE hc xs ρ1 (acc++[h x]) h1 (by simp at hl ⊢; omega) fun y hy=>hx y (List.mem_cons_of_mem _ hy)]
   simp [hp]
  | false =>
   dsimp only
   rw [compD_fm g p h IE hc xs ρ1 acc h1 (by simp at hl ⊢; omega) fun y hy=>hx y (List.mem_cons_of_mem _ hy)]
   simp [hp]
theorem compD_mm {α:Type} (g:α→D) (h:α→D) {chk:Sto→Prop} {t:TgD} {fe:DE} {st:Sto} (IE:Ev→Prop) (hc:chk st) (xs:List α) (ρ:Ev) (acc:List D) (hI:IE ρ) (hl:acc.length+xs.length≤small)
  (hx:∀ x∈xs,∀ ρ,IE ρ→∃ ρ1,t (g x) ρ=some ρ1∧IE ρ1∧fe ρ1 st = .ok (h x) st):compD chk t dTrue fe (xs.map g) ρ st acc = .ok (acc++xs.map h) st:=by
 rw [compD_fm g (fun _=>true) h IE hc xs ρ acc hI hl fun x hm ρ hi => ?_]
 ·rw [List.filter_eq_self.mpr fun _ _=>rfl]
 ·obtain ⟨ρ1,e1,e2,e3⟩:=hx x hm ρ hi
  exact ⟨ρ1,e1,e2,rfl,fun _=>e3⟩
theorem seq_go {g g':DS} {ρ ρ':Ev} {st st':Sto} (h:g ρ st = .nx ρ' st') (h2:∃ st2,g' ρ' st' = .rt (.bl true) st2):∃ st2,sSeq g g' ρ st = .rt (.bl true) st2:=by
 obtain ⟨st2,e⟩:=h2
 exact ⟨st2,(seq_nx h).trans e⟩
theorem ne_same {a:D} (h:nice depth a=true) (st:Sto):neD a a st = .ok (.bl false) st:=by
 rw [neD_nice h h]
 simp
theorem run_rt {N n:Nat} {g:DS} {ds:List D} {st st':Sto} {d:D} (hl:ds.length=n) (h:g (ds.map some++List.replicate (N - n) none) st = .rt d st'):runF N n g ds st = .ok d st':=by
 rw [z_runF,if_pos hl,h]
theorem keyT_pl (p:List Str):keyT (pl p)=some (p.map Sum.inr):=by
 show keyDs (p.map D.str)=_
 induction p with
 | nil=>rfl
 | cons x p ih =>
  show (match keyD (.str x),keyDs (p.map D.str) with | some k,some ks=>some (k :: ks) | _,_=>none)=_
  rw [ih]
  rfl
theorem keyT_inj {p q:List Str}:keyT (pl p)=keyT (pl q) ↔ p=q:=by
 rw [keyT_pl,keyT_pl,Option.some.injEq]
 constructor
 ·intro h
  induction p generalizing q with
  | nil =>
   cases q with
   | nil=>rfl
   | cons y q=>cases h
  | cons x p ih =>
   cases q with
   | nil=>cases h
   | cons y q =>
    rw [List.map_cons,List.map_cons] at h
    injection h with h1 h2
    injection h1 with h1
    rw [h1,ih h2]
 ·intro h; rw [h]
noncomputable def dpl (f:List Str→D) (ks:List (List Str)):List (D×D):=ks.map fun p=>(pl p,f p)
theorem val_dpl (f:List Str→D) (p:List Str):∀ ks:List (List Str),valD keyT (dpl f ks) (pl p)=if p∈ks then some (f p) else none
 | []=>by simp [dpl,valD]
 | k :: ks=>by
  show (if keyT (pl k)=keyT (pl p) then some (f k) else valD keyT (dpl f ks) (pl p))=_
  rw [val_dpl f p ks]
  by_cases h:k=p
  ·subst h
   simp
  ·rw [if_neg (fun z=>h (keyT_inj.mp z))]
   have h':¬ p=k:=fun z=>h z.symm
   simp [h']
theorem has_dpl (f:List Str→D) (ks:List (List Str)) (p:List Str):hasD keyT (dpl f ks) (pl p)=decide (p∈ks):=by
 unfold hasD dpl
 rw [List.any_map]
 induction ks with
 | nil=>simp
 | cons k ks ih =>
  rw [List.any_cons,ih]
  by_cases h:k=p
  ·subst h
   simp
  ·have h':¬ p=k:=fun z=>h z.symm
   have h2:¬ keyT (pl k)=keyT (pl p):=fun z=>h (keyT_inj.mp z)
   simp [h',h2]
theorem put_dpl (f:List Str→D) (ks:List (List Str)) (p:List Str) (v:D):putD keyT (dpl f ks) (pl p) v=dpl (fun q=>if q=p then v else f q) (if p∈ks then ks else ks++[p]):=by
 unfold putD
 rw [has_dpl]
 by_cases h:p∈ks
 ·rw [if_pos (decide_eq_true h),if_pos h]
  unfold dpl
  rw [List.map_map]
  refine List.map_congr_left fun q _ => ?_
  show (if keyT (pl q)=keyT (pl p) then (pl q,v) else (pl q,f q))=(pl q,if q=p then v else f q)
  by_cases e:q=p
  ·rw [if_pos (keyT_inj.mpr e),if_pos e]
  ·rw [if_neg (fun z=>e (keyT_inj.mp z)),if_neg e]
 ·rw [if_neg (by simpa using h),if_neg h]
  unfold dpl
  rw [List.map_append]
  congr 1
  ·refine List.map_congr_left fun q hq => ?_
   have:¬ q=p:=fun z=>h (z ▸ hq)
   show (pl q,f q)=(pl q,if q=p then v else f q)
   rw [if_neg this]
  ·show [(pl p,v)]=[(pl p,if p=p then v else f p)]
   rw [if_pos rfl]
structure StoK (st st':Sto):Prop where
 fr:∀ (j:Nat) (x:S),st[j]?=some x→st'[j]?=some x
 le:st.length≤st'.length
theorem StoK.refl (st:Sto):StoK st st:=⟨fun _ _ h=>h,Nat.le_refl _⟩
theorem StoK.trans {a b c:Sto} (x:StoK a b) (y:StoK b c):StoK a c:=⟨fun j z h=>y.fr j z (x.fr j z h),Nat.le_trans x.le y.le⟩
theorem StoK.app (st t:Sto):StoK st (st++t):=⟨fun j x h=>by rw [List.getElem?_append_left (List.getElem?_eq_some_iff.mp h).1]; exact h,by simp⟩
theorem StoK.set {a b:Sto} (x:StoK a b) {r:Nat} (hr:a.length≤r) (y:S):StoK a (b.set r y):=⟨fun j z h=>by
 have hj:j<a.length:=(List.getElem?_eq_some_iff.mp h).1
 rw [List.getElem?_set_ne (by omega)]
 exact x.fr j z h,by rw [List.length_set]; exact x.le⟩
theorem ledV_len:∀ (xs ws us:List Str),ws.length≤6→ledV ws xs=some us→us.length≤6
 | [],ws,us,hl,h=>by unfold ledV at h; cases h; exact hl
 | x :: xs,ws,us,hl,h=>by
  unfold ledV at h
  split at h
  ·split at h
   ·cases h
   ·exact ledV_len xs _ us (by rw [List.length_dropLast]; omega) h
  ·split at h
   ·exact ledV_len xs _ us hl h
   ·split at h
    ·exact ledV_len xs _ us (by simp; omega) h
    ·cases h
theorem led_loopK {chk:Sto→Prop} (hchk:∀ st,chk st) (p s0:Option D) (r:Nat) (st0:Sto) (hr:st0.length≤r):∀ (xs ws:List Str) (e:Option D) (st:Sto),ws.length≤6→st[r]?=some (.lst (ws.map .str))→StoK st0 st →
  (∀ us,ledV ws xs=some us→∃ e' st',loopD chk (tgName 3) Bzled_1 (xs.map .str) [p,s0,some (.res r),e] st = .nx [p,s0,some (.res r),e'] st'∧st'[r]?=some (.lst (us.map .str))∧StoK st0 st') ∧
  (ledV ws xs=none→∃ st',loopD chk (tgName 3) Bzled_1 (xs.map .str) [p,s0,some (.res r),e] st = .rt .non st'∧StoK st0 st')
 | [],ws,e,st,hl,h,hk=>⟨fun us hu=>by
   unfold ledV at hu
   cases hu
   exact ⟨e,st,loop_nil (hchk st),h,hk⟩,fun hn=>by unfold ledV at hn; cases hn⟩
 | x :: xs,ws,e,st,hl,h,hk=>by
  have hlen:=len_res h
  rw [List.length_map] at hlen
  have ht:tgName 3 (.str x) [p,s0,some (.res r),e]=some [p,s0,some (.res r),some (.str x)]:=rfl
  rw [List.map_cons]
  unfold ledV
  have q1 := eqD_str x ".." st
  have q2 := neD_str x "." st
  by_cases hu:x=up
  ·have hu' : x = (".." : Str) := hu
   rw [decide_eq_true hu'] at q1
   rw [if_pos hu]
   by_cases h0:ws=[]
   ·rw [if_pos h0]
    have q3:=eqD_int (ws.length:Int) 0 st
    rw [decide_eq_true (by rw [h0]; rfl)] at q3
    have hb:Bzled_1 [p,s0,some (.res r),some (.str x)] st = .rt .non st:=by
     unfold Bzled_1
     simp [q1,hlen,q3]
    exact ⟨fun us hus=>(by cases hus),fun _=>⟨st,loop_rt (hchk st) ht hb,hk⟩⟩
   ·rw [if_neg h0]
    obtain ⟨d,hp⟩:=pop_res (ρ:=[p,s0,some (.res r),some (.str x)]) (j:=2) rfl h (by simpa using h0)
    have hb:Bzled_1 [p,s0,some (.res r),some (.str x)] st = .nx [p,s0,some (.res r),some (.str x)] (st.set r (.lst (ws.map D.str).dropLast)):=by
     have h00:¬ (ws.length:Int)=0:=by
      have:=List.length_pos_iff.mpr h0
      omega
     have q3:=eqD_int (ws.length:Int) 0 st
     rw [decide_eq_false h00] at q3
     unfold Bzled_1
     simp [q1,hlen,q3,hp]
    rw [List.map_dropLast.symm] at hb
    have ih:=led_loopK hchk p s0 r st0 hr xs ws.dropLast (some (.str x)) _ (by rw [List.length_dropLast]; omega) (set_at (s':=.lst (ws.dropLast.map .str)) h) (hk.set hr _)
    rw [loop_nx (hchk st) ht hb]
    exact ih
  ·have hu' : ¬ x = (".." : Str) := hu
   rw [decide_eq_false hu'] at q1
   rw [if_neg hu]
   by_cases hs:x=stay
   ·have hs' : x = ("." : Str) := hs
    rw [decide_eq_true hs'] at q2
    rw [if_pos hs]
    have hb:Bzled_1 [p,s0,some (.res r),some (.str x)] st = .nx [p,s0,some (.res r),some (.str x)] st:=by
     unfold Bzled_1
     simp [q1,q2]
    rw [loop_nx (hchk st) ht hb]
    exact led_loopK hchk p s0 r st0 hr xs ws (some (.str x)) st hl h hk
   ·have hs' : ¬ x = ("." : Str) := hs
    rw [decide_eq_false hs'] at q2
    rw [if_neg hs]
    have ha:=app_res (ρ:=[p,s0,some (.res r),some (.str x)]) (j:=2) (f:=dVar 3) (d:=.str x) rfl h rfl (by rw [List.length_map]; exact Nat.lt_of_le_of_lt hl (by decide))
    have hst:(st.set r (.lst (ws.map D.str++[.str x])))[r]?=some (.lst (ws.map D.str++[.str x])):=set_at h
    have hlen2:=len_res hst
    simp only [List.length_append,List.length_map,List.length_cons,List.length_nil] at hlen2
    by_cases h6:ws.length<6
    ·rw [if_pos h6]
     have hb:Bzled_1 [p,s0,some (.res r),some (.str x)] st = .nx [p,s0,some (.res r),some (.str x)] (st.set r (.lst (ws.map D.str++[.str x]))):=by
      have h66:¬ (6:Int)<(ws.length:Int)+1:=by omega
      unfold Bzled_1
      simp [q1,q2,ha,hlen2,gtD,cmpD,h66,Fzis_too_long,gzis_too_long]
     rw [loop_nx (hchk st) ht hb]
     exact led_loopK hchk p s0 r st0 hr xs (ws++[x]) (some (.str x)) _ (by simp; omega) (by simpa using hst) (hk.set hr _)
    ·rw [if_neg h6]
     have hb:Bzled_1 [p,s0,some (.res r),some (.str x)] st = .rt .non (st.set r (.lst (ws.map D.str++[.str x]))):=by
      have h66:(6:Int)<(ws.length:Int)+1:=by omega
      unfold Bzled_1
      simp [q1,q2,ha,hlen2,gtD,cmpD,h66,Fzis_too_long,gzis_too_long]
     exact ⟨fun us hus=>(by cases hus),fun _=>⟨_,loop_rt (hchk st) ht hb,hk.set hr _⟩⟩
theorem led_eqK (ws xs:List Str) (hl:ws.length≤6) (st:Sto):∃ st',Fzled [pl ws,pl xs] st = .ok (optPl (ledV ws xs)) st'∧StoK st st':=by
 have h1:=led_loopK (chk:=fun st=>itemsOf st (pl xs)=some (xs.map D.str)) (fun st=>items_pl xs st) (some (pl ws)) (some (pl xs)) st.length st (Nat.le_refl _) xs ws none (st++[.lst (ws.map .str)]) hl (at_last _ _) (StoK.app _ _)
 have e1:=list_pl ws st
 have e2:=items_pl xs (st++[.lst (ws.map .str)])
 cases h:ledV ws xs with
 | some us =>
  obtain ⟨e',st',e3,e4,e6⟩:=h1.1 us h
  have e5:=tup_res e4
  refine ⟨st',?_,e6⟩
  unfold Fzled gzled
  simp [e1,e2,e3,e5,optPl]
  rfl
 | none =>
  obtain ⟨st',e3,e6⟩:=h1.2 h
  refine ⟨st',?_,e6⟩
  unfold Fzled gzled
  simp [e1,e2,e3,optPl]
theorem under_eqK (a b:List Str) (st:Sto):Fzis_under [pl a,pl b] st = .ok (.bl (decide (a.take b.length=b))) st:=by
 have e1:=len_pl b st
 have e2:=cut_pl a none (some (b.length:Int)) st
 rw [cutL_to] at e2
 have e3:=eqD_pl (a.take b.length) b st
 unfold Fzis_under gzis_under
 simp [e1,e2,e3]
inductive Prt where
 | way (k:Int)
 | steps (xs:List Str)
structure Lk where
 wh:List Str
 wd:Str
 op:Bool
 pt:Prt
noncomputable def Lk.kind (l:Lk):Str:=match l.pt with
 | .way _ => "go"
 | .steps _ => if l.op then "open" else "replace"
noncomputable def Prt.d:Prt→D
 | .way k => .int k
 | .steps xs=>pl xs
noncomputable def lkD (l:Lk):D:=.tup [pl l.wh,.str l.wd,.str l.kind,l.pt.d]
noncomputable def optL:Option Lk→D
 | none => .non
 | some l=>lkD l
theorem lk0 (l:Lk) (st:Sto):ixD (lkD l) (.int 0) st = .ok (pl l.wh) st:=rfl
theorem lk1 (l:Lk) (st:Sto):ixD (lkD l) (.int 1) st = .ok (.str l.wd) st:=rfl
theorem lk2 (l:Lk) (st:Sto):ixD (lkD l) (.int 2) st = .ok (.str l.kind) st:=rfl
theorem lk3 (l:Lk) (st:Sto):ixD (lkD l) (.int 3) st = .ok l.pt.d st:=rfl
noncomputable def lksD (ls:List Lk):D:=.tup (ls.map lkD)
theorem items_lks (ls:List Lk) (st:Sto):itemsOf st (lksD ls)=some (ls.map lkD):=rfl
noncomputable def undr (p:List Str) (l:Lk):Bool:=decide (p.take l.wh.length=l.wh)
noncomputable def linkV (ls:List Lk) (p:List Str) (w:Str):Option Lk:=(ls.filter fun l=>decide (l.wd=w) && undr p l).head?
theorem nice_part (n:Nat) (x:Prt):nice (n+2) x.d=true:=by
 cases x with
 | way k=>rfl
 | steps xs=>exact nice_pl n xs
theorem nice_lk (n:Nat) (l:Lk):nice (n+3) (lkD l)=true:=by
 show nice (n+2+1) (.tup [pl l.wh,.str l.wd,.str l.kind,l.pt.d])=true
 unfold nice niceL niceL niceL niceL niceL
 rw [nice_pl n l.wh,nice_part n l.pt]
 rfl
theorem nice_optL (o:Option Lk):nice depth (optL o)=true:=by
 cases o with
 | none=>rfl
 | some l=>exact nice_lk 47 l
theorem linkat_loop (p:List Str) (w:Str) (ls0:List Lk) (st:Sto):∀ (ls:List Lk) (e:Option D),
  (∀ l,linkV ls p w=some l→loopD (fun _=>True) (tgName 3) Bzlink_at_1 (ls.map lkD) [some (lksD ls0),some (pl p),some (.str w),e] st = .rt (lkD l) st) ∧
  (linkV ls p w=none→∃ e',loopD (fun _=>True) (tgName 3) Bzlink_at_1 (ls.map lkD) [some (lksD ls0),some (pl p),some (.str w),e] st = .nx [some (lksD ls0),some (pl p),some (.str w),e'] st)
 | [],e=>⟨fun l h=>(by cases h),fun _=>⟨e,loop_nil trivial⟩⟩
 | x :: xs,e=>by
  have ht:tgName 3 (lkD x) [some (lksD ls0),some (pl p),some (.str w),e]=some [some (lksD ls0),some (pl p),some (.str w),some (lkD x)]:=rfl
  have q0:=lk0 x st
  have q1:=lk1 x st
  have q2:=eqD_str x.wd w st
  have q3:=under_eqK p x.wh st
  have ih:=linkat_loop p w ls0 st xs (some (lkD x))
  rw [List.map_cons]
  by_cases h:(decide (x.wd=w) && undr p x)=true
  ·have hv:linkV (x :: xs) p w=some x:=by
    unfold linkV
    rw [List.filter_cons,if_pos h]
    rfl
   rw [Bool.and_eq_true] at h
   have h2:decide (p.take x.wh.length=x.wh)=true:=h.2
   rw [h.1] at q2
   rw [h2] at q3
   have hb:Bzlink_at_1 [some (lksD ls0),some (pl p),some (.str w),some (lkD x)] st = .rt (lkD x) st:=by
    unfold Bzlink_at_1
    simp [q0,q1,q2,q3]
   refine ⟨fun l hh => ?_,fun hh => ?_⟩
   ·rw [hv] at hh
    cases hh
    exact loop_rt trivial ht hb
   ·rw [hv] at hh; cases hh
  ·have hv:linkV (x :: xs) p w=linkV xs p w:=by
    unfold linkV
    rw [List.filter_cons,if_neg h]
   have hb:Bzlink_at_1 [some (lksD ls0),some (pl p),some (.str w),some (lkD x)] st = .nx [some (lksD ls0),some (pl p),some (.str w),some (lkD x)] st:=by
    unfold Bzlink_at_1
    by_cases h1:x.wd=w
    ·rw [decide_eq_true h1] at q2
     have h2:decide (p.take x.wh.length=x.wh)=false:=by
      rw [decide_eq_true h1,Bool.true_and] at h
      exact Bool.eq_false_iff.mpr h
     rw [h2] at q3
     simp [q0,q1,q2,q3]
    ·rw [decide_eq_false h1] at q2
     simp [q1,q2]
   rw [hv,loop_nx trivial ht hb]
   exact ih
theorem linkat_eq (ls:List Lk) (p:List Str) (w:Str) (st:Sto):Fzlink_at [lksD ls,pl p,.str w] st = .ok (optL (linkV ls p w)) st:=by
 have h:=linkat_loop p w ls st ls none
 unfold Fzlink_at gzlink_at
 cases hv:linkV ls p w with
 | some l =>
  have e:=h.1 l hv
  simp [items_lks,e,optL]
 | none =>
  obtain ⟨e',e⟩:=h.2 hv
  simp [items_lks,e,optL]
noncomputable def wordsV (ls:List Lk) (p:List Str):List Str:=SO.srtS (ddS ((ls.filter (undr p)).map (·.wd)))
theorem wordsV_link {ls:List Lk} {p:List Str} {w:Str} (h:w∈wordsV ls p):∃ l,linkV ls p w=some l∧l∈ls:=by
 have h1:=(SO.srtS_perm _).mem_iff.mp h
 rw [ddS_mem] at h1
 obtain ⟨l,h2,h3⟩:=List.mem_map.mp h1
 obtain ⟨h4,h5⟩:=List.mem_filter.mp h2
 have h6:l∈ls.filter fun l=>decide (l.wd=w) && undr p l:=List.mem_filter.mpr ⟨h4,by rw [h5,decide_eq_true h3]; rfl⟩
 unfold linkV
 cases hf:ls.filter fun l=>decide (l.wd=w) && undr p l with
 | nil=>rw [hf] at h6; cases h6
 | cons x xs =>
  refine ⟨x,rfl,?_⟩
  have:x∈ls.filter fun l=>decide (l.wd=w) && undr p l:=by rw [hf]; exact List.mem_cons_self
  exact (List.mem_filter.mp this).1
theorem wordsV_len (ls:List Lk) (p:List Str):(wordsV ls p).length≤ls.length:=by
 unfold wordsV
 rw [(SO.srtS_perm _).length_eq]
 refine Nat.le_trans (ddS_len _) ?_
 rw [List.length_map]
 exact List.length_filter_le _ _
theorem linkV_mem {ls:List Lk} {p:List Str} {w:Str} {l:Lk} (h:linkV ls p w=some l):l∈ls:=by
 unfold linkV at h
 exact (List.mem_filter.mp (List.mem_of_mem_head? h)).1
theorem setSF_lst (ss:List Str) (hs:ss.length<64) (st:Sto):setSF [.lst (ss.map .str)] st = .ok ((SO.srtS (ddS ss)).map .str) st:=by
 simp only [setSF,seqL,strsD_map,if_pos hs]
theorem words_eq (ls:List Lk) (hl:ls.length≤8) (p:List Str) (st:Sto):Fzwords_at [lksD ls,pl p] st = .ok (.lst ((wordsV ls p).map .str)) st:=by
 have e1:compD (fun _=>True) (tgName 0) Czwords_at_1 Ezwords_at_1 (ls.map lkD) [none,some (pl p)] st [] = .ok ((ls.filter (undr p)).map fun l => .str l.wd) st:=by
  rw [compD_fm lkD (undr p) (fun l => .str l.wd) (fun ρ => ∃ a,ρ=[a,some (pl p)]) trivial ls _ [] ⟨_,rfl⟩ (by simp; exact small_ge (by omega))]
  ·simp
  ·rintro l hm ρ ⟨a,rfl⟩
   refine ⟨_,rfl,⟨_,rfl⟩,?_,fun _ => ?_⟩
   ·have q0:=lk0 l st
    have q3:=under_eqK p l.wh st
    unfold Czwords_at_1 undr
    simp [q0,q3]
   ·unfold Ezwords_at_1
    simp [lk1 l st]
 have hm:(ls.filter (undr p)).map (fun l=>D.str l.wd)=((ls.filter (undr p)).map (·.wd)).map D.str:=by simp
 rw [hm] at e1
 have e2:=setSF_lst ((ls.filter (undr p)).map (·.wd)) (by
  rw [List.length_map]
  have:=List.length_filter_le (undr p) ls
  omega) st
 unfold Fzwords_at gzwords_at
 simp only [List.map_map] at e1 e2
 simp [items_lks,capEv,e1,e2]
 rfl
noncomputable def goalV (l:Lk) (p:List Str):Option (List Str):=match l.pt with
 | .way _=>none
 | .steps xs=>ledV p xs
theorem goal_eq (l:Lk) (p:List Str) (hp:p.length≤6) (st:Sto):∃ st',Fzgoal_of [lkD l,pl p] st = .ok (optPl (goalV l p)) st'∧StoK st st':=by
 have q2:=lk2 l st
 have q3:=lk3 l st
 cases h:l.pt with
 | way k =>
  have hk : l.kind = "go" := by unfold Lk.kind; rw [h]
  have hg:goalV l p=none:=by unfold goalV; rw [h]
  have q4 := eqD_str "go" "go" st
  rw [hk] at q2
  rw [decide_eq_true rfl] at q4
  refine ⟨st,?_,StoK.refl _⟩
  rw [hg]
  unfold Fzgoal_of gzgoal_of
  simp [q2,q4,optPl]
 | steps xs =>
  have hk : l.kind ≠ "go" := by
   unfold Lk.kind
   rw [h]
   cases l.op <;> simp <;> decide
  have hg:goalV l p=ledV p xs:=by unfold goalV; rw [h]
  have q4 := eqD_str l.kind "go" st
  rw [decide_eq_false hk] at q4
  rw [h] at q3
  obtain ⟨st',e,k⟩:=led_eqK p xs hp st
  refine ⟨st',?_,k⟩
  rw [hg]
  unfold Fzgoal_of gzgoal_of
  simp [q2,q3,q4,Prt.d,e]
theorem eqItems_refl {f:D→D→Option Bool}:∀ xs:List D,(∀ x∈xs,f x x=some true)→eqItems f xs xs=some true
 | [],_=>rfl
 | x :: xs,h=>by rw [eqItems,h x List.mem_cons_self,eqItems_refl xs fun y hy=>h y (List.mem_cons_of_mem _ hy)]; rfl
noncomputable def stepD (ls:List Lk) (p:List Str) (w:Str):List D:=match linkV ls p w with
 | some l=>match goalV l p with
  | some g=>[.tup [.str w,pl g]]
  | none=>[]
 | none=>[]
noncomputable def nextL (ls:List Lk) (p:List Str) (ws:List Str):List D:=ws.flatMap (stepD ls p)
theorem stepD_len (ls:List Lk) (p:List Str) (w:Str):(stepD ls p w).length≤1:=by
 unfold stepD
 split
 ·split
  ·exact Nat.le_refl _
  ·exact Nat.zero_le _
 ·exact Nat.zero_le _
theorem isNot_opt (o:Option (List Str)) (st:Sto):isNotD (optPl o) .non st = .ok (.bl o.isSome) st:=by cases o <;> rfl
theorem next_loop {chk:Sto→Prop} (hchk:∀ st,chk st) (ls:List Lk) (p:List Str) (hp:p.length≤6) (r:Nat) (st0:Sto) (hr:st0.length≤r):∀ (ws:List Str) (a b:Option D) (acc:List D) (st:Sto),(∀ w∈ws,∃ l,linkV ls p w=some l)→acc.length+ws.length≤100→st[r]?=some (.lst acc)→StoK st0 st →
  ∃ a' b' st',loopD chk (tgName 3) Bznext_places_1 (ws.map .str) [some (lksD ls),some (pl p),some (.res r),a,b] st = .nx [some (lksD ls),some (pl p),some (.res r),a',b'] st'∧st'[r]?=some (.lst (acc++nextL ls p ws))∧StoK st0 st'
 | [],a,b,acc,st,_,_,h,hk=>⟨a,b,st,loop_nil (hchk st),by simpa [nextL] using h,hk⟩
 | w :: ws,a,b,acc,st,hw,hl,h,hk=>by
  obtain ⟨l,hl1⟩:=hw w List.mem_cons_self
  have ht:tgName 3 (.str w) [some (lksD ls),some (pl p),some (.res r),a,b]=some [some (lksD ls),some (pl p),some (.res r),some (.str w),b]:=rfl
  have e1:=linkat_eq ls p w st
  rw [hl1] at e1
  obtain ⟨st1,e2,k1⟩:=goal_eq l p hp st
  have h1:=k1.fr _ _ h
  have e3:=isNot_opt (goalV l p) st1
  have hs:stepD ls p w=match goalV l p with | some g=>[.tup [.str w,pl g]] | none=>[]:=by unfold stepD; rw [hl1]
  have hb:∃ st2,Bznext_places_1 [some (lksD ls),some (pl p),some (.res r),some (.str w),b] st = .nx [some (lksD ls),some (pl p),some (.res r),some (.str w),some (optPl (goalV l p))] st2∧st2[r]?=some (.lst (acc++stepD ls p w))∧StoK st0 st2:=by
   cases hg:goalV l p with
   | none =>
    rw [hg] at e2 e3 hs
    refine ⟨st1,?_,by rw [hs]; simpa using h1,hk.trans k1⟩
    unfold Bznext_places_1
    simp [e1,optL,e2,e3]
   | some g =>
    rw [hg] at e2 e3 hs
    have q2:(2:Nat)≤small:=by decide
    have e4:=app_res (ρ:=[some (lksD ls),some (pl p),some (.res r),some (.str w),some (pl g)]) (st:=st1) (j:=2) (i:=r) (xs:=acc) (f:=dTup (dCons (dVar 3) (dCons (dVar 4) dNil))) (d:=.tup [.str w,pl g]) rfl h1 (by simp [q2]) (Nat.lt_of_lt_of_le (by simp at hl; omega) (small_ge (n:=100) (by omega)))
    refine ⟨st1.set r (.lst (acc++[.tup [.str w,pl g]])),?_,by rw [hs]; exact set_at h1,(hk.trans k1).set hr _⟩
    have e3':isNotD (pl g) .non st1 = .ok (.bl true) st1:=rfl
    unfold Bznext_places_1
    simp [e1,optL,e2,e3',optPl,e4]
  obtain ⟨st2,hb,h2,k2⟩:=hb
  have hsl:=stepD_len ls p w
  obtain ⟨a',b',st',e5,h5,k5⟩:=next_loop hchk ls p hp r st0 hr ws (some (.str w)) (some (optPl (goalV l p))) (acc++stepD ls p w) st2 (fun x hx=>hw x (List.mem_cons_of_mem _ hx)) (by simp at hl ⊢; omega) h2 k2
  refine ⟨a',b',st',?_,?_,k5⟩
  ·rw [List.map_cons,loop_nx (hchk st) ht hb]
   exact e5
  ·rw [h5]
   simp [nextL]
noncomputable def abW (w : Str) : Prop := w = "a" ∨ w = "b"
noncomputable def Few (l : Lk) : Prop := (l.wh.length ≤ 2 ∧ ∀ w ∈ l.wh, abW w) ∧ ∀ xs, l.pt = .steps xs → xs.length ≤ 2 ∧ ∀ x ∈ xs, abW x ∨ x = ".." ∨ x = "."
theorem ab_ix (i : Int) (st : Sto) (h0 : 0 ≤ i) (h1 : i < 2) : ∃ w, ixD (.str "ab") (.int i) st = .ok (.str w) st ∧ abW w := by
 have:i=0∨i=1:=by omega
 rcases this with rfl | rfl
 ·exact ⟨"a", rfl, .inl rfl⟩
 ·exact ⟨"b", rfl, .inr rfl⟩
theorem ix_any {xs:List D} {i:Int} (h0:0≤i) (h1:i<xs.length) (st:Sto):∃ d∈xs,ixD (.lst xs) (.int i) st = .ok d st:=by
 have hi:i.toNat<xs.length:=by omega
 refine ⟨xs[i.toNat],List.getElem_mem hi,?_⟩
 have e:L2.atI xs i=some xs[i.toNat]:=by
  unfold L2.atI L2.ixN
  rw [if_pos h0,if_pos h1]
  simp only [Option.bind_some]
  exact List.getElem?_eq_getElem hi
 simp only [ixD,itemsOf,seqL,e]
noncomputable def WdOk (l : Lk) : Prop := l.wd = "up" ∨ l.wd = "in" ∨ l.wd = "on" ∨ l.wd = "go"
theorem few_turn (ns:List Int) (hl:ns.length≤63) (at_:Int) (j:Nat) (ls:List Lk) (hls:ls.length≤8) (c4 c5 c6 c7 c8 c9:Option D) (st:Sto):∃ l d4 d5 d6 d7 d8 d9,Bz_law_few_1 [some (.scr (ns.map .int)),some (.int at_),some (lksD ls),some (.int j),c4,c5,c6,c7,c8,c9] st = .nx [some (.scr (ns.map .int)),some (.int at_),some (lksD (ls++[l])),some (.int j),d4,d5,d6,d7,d8,d9] st∧Few l∧WdOk l:=by
 obtain ⟨h,hh⟩:∃ h:Int,h=at_+1+12 * (j:Int):=⟨_,rfl⟩
 have m1:=mul2_int 12 (j:Int) st (mulOk_l 12 (j:Int) (by decide) (by decide))
 have q1:(1:Nat)≤small:=by decide
 have q2:(2:Nat)≤small:=by decide
 have q4:(4:Nat)≤small:=by decide
 have q6:(6:Nat)≤small:=by decide
 have d1:=drawn_eq ns hl h 4 (by decide) st
 obtain ⟨dw, hdw, x1⟩ := ix_any (xs := [.str "up", .str "in", .str "on", .str "go"]) (drawn_lo ns h 4 (by decide)) (drawn_hi ns h 4 (by decide)) st
 obtain ⟨w, rfl, hwd⟩ : ∃ w : Str, dw = .str w ∧ (w = "up" ∨ w = "in" ∨ w = "on" ∨ w = "go") := by
  simp only [List.mem_cons,List.not_mem_nil,or_false] at hdw
  rcases hdw with rfl | rfl | rfl | rfl
  ·exact ⟨_,rfl,.inl rfl⟩
  ·exact ⟨_,rfl,.inr (.inl rfl)⟩
  ·exact ⟨_,rfl,.inr (.inr (.inl rfl))⟩
  ·exact ⟨_,rfl,.inr (.inr (.inr rfl))⟩
 have r1:=drawn_lo ns (h+3) 3 (by decide)
 have r2:=drawn_hi ns (h+3) 3 (by decide)
 have g1:rngOk (drawnV ns (h+3) 3)=true:=rngOk_of (by omega) (by omega)
 have d4:=drawn_eq ns hl (h+3) 3 (by decide) st
 have hch : ∀ i : Nat, ∃ w, ixD (.str "ab") (.int (drawnV ns (h + 4 + (i : Int)) 2)) st = .ok (.str w) st ∧ abW w := fun i => ab_ix _ st (drawn_lo ns (h + 4 + (i : Int)) 2 (by decide)) (drawn_hi ns (h + 4 + (i : Int)) 2 (by decide))
 obtain ⟨f, hf⟩ : ∃ f : Nat → Str, ∀ i : Nat, ixD (.str "ab") (.int (drawnV ns (h + 4 + (i : Int)) 2)) st = .ok (.str (f i)) st ∧ abW (f i) := ⟨fun i => Classical.choose (hch i), fun i => Classical.choose_spec (hch i)⟩
 have e2:compD (fun _=>True) (tgName 0) dTrue Ez_law_few_1 ((List.range (drawnV ns (h+3) 3).toNat).map (fun (i:Nat)=>D.int (0+i))) [none,some (.scr (ns.map .int)),some (.int h)] st [] = .ok ((List.range (drawnV ns (h+3) 3).toNat).map fun i=>D.str (f i)) st:=by
  rw [compD_mm (fun (i:Nat)=>D.int (0+i)) (fun i=>D.str (f i)) (fun ρ => ∃ a,ρ=[a,some (.scr (ns.map .int)),some (.int h)]) trivial _ _ _ ⟨_,rfl⟩ (by simp only [List.length_nil,List.length_range,Nat.zero_add]; exact small_ge (by omega))]
  ·rfl
  ·rintro i _ ρ ⟨a,rfl⟩
   refine ⟨_,rfl,⟨_,rfl⟩,?_⟩
   have e3:=drawn_eq ns hl (h+4+(i:Int)) 2 (by decide) st
   have e4:=(hf i).1
   unfold Ez_law_few_1
   simp [addD_int,e3,e4]
 obtain ⟨wh,hwh⟩:∃ wh:List Str,wh=(List.range (drawnV ns (h+3) 3).toNat).map f:=⟨_,rfl⟩
 have ewh:((List.range (drawnV ns (h+3) 3).toNat).map fun i=>D.str (f i))=wh.map D.str:=by rw [hwh,List.map_map]; rfl
 rw [ewh] at e2
 have hw1:wh.length≤2:=by rw [hwh]; simp; omega
 have hw2:∀ x∈wh,abW x:=fun x hx=>by
  rw [hwh] at hx
  obtain ⟨i,_,rfl⟩:=List.mem_map.mp hx
  exact (hf i).2
 have hdn : ∃ dn, ixD (.str "ab") (.int (if (wh.length : Int) = 2 then 1 else 0)) st = .ok (.str dn) st ∧ abW dn := by
  by_cases c:(wh.length:Int)=2
  ·rw [if_pos c]; exact ab_ix 1 st (by decide) (by decide)
  ·rw [if_neg c]; exact ab_ix 0 st (by decide) (by decide)
 obtain ⟨dn,xd,hdn⟩:=hdn
 have l6:=len_pl wh st
 have eq2:=eqD_int (wh.length:Int) 2 st
 have i2:intD [.bl (decide ((wh.length:Int)=2))] st = .ok (.int (if (wh.length:Int)=2 then 1 else 0)) st:=by
  by_cases c:(wh.length:Int)=2
  ·rw [decide_eq_true c,if_pos c]; rfl
  ·rw [decide_eq_false c,if_neg c]; rfl
 have d5:=drawn_eq ns hl (h+1) 6 (by decide) st
 obtain ⟨ds, hds, x3⟩ := ix_any (xs := [pl ["a"], pl [dn], pl [".."], pl ["..", "a"], pl ["."], pl ["..", ".."]]) (drawn_lo ns (h + 1) 6 (by decide)) (drawn_hi ns (h + 1) 6 (by decide)) st
 obtain ⟨sp, rfl, hsp⟩ : ∃ sp : List Str, ds = pl sp ∧ sp.length ≤ 2 ∧ ∀ x ∈ sp, abW x ∨ x = ".." ∨ x = "." := by
  simp only [List.mem_cons,List.not_mem_nil,or_false] at hds
  rcases hds with rfl | rfl | rfl | rfl | rfl | rfl
  ·exact ⟨_,rfl,by simp,fun x hx => .inl (.inl (by simpa using hx))⟩
  ·exact ⟨_,rfl,by simp,fun x hx => .inl (by rw [List.mem_singleton.mp hx]; exact hdn)⟩
  ·exact ⟨_,rfl,by simp,fun x hx => .inr (.inl (by simpa using hx))⟩
  ·refine ⟨_,rfl,by simp,fun x hx => ?_⟩
   simp only [List.mem_cons,List.not_mem_nil,or_false] at hx
   rcases hx with rfl | rfl
   ·exact .inr (.inl rfl)
   ·exact .inl (.inl rfl)
  ·exact ⟨_,rfl,by simp,fun x hx => .inr (.inr (by simpa using hx))⟩
  ·refine ⟨_,rfl,by simp,fun x hx => ?_⟩
   simp only [List.mem_cons,List.not_mem_nil,or_false] at hx
   rcases hx with rfl | rfl <;> exact .inr (.inl rfl)
 have d6:=drawn_eq ns hl (h+2) 4 (by decide) st
 obtain ⟨dk, hdk, x4⟩ := ix_any (xs := [.str "open", .str "open", .str "replace", .str "go"]) (drawn_lo ns (h + 2) 4 (by decide)) (drawn_hi ns (h + 2) 4 (by decide)) st
 have hk : (∃ op : Bool, dk = .str (if op then "open" else "replace")) ∨ dk = .str "go" := by
  simp only [List.mem_cons,List.not_mem_nil,or_false] at hdk
  rcases hdk with rfl | rfl | rfl | rfl
  ·exact .inl ⟨true,rfl⟩
  ·exact .inl ⟨true,rfl⟩
  ·exact .inl ⟨false,rfl⟩
  ·exact .inr rfl
 have ea:∀ l:Lk,addD (lksD ls) (.tup [lkD l]) st = .ok (lksD (ls++[l])) st:=fun l=>by
  have hz:(ls.map lkD).length+[lkD l].length≤small:=small_ge (by simp; omega)
  simp only [lksD,addD,if_pos hz]
  simp
 simp only [Int.zero_add] at e2
 rcases hk with ⟨op,rfl⟩ | rfl
 ·refine ⟨⟨wh, w, op, .steps sp⟩, some (.int h), some (.str w), some (pl wh), some (.tup [.str dn]), some (pl sp), some (.str (if op then "open" else "replace")), ?_, ⟨⟨hw1, hw2⟩, fun xs hx => by cases hx; exact hsp⟩, hwd⟩
  have q := eqD_str (if op then "open" else "replace") "go" st
  have hne : ¬ ((if op then ("open" : Str) else "replace") = "go") := by cases op <;> decide
  rw [decide_eq_false hne] at q
  have i0:intD [.bl false] st = .ok (.int 0) st:=rfl
  have i1:ixD (.lst [pl sp,.int (-1)]) (.int 0) st = .ok (pl sp) st:=rfl
  have ea' : addD (lksD ls) (.tup [.tup [pl wh, .str w, .str (if op then "open" else "replace"), pl sp]]) st = .ok (lksD (ls ++ [⟨wh, w, op, .steps sp⟩])) st := ea ⟨wh, w, op, .steps sp⟩
  have x3' : ixD (.lst [.tup [.str "a"], .tup [.str dn], .tup [.str ".."], .tup [.str "..", .str "a"], .tup [.str "."], .tup [.str "..", .str ".."]]) (.int (drawnV ns (h + 1) 6)) st = .ok (pl sp) st := x3
  generalize (if op then ("open" : Str) else "replace") = kk at *
  have tl:tupleD [.lst (wh.map D.str)] st = .ok (pl wh) st:=rfl
  unfold Bz_law_few_1
  simp [m1,addD_int,← hh,q1,q2,q4,q6,d1,x1,d4,g1,dRng1,capEv,e2,tl,l6,eq2,i2,xd,d5,x3',d6,x4,q,i0,i1,ea']
 ·refine ⟨⟨wh, w, true, .way (-1)⟩, some (.int h), some (.str w), some (pl wh), some (.tup [.str dn]), some (pl sp), some (.str "go"), ?_, ⟨⟨hw1, hw2⟩, fun xs hx => by cases hx⟩, hwd⟩
  have q := eqD_str "go" "go" st
  rw [decide_eq_true rfl] at q
  have i0:intD [.bl true] st = .ok (.int 1) st:=rfl
  have i1:ixD (.lst [pl sp,.int (-1)]) (.int 1) st = .ok (.int (-1)) st:=rfl
  have ea' : addD (lksD ls) (.tup [.tup [pl wh, .str w, .str "go", .int (-1)]]) st = .ok (lksD (ls ++ [⟨wh, w, true, .way (-1)⟩])) st := ea ⟨wh, w, true, .way (-1)⟩
  have x3' : ixD (.lst [.tup [.str "a"], .tup [.str dn], .tup [.str ".."], .tup [.str "..", .str "a"], .tup [.str "."], .tup [.str "..", .str ".."]]) (.int (drawnV ns (h + 1) 6)) st = .ok (pl sp) st := x3
  have tl:tupleD [.lst (wh.map D.str)] st = .ok (pl wh) st:=rfl
  unfold Bz_law_few_1
  simp [m1,addD_int,← hh,q1,q2,q4,q6,d1,x1,d4,g1,dRng1,capEv,e2,tl,l6,eq2,i2,xd,d5,x3',d6,x4,q,i0,i1,ea']
theorem few_eq (ns:List Int) (hl:ns.length≤63) (at_:Int) (st:Sto):∃ ls,Fz_law_few [.scr (ns.map .int),.int at_] st = .ok (lksD ls) st∧ls.length≤5∧(∀ l∈ls,Few l)∧∀ l∈ls,WdOk l:=by
 have d1:=drawn_eq ns hl at_ 6 (by decide) st
 have r1:=drawn_lo ns at_ 6 (by decide)
 have r2:=drawn_hi ns at_ 6 (by decide)
 have g1:rngOk (drawnV ns at_ 6)=true:=rngOk_of (by omega) (by omega)
 obtain ⟨ρ1,st1,f1,⟨rfl,ls,c3,c4,c5,c6,c7,c8,c9,rfl,hn,hok⟩⟩:=loop_rng (chk:=fun _=>True) (t:=tgName 3) (g:=Bz_law_few_1) (f:=fun (i:Nat)=>D.int (0+i))
  (fun j ρ st'=>st'=st∧∃ ls c3 c4 c5 c6 c7 c8 c9,ρ=[some (.scr (ns.map .int)),some (.int at_),some (lksD ls),c3,c4,c5,c6,c7,c8,c9]∧ls.length=j∧∀ l∈ls,Few l∧WdOk l) (fun _ _ _ _=>trivial) (drawnV ns at_ 6).toNat
  (by
   rintro j hj ρ st' ⟨rfl,ls,c3,c4,c5,c6,c7,c8,c9,rfl,hn,hok⟩
   obtain ⟨l,d4,d5,d6,d7,d8,d9,e,ol⟩:=few_turn ns hl at_ j ls (by omega) c4 c5 c6 c7 c8 c9 st'
   refine ⟨[some (.scr (ns.map .int)),some (.int at_),some (lksD ls),some (.int j),c4,c5,c6,c7,c8,c9],_,st',?_,e,rfl,_,_,_,_,_,_,_,_,rfl,by simp [hn],fun x hx => ?_⟩
   ·rw [Int.zero_add]
    rfl
   ·rcases List.mem_append.mp hx with h | h
    ·exact hok x h
    ·rw [List.mem_singleton.mp h]; exact ol) [some (.scr (ns.map .int)),some (.int at_),some (lksD []),none,none,none,none,none,none,none] st ⟨rfl,[],none,none,none,none,none,none,none,rfl,rfl,fun x hx=>by cases hx⟩
 refine ⟨ls,?_,by omega,fun l hm=>(hok l hm).1,fun l hm=>(hok l hm).2⟩
 simp only [Int.zero_add] at f1
 have f1':loopD (fun _=>True) (tgName 3) Bz_law_few_1 ((List.range (drawnV ns at_ 6).toNat).map fun (i:Nat)=>D.int i) [some (.scr (ns.map .int)),some (.int at_),some (.tup []),none,none,none,none,none,none,none] st1 = .nx [some (.scr (ns.map .int)),some (.int at_),some (lksD ls),c3,c4,c5,c6,c7,c8,c9] st1:=f1
 unfold Fz_law_few gz_law_few
 simp [d1,g1,dRng1,f1']
theorem inN_pl (st:Sto) (b:List Str):∀ gs:List (List Str),inN st depth (pl b) (gs.map pl)=some (decide (b∈gs))
 | []=>by simp [inN]
 | g :: gs=>by
  rw [List.map_cons]
  unfold inN
  rw [inN_pl st b gs,eqN_nice st depth _ _ (nice_pl' g) (nice_pl' b)]
  have e:pl g=pl b→g=b:=fun h=>by
   have h':g.map D.str=b.map D.str:=by
    have:=congrArg (fun d=>match d with | D.tup xs=>xs | _=>[]) h
    exact this
   exact str_inj.mp h'
  by_cases h1:g=b
  ·subst h1
   simp
  ·have h2:¬ b=g:=fun h=>h1 h.symm
   simp [h2]
   exact fun h=>absurd (e h) h1
theorem notIn_pls {st:Sto} (r:List Str) (E:List (List Str)):notInD (pl r) (.lst (E.map pl)) st = .ok (.bl (!decide (r∈E))) st:=by
 unfold notInD
 show (match inN st depth (pl r) (E.map pl) with | some b=>_ | none=>_)=_
 rw [inN_pl]
theorem dat_dtt {st:Sto} {r:Nat} {f:List Str→D} {ks:List (List Str)} (hr:st[r]?=some (.dtt (dpl f ks))) (g:List Str):dAt st (.res r) (pl g)=some (if g∈ks then some (f g) else none):=by
 unfold dAt
 simp only [hr]
 rw [if_pos (by rw [keyT_pl]; rfl),val_dpl]
theorem way_one (c0 c1 c2 c4:Option D) (f:List Str→List Str) (ks F:List (List Str)) (p:List Str) (w:Str) (g:List Str) (hp:p∈ks) (hfp:(f p).length≤200) (hks:ks.length≤200) (hF:F.length≤200) (st:Sto) (r u:Nat) (hr:st[r]?=some (.dtt (dpl (fun q=>pl (f q)) ks))) (hu:st[u]?=some (.lst (F.map pl))) (hru:r≠u) :
  Bzways_from_1 [c0,c1,c2,some (.res r),c4,some (.res u),some (pl p),some (.str w),some (pl g)] st = .nx [c0,c1,c2,some (.res r),c4,some (.res u),some (pl p),some (.str w),some (pl g)] (if g∈ks then st else (st.set r (.dtt (dpl (fun q=>pl (if q=g then f p++[w] else f q)) (ks++[g])))).set u (.lst ((F++[g]).map pl))):=by
 have e1:notInNd (pl g) (.res r) st = .ok (.bl (!decide (g∈ks))) st:=by
  show notInDd (pl g) (.res r) st=_
  unfold notInDd
  rw [dat_dtt hr g]
  by_cases h:g∈ks <;> simp [h]
 by_cases h:g∈ks
 ·rw [decide_eq_true h] at e1
  rw [if_pos h]
  unfold Bzways_from_1
  simp [e1]
 ·rw [decide_eq_false h] at e1
  rw [if_neg h]
  have e2:dAt st (.res r) (pl p)=some (some (pl (f p))):=by rw [dat_dtt hr p,if_pos hp]
  have hr':r<st.length:=(List.getElem?_eq_some_iff.mp hr).1
  have e3:addD (pl (f p)) (.tup [.str w]) st = .ok (pl (f p++[w])) st:=by
   have:=add_pl (f p) [w] st (small_ge (by simp; omega))
   exact this
  have e4:dPutAt st (.res r) (pl g) (pl (f p++[w]))=some (st.set r (.dtt (dpl (fun q=>pl (if q=g then f p++[w] else f q)) (ks++[g])))):=by
   unfold dPutAt
   simp only [hr]
   rw [if_pos ⟨by rw [keyT_pl]; rfl,by simp only [dpl,List.length_map]; exact Nat.lt_of_le_of_lt hks (by decide)⟩,put_dpl,if_neg h]
   congr 3
   congr 1
   funext q
   by_cases e:q=g <;> simp [e]
  have hu2:(st.set r (.dtt (dpl (fun q=>pl (if q=g then f p++[w] else f q)) (ks++[g]))))[u]?=some (.lst (F.map pl)):=by
   rw [List.getElem?_set_ne hru]; exact hu
  have q1:(1:Nat)≤small:=by decide
  have hFs:(F.map pl).length<small:=by rw [List.length_map]; exact Nat.lt_of_le_of_lt hF (by decide)
  have hFs':F.length<small:=by simpa using hFs
  generalize hst:st.set r (.dtt (dpl (fun q=>pl (if q=g then f p++[w] else f q)) (ks++[g])))=st2 at *
  unfold Bzways_from_1
  simp [e1,z_sPutD,getDd,e2,e3,e4,q1,dAppend,hu2,hFs']
structure WS where
 f:List Str→List Str
 ks:List (List Str)
 F:List (List Str)
noncomputable def WS.add (p:List Str) (s:WS) (x:Str×List Str):WS:=if x.2∈s.ks then s else ⟨fun q=>if q=x.2 then s.f p++[x.1] else s.f q,s.ks++[x.2],s.F++[x.2]⟩
structure WAt (st:Sto) (r u:Nat) (s:WS):Prop where
 d:st[r]?=some (.dtt (dpl (fun q=>pl (s.f q)) s.ks))
 l:st[u]?=some (.lst (s.F.map pl))
theorem WS.add_f {p:List Str} {s:WS} (hp:p∈s.ks) (x:Str×List Str):p∈(s.add p x).ks∧(s.add p x).f p=s.f p:=by
 unfold WS.add
 by_cases h:x.2∈s.ks
 ·rw [if_pos h]; exact ⟨hp,rfl⟩
 ·rw [if_neg h]
  refine ⟨by simp [hp],?_⟩
  have:¬ p=x.2:=fun e=>h (e ▸ hp)
  simp [this]
theorem WS.add_len (p:List Str) (s:WS) (x:Str×List Str):(s.add p x).ks.length≤s.ks.length+1∧(s.add p x).F.length≤s.F.length+1:=by
 unfold WS.add
 by_cases h:x.2∈s.ks
 ·rw [if_pos h]; omega
 ·rw [if_neg h]; simp
theorem way_nexts (c0 c1 c2 c4:Option D) (p:List Str) (r u:Nat) (hru:r≠u) {chk:Sto→Prop} (st0:Sto) (hchk:∀ st,(∀ j,j≠r→j≠u→st[j]?=st0[j]?)→chk st):∀ (xs:List (Str×List Str)) (s:WS) (c7 c8:Option D) (st:Sto),p∈s.ks→(s.f p).length≤200→s.ks.length+xs.length≤200→s.F.length+xs.length≤200→WAt st r u s→(∀ j,j≠r→j≠u→st[j]?=st0[j]?) →
  ∃ c7' c8' st',loopD chk (tgTup [7,8]) Bzways_from_1 (xs.map fun x=>D.tup [.str x.1,pl x.2]) [c0,c1,c2,some (.res r),c4,some (.res u),some (pl p),c7,c8] st = .nx [c0,c1,c2,some (.res r),c4,some (.res u),some (pl p),c7',c8'] st'∧WAt st' r u (xs.foldl (WS.add p) s)∧(∀ j,j≠r→j≠u→st'[j]?=st0[j]?)
 | [],s,c7,c8,st,hp,_,_,_,W,hj=>⟨c7,c8,st,loop_nil (hchk st hj),W,hj⟩
 | x :: xs,s,c7,c8,st,hp,hf,hk,hF,W,hj=>by
  have e:=way_one c0 c1 c2 c4 s.f s.ks s.F p x.1 x.2 hp hf (by simp at hk; omega) (by simp at hF; omega) st r u W.d W.l hru
  obtain ⟨a1,a2⟩:=s.add_f hp x
  obtain ⟨b1,b2⟩:=s.add_len p x
  obtain ⟨st2,hst2⟩:∃ st2,st2=(if x.2∈s.ks then st else (st.set r (.dtt (dpl (fun q=>pl (if q=x.2 then s.f p++[x.1] else s.f q)) (s.ks++[x.2])))).set u (.lst ((s.F++[x.2]).map pl))):=⟨_,rfl⟩
  rw [← hst2] at e
  have hr':r<st.length:=(List.getElem?_eq_some_iff.mp W.d).1
  have hu':u<st.length:=(List.getElem?_eq_some_iff.mp W.l).1
  have W2:WAt st2 r u (s.add p x):=by
   unfold WS.add
   by_cases h:x.2∈s.ks
   ·rw [if_pos h] at hst2 ⊢
    rw [hst2]; exact W
   ·rw [if_neg h] at hst2 ⊢
    rw [hst2]
    constructor
    ·rw [List.getElem?_set_ne (Ne.symm hru),List.getElem?_set_self hr']
    ·rw [List.getElem?_set_self (by simpa using hu')]
  have hj2:∀ j,j≠r→j≠u→st2[j]?=st0[j]?:=fun j h1 h2=>by
   rw [hst2]
   by_cases h:x.2∈s.ks
   ·rw [if_pos h]; exact hj j h1 h2
   ·rw [if_neg h,List.getElem?_set_ne (Ne.symm h2),List.getElem?_set_ne (Ne.symm h1)]; exact hj j h1 h2
  obtain ⟨c7',c8',st',g1,g2,g3⟩:=way_nexts c0 c1 c2 c4 p r u hru st0 hchk xs (s.add p x) (some (.str x.1)) (some (pl x.2)) st2 a1 (by rw [a2]; exact hf) (by simp at hk; omega) (by simp at hF; omega) W2 hj2
  refine ⟨c7',c8',st',?_,g2,g3⟩
  rw [List.map_cons,loop_nx (hchk st hj) (ρ1:=[c0,c1,c2,some (.res r),c4,some (.res u),some (pl p),some (.str x.1),some (pl x.2)]) rfl e]
  exact g1
noncomputable def stepV (ls:List Lk) (p:List Str) (w:Str):List (Str×List Str):=match linkV ls p w with
 | some l=>match goalV l p with
  | some g=>[(w,g)]
  | none=>[]
 | none=>[]
noncomputable def nextV (ls:List Lk) (p:List Str):List (Str×List Str):=(wordsV ls p).flatMap (stepV ls p)
theorem step_V (ls:List Lk) (p:List Str) (w:Str):stepD ls p w=(stepV ls p w).map fun x=>D.tup [.str x.1,pl x.2]:=by
 unfold stepD stepV
 cases linkV ls p w with
 | none=>rfl
 | some l =>
  dsimp only
  cases goalV l p <;> rfl
theorem next_V (ls:List Lk) (p:List Str):nextL ls p (wordsV ls p)=(nextV ls p).map fun x=>D.tup [.str x.1,pl x.2]:=by
 unfold nextL nextV
 rw [List.map_flatMap]
 congr 1
 funext w
 exact step_V ls p w
theorem nextV_len (ls:List Lk) (p:List Str):(nextV ls p).length≤ls.length:=by
 have h:∀ ws:List Str,(ws.flatMap (stepV ls p)).length≤ws.length:=by
  intro ws
  induction ws with
  | nil=>exact Nat.le_refl _
  | cons w ws ih =>
   rw [List.flatMap_cons,List.length_append,List.length_cons]
   have:(stepV ls p w).length≤1:=by
    unfold stepV
    cases linkV ls p w with
    | none=>simp
    | some l =>
     dsimp only
     cases goalV l p <;> simp
   omega
 exact Nat.le_trans (h _) (wordsV_len ls p)
theorem next_at (ls:List Lk) (hl:ls.length≤8) (p:List Str) (hp:p.length≤6) (st:Sto):∃ st',Fznext_places [lksD ls,pl p] st = .ok (.res st.length) st'∧st'[st.length]?=some (.lst ((nextV ls p).map fun x=>D.tup [.str x.1,pl x.2]))∧StoK st st':=by
 have hwl:=wordsV_len ls p
 obtain ⟨a',b',st',e,h,k⟩:=next_loop (chk:=fun _=>True) (fun _=>trivial) ls p hp st.length st (Nat.le_refl _) (wordsV ls p) none none [] (st++[.lst []]) (fun w hw=>by
  obtain ⟨l,h1,_⟩:=wordsV_link hw
  exact ⟨l,h1⟩) (by simp; omega) (at_last _ _) (StoK.app _ _)
 have e1:=words_eq ls hl p (st++[.lst []])
 refine ⟨st',?_,by rw [← next_V]; simpa using h,k⟩
 have ei:∀ st1,itemsOf st1 (.lst ((wordsV ls p).map D.str))=some ((wordsV ls p).map D.str):=fun _=>rfl
 have q:(0:Nat)≤small:=by decide
 unfold Fznext_places gznext_places
 generalize wordsV ls p=ws at *
 simp [e1,ei,e,q]
theorem way_place (ls:List Lk) (hl:ls.length≤8) (c1 c2 c4:Option D) (p:List Str) (hp6:p.length≤6) (r u:Nat) (hru:r≠u) (s:WS) (c7 c8:Option D) (st:Sto) (hp:p∈s.ks) (hf:(s.f p).length≤200) (hk:s.ks.length≤190) (hF:s.F.length≤190) (W:WAt st r u s) :
  ∃ c7' c8' st',Bzways_from_2 [some (lksD ls),c1,c2,some (.res r),c4,some (.res u),some (pl p),c7,c8] st = .nx [some (lksD ls),c1,c2,some (.res r),c4,some (.res u),some (pl p),c7',c8'] st'∧WAt st' r u ((nextV ls p).foldl (WS.add p) s)∧(∀ j x,j≠r→j≠u→st[j]?=some x→st'[j]?=some x):=by
 obtain ⟨st1,e1,h1,k1⟩:=next_at ls hl p hp6 st
 have hr':r<st.length:=(List.getElem?_eq_some_iff.mp W.d).1
 have hu':u<st.length:=(List.getElem?_eq_some_iff.mp W.l).1
 have hn:=nextV_len ls p
 have W1:WAt st1 r u s:=⟨k1.fr r _ W.d,k1.fr u _ W.l⟩
 have hit:∀ st2:Sto,(∀ j,j≠r→j≠u→st2[j]?=st1[j]?)→itemsOf st2 (.res st.length)=some ((nextV ls p).map fun x=>D.tup [.str x.1,pl x.2]):=fun st2 h2=>by
  have:=h2 st.length (by omega) (by omega)
  rw [h1] at this
  simp [itemsOf,seqL,this]
 obtain ⟨c7',c8',st',g1,g2,g3⟩:=way_nexts (some (lksD ls)) c1 c2 c4 p r u hru (chk:=fun st2=>itemsOf st2 (.res st.length)=some ((nextV ls p).map fun x=>D.tup [.str x.1,pl x.2])) st1 hit (nextV ls p) s c7 c8 st1 hp hf (by omega) (by omega) W1 fun _ _ _=>rfl
 refine ⟨c7',c8',st',?_,g2,fun j x h2 h3 h4=>by rw [g3 j h2 h3]; exact k1.fr j x h4⟩
 have i1:=hit st1 fun _ _ _=>rfl
 have hd:dSeq (dCall Fznext_places (dCons (dVar 0) (dCons (dVar 6) dNil))) [some (lksD ls),c1,c2,some (.res r),c4,some (.res u),some (pl p),c7,c8] st = .ok ((nextV ls p).map (fun x=>D.tup [.str x.1,pl x.2]),fun st2=>itemsOf st2 (.res st.length)=some ((nextV ls p).map fun x=>D.tup [.str x.1,pl x.2])) st1:=by
  simp [-List.map_map,e1,i1]
 unfold Bzways_from_2
 rw [z_sFor,hd]
 exact g1
theorem WS.fold_ks {p:List Str}:∀ (xs:List (Str×List Str)) (s:WS) (q:List Str),q∈s.ks→q∈(xs.foldl (WS.add p) s).ks
 | [],_,_,h=>h
 | x :: xs,s,q,h=>by
  rw [List.foldl_cons]
  refine WS.fold_ks xs _ q ?_
  unfold WS.add
  by_cases c:x.2∈s.ks
  ·rw [if_pos c]; exact h
  ·rw [if_neg c]; simp [h]
noncomputable def turnV (ls:List Lk) (ring:List (List Str)) (s:WS):WS:=ring.foldl (fun s p=>(nextV ls p).foldl (WS.add p) s) s
theorem way_ring (ls:List Lk) (hl:ls.length≤8) (c1 c2 c4:Option D) (r u:Nat) (hru:r≠u) (G:WS→Prop) (hG:∀ s,G s→(∀ p∈s.ks,p.length≤6∧(s.f p).length≤200)∧s.ks.length≤190∧s.F.length≤190) (hadd:∀ s p,G s→p∈s.ks→G ((nextV ls p).foldl (WS.add p) s)) {chk:Sto→Prop} (st0:Sto) (hchk:∀ st,(∀ j x,j≠r→j≠u→st0[j]?=some x→st[j]?=some x)→chk st) :
  ∀ (ring:List (List Str)) (s:WS) (c6 c7 c8:Option D) (st:Sto),G s→(∀ p∈ring,p∈s.ks)→WAt st r u s→(∀ j x,j≠r→j≠u→st0[j]?=some x→st[j]?=some x) →
  ∃ c6' c7' c8' st',loopD chk (tgName 6) Bzways_from_2 (ring.map pl) [some (lksD ls),c1,c2,some (.res r),c4,some (.res u),c6,c7,c8] st = .nx [some (lksD ls),c1,c2,some (.res r),c4,some (.res u),c6',c7',c8'] st'∧WAt st' r u (turnV ls ring s)∧G (turnV ls ring s)∧(∀ j x,j≠r→j≠u→st0[j]?=some x→st'[j]?=some x)
 | [],s,c6,c7,c8,st,g,_,W,hj=>⟨c6,c7,c8,st,loop_nil (hchk st hj),W,g,hj⟩
 | p :: ring,s,c6,c7,c8,st,g,hr,W,hj=>by
  have hp:=hr p (List.mem_cons_self ..)
  obtain ⟨b1,b2,b3⟩:=hG s g
  obtain ⟨c7',c8',st1,e1,W1,k1⟩:=way_place ls hl c1 c2 c4 p (b1 p hp).1 r u hru s c7 c8 st hp (b1 p hp).2 b2 b3 W
  obtain ⟨d6,d7,d8,st2,e2,W2,g2,k2⟩:=way_ring ls hl c1 c2 c4 r u hru G hG hadd st0 hchk ring _ (some (pl p)) c7' c8' st1 (hadd s p g hp) (fun q hq=>WS.fold_ks _ s q (hr q (List.mem_cons_of_mem _ hq))) W1 fun j x h1 h2 h3=>k1 j x h1 h2 (hj j x h1 h2 h3)
  refine ⟨d6,d7,d8,st2,?_,W2,g2,k2⟩
  rw [List.map_cons,loop_nx (hchk st hj) (ρ1:=[some (lksD ls),c1,c2,some (.res r),c4,some (.res u),some (pl p),c7,c8]) rfl e1]
  exact e2
theorem way_turn (ls:List Lk) (hl:ls.length≤8) (c1 c2:Option D) (r:Nat) (G:WS→Prop) (hG:∀ s,G s→(∀ p∈s.ks,p.length≤6∧(s.f p).length≤200)∧s.ks.length≤190∧s.F.length≤190) (hadd:∀ s p,G s→p∈s.ks→G ((nextV ls p).foldl (WS.add p) s))
  (f:List Str→List Str) (ks ring:List (List Str)) (dr:D) (c5 c6 c7 c8:Option D) (st:Sto) (hr:st[r]?=some (.dtt (dpl (fun q=>pl (f q)) ks))) (hdr:∀ st':Sto,(∀ j x,j≠r→j≠st.length→st[j]?=some x→st'[j]?=some x)→itemsOf st' dr=some (ring.map pl)) (g:G ⟨f,ks,[]⟩) (hring:∀ p∈ring,p∈ks) :
  ∃ c6' c7' c8' st',(sSeq (sSetF 5 (dLst dNil)) (sSeq (sFor (dSeq (dVar 4)) (tgName 6) Bzways_from_2) (sSet 4 (dVar 5)))) [some (lksD ls),c1,c2,some (.res r),some dr,c5,c6,c7,c8] st = .nx [some (lksD ls),c1,c2,some (.res r),some (.res st.length),some (.res st.length),c6',c7',c8'] st'∧WAt st' r st.length (turnV ls ring ⟨f,ks,[]⟩)∧G (turnV ls ring ⟨f,ks,[]⟩)∧(∀ j x,j≠r→st[j]?=some x→st'[j]?=some x):=by
 have hr':r<st.length:=(List.getElem?_eq_some_iff.mp hr).1
 have q0:(0:Nat)≤small:=by decide
 have app:∀ j x,st[j]?=some x→(st++[S.lst []])[j]?=some x:=fun j x h=>by
  rw [List.getElem?_append_left (List.getElem?_eq_some_iff.mp h).1]; exact h
 have W0:WAt (st++[.lst []]) r st.length ⟨f,ks,[]⟩:=⟨app r _ hr,by simp⟩
 have hch:∀ st':Sto,(∀ j x,j≠r→j≠st.length→(st++[S.lst []])[j]?=some x→st'[j]?=some x)→itemsOf st' dr=some (ring.map pl):=fun st' h=>hdr st' fun j x h1 h2 h3=>h j x h1 h2 (app j x h3)
 obtain ⟨c6',c7',c8',st',e,W,g2,k⟩:=way_ring ls hl c1 c2 (some dr) r st.length (by omega) G hG hadd (chk:=fun st2=>itemsOf st2 dr=some (ring.map pl)) (st++[.lst []]) hch ring ⟨f,ks,[]⟩ c6 c7 c8 (st++[.lst []]) g hring W0 fun j x _ _ h=>h
 refine ⟨c6',c7',c8',st',?_,W,g2,fun j x h1 h2=>k j x h1 (by have:=(List.getElem?_eq_some_iff.mp h2).1; omega) (app j x h2)⟩
 have i1:=hch (st++[.lst []]) fun j x _ _ h=>h
 have s1:sSetF 5 (dLst dNil) [some (lksD ls),c1,c2,some (.res r),some dr,c5,c6,c7,c8] st = .nx [some (lksD ls),c1,c2,some (.res r),some dr,some (.res st.length),c6,c7,c8] (st++[.lst []]):=by
  simp [q0]
 have hd:dSeq (dVar 4) [some (lksD ls),c1,c2,some (.res r),some dr,some (.res st.length),c6,c7,c8] (st++[.lst []]) = .ok (ring.map pl,fun st2=>itemsOf st2 dr=some (ring.map pl)) (st++[.lst []]):=by
  simp [-List.map_map,i1]
 rw [seq_nx s1,seq_nx (by rw [z_sFor,hd]; exact e)]
 rfl
noncomputable def seen (go:Option (List Str)) (ks:List (List Str)):Bool:=match go with
 | some g=>decide (g∈ks)
 | none=>false
noncomputable def waysV (ls:List Lk) (go:Option (List Str)):Nat→List (List Str)→WS→Option WS
 | 0,_,_=>none
 | n+1,ring,s=>if 0<ring.length∧seen go s.ks=false then waysV ls go n (turnV ls ring ⟨s.f,s.ks,[]⟩).F (turnV ls ring ⟨s.f,s.ks,[]⟩) else some s
theorem seen_eq (go:Option (List Str)) {st:Sto} {r:Nat} {f:List Str→List Str} {ks:List (List Str)} (hr:st[r]?=some (.dtt (dpl (fun q=>pl (f q)) ks))):notInNd (optPl go) (.res r) st = .ok (.bl (!seen go ks)) st:=by
 cases go with
 | none =>
  show (match st[r]? with | some (.dtt _)=>Out.ok (D.bl true) st | _ => .bad)=_
  rw [hr]
  rfl
 | some g =>
  show notInDd (pl g) (.res r) st=_
  unfold notInDd
  rw [dat_dtt hr g]
  unfold seen
  by_cases h:g∈ks <;> simp [h]
structure RingAt (st:Sto) (r:Nat) (dr:D) (ring:List (List Str)):Prop where
 it:∀ st':Sto,(∀ j x,j≠r→st[j]?=some x→st'[j]?=some x)→itemsOf st' dr=some (ring.map pl)∧lenD [dr] st' = .ok (.int ring.length) st'
theorem ring_res {st:Sto} {r u:Nat} (hu:u≠r) {ring:List (List Str)} (hl:ring.length≤200) (h:st[u]?=some (.lst (ring.map pl))):RingAt st r (.res u) ring:=⟨fun st' k=>by
 have h2:=k u _ hu h
 refine ⟨by simp [itemsOf,seqL,h2],?_⟩
 simp [lenD,seqL,itemsOf,h2,small_ge (show ring.length≤1000 by omega)]⟩
theorem ways_loop (ls:List Lk) (hl:ls.length≤8) (c1:Option D) (go:Option (List Str)) (r:Nat) (G:WS→Prop) (hG:∀ s,G s→(∀ p∈s.ks,p.length≤6∧(s.f p).length≤200)∧s.ks.length≤190∧s.F.length≤190) (hadd:∀ s p,G s→p∈s.ks→G ((nextV ls p).foldl (WS.add p) s)) (h0:∀ s,G s→G ⟨s.f,s.ks,[]⟩∧∀ p∈s.F,p∈s.ks) :
  ∀ (n:Nat) (ring:List (List Str)) (s s':WS) (dr:D) (c5 c6 c7 c8:Option D) (st:Sto),waysV ls go n ring s=some s'→G s→(∀ p∈ring,p∈s.ks)→st[r]?=some (.dtt (dpl (fun q=>pl (s.f q)) s.ks))→RingAt st r dr ring →
  ∃ c4' c5' c6' c7' c8' st',whileD n (dAnd (dB (dBin gtD (dCall lenD (dCons (dVar 4) dNil)) (dC (.int 0)))) (dB (dBin notInNd (dVar 2) (dVar 3)))) (sSeq (sSetF 5 (dLst dNil)) (sSeq (sFor (dSeq (dVar 4)) (tgName 6) Bzways_from_2) (sSet 4 (dVar 5)))) [some (lksD ls),c1,some (optPl go),some (.res r),some dr,c5,c6,c7,c8] st = .nx [some (lksD ls),c1,some (optPl go),some (.res r),c4',c5',c6',c7',c8'] st'∧st'[r]?=some (.dtt (dpl (fun q=>pl (s'.f q)) s'.ks))∧G s'∧(∀ j x,j≠r→st[j]?=some x→st'[j]?=some x)
 | 0,_,_,_,_,_,_,_,_,_,e,_,_,_,_=>by cases e
 | n+1,ring,s,s',dr,c5,c6,c7,c8,st,e,g,hring,hr,R=>by
  obtain ⟨i1,i2⟩:=R.it st fun _ _ _ h=>h
  have sn:=seen_eq go hr
  have gt:gtD (.int (ring.length:Int)) (.int 0) st = .ok (.bl (decide ((0:Int)<ring.length))) st:=rfl
  unfold waysV at e
  unfold whileD
  by_cases c:0<ring.length∧seen go s.ks=false
  ·rw [if_pos c] at e
   rw [decide_eq_true (by omega)] at gt
   rw [c.2] at sn
   obtain ⟨d6,d7,d8,st1,e1,W1,g1,k1⟩:=way_turn ls hl c1 (some (optPl go)) r G hG hadd s.f s.ks ring dr c5 c6 c7 c8 st hr (fun st' h=>(R.it st' fun j x h1 h2=>h j x h1 (by have:=(List.getElem?_eq_some_iff.mp h2).1; omega) h2).1) (h0 s g).1 hring
   have hr':r<st.length:=(List.getElem?_eq_some_iff.mp hr).1
   obtain ⟨b1,b2,b3⟩:=hG _ g1
   obtain ⟨f4,f5,f6,f7,f8,st2,e2,r2,g2,k2⟩:=ways_loop ls hl c1 go r G hG hadd h0 n _ _ s' (.res st.length) (some (.res st.length)) d6 d7 d8 st1 e g1 (h0 _ g1).2 W1.d (ring_res (by omega) (by omega) W1.l)
   refine ⟨f4,f5,f6,f7,f8,st2,?_,r2,g2,fun j x h1 h2=>k2 j x h1 (k1 j x h1 h2)⟩
   have t:dAnd (dB (dBin gtD (dCall lenD (dCons (dVar 4) dNil)) (dC (.int 0)))) (dB (dBin notInNd (dVar 2) (dVar 3))) [some (lksD ls),c1,some (optPl go),some (.res r),some dr,c5,c6,c7,c8] st = .ok true st:=by
    simp [i2,gt,sn]
   rw [t,z_to_ok,if_pos rfl,e1]
   exact e2
  ·rw [if_neg c] at e
   cases e
   refine ⟨some dr,c5,c6,c7,c8,st,?_,hr,g,fun _ _ _ h=>h⟩
   have t:dAnd (dB (dBin gtD (dCall lenD (dCons (dVar 4) dNil)) (dC (.int 0)))) (dB (dBin notInNd (dVar 2) (dVar 3))) [some (lksD ls),c1,some (optPl go),some (.res r),some dr,c5,c6,c7,c8] st = .ok false st:=by
    by_cases c2:(0:Int)<ring.length
    ·rw [decide_eq_true c2] at gt
     have:seen go s.ks=true:=by
      cases h:seen go s.ks with
      | true=>rfl
      | false=>exact absurd ⟨by omega,h⟩ c
     rw [this] at sn
     simp [i2,gt,sn]
    ·rw [decide_eq_false c2] at gt
     simp [i2,gt]
   rw [t,z_to_ok,if_neg (by simp)]
theorem StoK.of {st st':Sto} (fr:∀ (j:Nat) (x:S),st[j]?=some x→st'[j]?=some x):StoK st st':=⟨fr,by
 by_cases h:st.length=0
 ·omega
 ·have h1:st[st.length - 1]?=some st[st.length - 1]:=List.getElem?_eq_getElem (by omega)
  have:=(List.getElem?_eq_some_iff.mp (fr _ _ h1)).1
  omega⟩
noncomputable def WS0 (start:List Str):WS:=⟨fun _=>[],[start],[]⟩
theorem ways_eq (ls:List Lk) (hl:ls.length≤8) (start:List Str) (go:Option (List Str)) (G:WS→Prop) (hG:∀ s,G s→(∀ p∈s.ks,p.length≤6∧(s.f p).length≤200)∧s.ks.length≤190∧s.F.length≤190) (hadd:∀ s p,G s→p∈s.ks→G ((nextV ls p).foldl (WS.add p) s)) (h0:∀ s,G s→G ⟨s.f,s.ks,[]⟩∧∀ p∈s.F,p∈s.ks) (g0:G (WS0 start)) {s':WS} (hw:waysV ls go 130 [start] (WS0 start)=some s') (st:Sto) :
  ∃ st',Fzways_from [lksD ls,pl start,optPl go] st = .ok (.res st.length) st'∧st'[st.length]?=some (.dtt (dpl (fun q=>pl (s'.f q)) s'.ks))∧G s'∧StoK st st':=by
 obtain ⟨st1,hst1⟩:∃ st1:Sto,st1=st++[.dtt (dpl (fun q=>pl ((WS0 start).f q)) [start])]:=⟨_,rfl⟩
 have hr:st1[st.length]?=some (.dtt (dpl (fun q=>pl ((WS0 start).f q)) (WS0 start).ks)):=by rw [hst1]; simp [WS0]
 have q0:(0:Nat)≤small:=by decide
 have q1:(1:Nat)≤small:=by decide
 have R:RingAt st1 st.length (.lst [pl start]) [start]:=⟨fun st' _=>⟨rfl,rfl⟩⟩
 obtain ⟨c4,c5,c6,c7,c8,st',e,h,g,kf⟩:=ways_loop ls hl (some (pl start)) go st.length G hG hadd h0 130 [start] (WS0 start) s' (.lst [pl start]) none none none none st1 hw g0 (fun p hp=>hp) hr R
 refine ⟨st',?_,h,g,StoK.of fun j x hj=>kf j x (by have:=(List.getElem?_eq_some_iff.mp hj).1; omega) (by rw [hst1,List.getElem?_append_left (List.getElem?_eq_some_iff.mp hj).1]; exact hj)⟩
 have a1:dDispT (dVar 1) (dTup dNil) [some (lksD ls),some (pl start),some (optPl go),none,none,none,none,none,none] st = .ok (.res st.length) st1:=by
  have p1:dPutAt (st++[.dtt []]) (.res st.length) (pl start) (.tup [])=some st1:=by
   unfold dPutAt
   have:(st++[S.dtt []])[st.length]?=some (.dtt []):=by simp
   simp only [this]
   rw [if_pos ⟨by rw [keyT_pl]; rfl,by decide⟩,hst1]
   have e2:=put_dpl (fun _=>D.non) [] start (.tup [])
   have e3:dpl (fun _=>D.non) []=[]:=rfl
   rw [e3] at e2
   rw [e2]
   simp [dpl,WS0]
   rfl
  have p2:(st++[S.dtt []])[st.length]?=some (.dtt []):=by simp
  rw [z_dispT]
  simp [q0,p1,p2]
 have b1:sSet 3 (dDispT (dVar 1) (dTup dNil)) [some (lksD ls),some (pl start),some (optPl go),none,none,none,none,none,none] st = .nx [some (lksD ls),some (pl start),some (optPl go),some (.res st.length),none,none,none,none,none] st1:=by
  simp [a1]
 have b2:sSet 4 (dF (dLst (dCons (dVar 1) dNil))) [some (lksD ls),some (pl start),some (optPl go),some (.res st.length),none,none,none,none,none] st1 = .nx [some (lksD ls),some (pl start),some (optPl go),some (.res st.length),some (.lst [pl start]),none,none,none,none] st1:=by
  simp [q1]
 unfold Fzways_from
 refine run_rt rfl ?_
 unfold gzways_from
 refine (seq_nx b1).trans ((seq_nx b2).trans ((seq_nx e).trans rfl))
noncomputable def allAB:Nat→List (List Str)
 | 0=>[[]]
 | n + 1 => [] :: ((allAB n).map (("a" : Str) :: ·) ++ (allAB n).map (("b" : Str) :: ·))
theorem mem_allAB:∀ (n:Nat) (p:List Str),p.length≤n→(∀ w∈p,abW w)→p∈allAB n
 | 0,[],_,_=>by simp [allAB]
 | 0,_ :: _,h,_=>by simp at h
 | n+1,[],_,_=>by simp [allAB]
 | n+1,w :: p,h,ha=>by
  have ih:=mem_allAB n p (by simpa using h) fun x hx=>ha x (List.mem_cons_of_mem _ hx)
  rcases ha w (List.mem_cons_self ..) with rfl | rfl
  ·simp [allAB,ih]
  ·simp [allAB,ih]
theorem allAB_len:∀ n,(allAB n).length+1=2 ^ (n+1)
 | 0=>rfl
 | n+1=>by
  have ih:=allAB_len n
  simp only [allAB,List.length_cons,List.length_append,List.length_map]
  rw [Nat.pow_succ,← ih]
  omega
theorem nodup_len:∀ (ks l:List (List Str)),ks.Nodup→(∀ x∈ks,x∈l)→ks.length≤l.length
 | [],_,_,_=>Nat.zero_le _
 | k :: ks,l,hn,hs=>by
  rw [List.nodup_cons] at hn
  have hk:=hs k (List.mem_cons_self ..)
  have ih:=nodup_len ks (l.erase k) hn.2 fun x hx=>by
   have hne:x≠k:=fun e=>by subst e; exact hn.1 hx
   exact (List.mem_erase_of_ne hne).mpr (hs x (List.mem_cons_of_mem _ hx))
  rw [List.length_erase_of_mem hk] at ih
  have:0<l.length:=List.length_pos_of_mem hk
  simp only [List.length_cons]
  omega
theorem ab_count {ks:List (List Str)} (hn:ks.Nodup) (h:∀ p∈ks,p.length≤6∧∀ w∈p,abW w):ks.length≤127:=by
 have h1:=nodup_len ks (allAB 6) hn fun p hp=>mem_allAB 6 p (h p hp).1 (h p hp).2
 have h2:=allAB_len 6
 omega
noncomputable def turnN (N:List Str→List (Str×List Str)) (ring:List (List Str)) (s:WS):WS:=ring.foldl (fun s p=>(N p).foldl (WS.add p) s) s
noncomputable def waysN (N:List Str→List (Str×List Str)) (go:Option (List Str)):Nat→List (List Str)→WS→Option WS
 | 0,_,_=>none
 | n+1,ring,s=>if 0<ring.length∧seen go s.ks=false then waysN N go n (turnN N ring ⟨s.f,s.ks,[]⟩).F (turnN N ring ⟨s.f,s.ks,[]⟩) else some s
inductive Wk (N:List Str→List (Str×List Str)) (a:List Str):List Str→List Str→Prop
 | nil:Wk N a [] a
 | snoc {ws p w q}:Wk N a ws p→(w,q)∈N p→Wk N a (ws++[w]) q
theorem Wk.un {N:List Str→List (Str×List Str)} {a ws q:List Str} (h:Wk N a ws q):(ws=[]∧q=a)∨∃ us p w,ws=us++[w]∧Wk N a us p∧(w,q)∈N p:=by
 cases h with
 | nil=>exact .inl ⟨rfl,rfl⟩
 | snoc h1 h2=>exact .inr ⟨_,_,_,rfl,h1,h2⟩
structure Tn (T:List Str→Str→List Str→Prop) (s s1:WS):Prop where
 old:∀ q∈s.ks,q∈s1.ks∧s1.f q=s.f q
 new:∀ q∈s1.ks,q∈s.ks∨(q∈s1.F∧∃ p w,p∈s.ks∧T p w q∧s1.f q=s.f p++[w])
 all:∀ p w q,T p w q→q∈s1.ks
 fr:∀ q∈s1.F,q∈s.F∨(q∈s1.ks∧q ∉ s.ks)
 sub:∀ q∈s.F,q∈s1.F
theorem Tn.nil (s:WS):Tn (fun _ _ _=>False) s s:=⟨fun _ h=>⟨h,rfl⟩,fun _ h => .inl h,fun _ _ _ h=>h.elim,fun _ h => .inl h,fun _ h=>h⟩
theorem Tn.comp {T1 T2 T:List Str→Str→List Str→Prop} {s s1 s2:WS} (x:Tn T1 s s1) (y:Tn T2 s1 s2) (h2:∀ p w q,T2 p w q→p∈s.ks) (hT:∀ p w q,T p w q ↔ (T1 p w q∨T2 p w q)):Tn T s s2:=by
 refine ⟨fun q hq => ?_,fun q hq => ?_,fun p w q h => ?_,fun q hq => ?_,fun q hq=>y.sub q (x.sub q hq)⟩
 ·obtain ⟨a1,a2⟩:=x.old q hq
  obtain ⟨b1,b2⟩:=y.old q a1
  exact ⟨b1,b2.trans a2⟩
 ·rcases y.new q hq with h | ⟨h1,p,w,hp,ht,hf⟩
  ·rcases x.new q h with h | ⟨h1,p,w,hp,ht,hf⟩
   ·exact .inl h
   ·exact .inr ⟨y.sub q h1,p,w,hp,(hT p w q).2 (.inl ht),((y.old q h).2).trans hf⟩
  ·have hps:=h2 p w q ht
   exact .inr ⟨h1,p,w,hps,(hT p w q).2 (.inr ht),by rw [hf,(x.old p hps).2]⟩
 ·rcases (hT p w q).1 h with h | h
  ·exact (y.old q (x.all p w q h)).1
  ·exact y.all p w q h
 ·rcases y.fr q hq with h | ⟨h,h'⟩
  ·rcases x.fr q h with h | ⟨h,h'⟩
   ·exact .inl h
   ·exact .inr ⟨(y.old q h).1,h'⟩
  ·exact .inr ⟨h,fun hs=>h' (x.old q hs).1⟩
theorem Tn.add {p:List Str} {s:WS} (hp:p∈s.ks) (x:Str×List Str):Tn (fun p' w q=>p'=p∧w=x.1∧q=x.2) s (s.add p x):=by
 unfold WS.add
 by_cases h:x.2∈s.ks
 ·rw [if_pos h]
  exact ⟨fun _ h=>⟨h,rfl⟩,fun _ h => .inl h,fun p' w q e=>by rw [e.2.2]; exact h,fun _ h => .inl h,fun _ h=>h⟩
 ·rw [if_neg h]
  refine ⟨fun q hq=>⟨List.mem_append_left _ hq,?_⟩,fun q hq => ?_,fun p' w q e => ?_,fun q hq => ?_,fun q hq=>List.mem_append_left _ hq⟩
  ·have:¬ q=x.2:=fun e=>h (e ▸ hq)
   simp [this]
  ·rcases List.mem_append.mp hq with h1 | h1
   ·exact .inl h1
   ·have e:=List.mem_singleton.mp h1
    refine .inr ⟨List.mem_append_right _ h1,p,x.1,hp,⟨rfl,rfl,e⟩,?_⟩
    simp [e]
  ·rw [e.2.2]; simp
  ·rcases List.mem_append.mp hq with h1 | h1
   ·exact .inl h1
   ·exact .inr ⟨List.mem_append_right _ h1,by rw [List.mem_singleton.mp h1]; exact h⟩
theorem Tn.fold {p:List Str}:∀ (xs:List (Str×List Str)) (s:WS),p∈s.ks→Tn (fun p' w q=>p'=p∧(w,q)∈xs) s (xs.foldl (WS.add p) s)
 | [],s,_=>by
  have:=Tn.nil s
  simpa using this
 | x :: xs,s,hp=>by
  have h1:=Tn.add hp x
  have h2:=Tn.fold xs (s.add p x) (h1.old p hp).1
  rw [List.foldl_cons]
  refine h1.comp h2 (fun p' w q h=>by rw [h.1]; exact hp) fun p' w q => ?_
  rw [List.mem_cons,Prod.ext_iff]
  constructor
  ·rintro ⟨h,h1 | h1⟩
   ·exact .inl ⟨h,h1⟩
   ·exact .inr ⟨h,h1⟩
  ·rintro (⟨h,h1⟩ | ⟨h,h1⟩)
   ·exact ⟨h,.inl h1⟩
   ·exact ⟨h,.inr h1⟩
theorem Tn.turn (N:List Str→List (Str×List Str)):∀ (ring:List (List Str)) (s:WS),(∀ p∈ring,p∈s.ks)→Tn (fun p w q=>p∈ring∧(w,q)∈N p) s (turnN N ring s)
 | [],s,_=>by
  have:=Tn.nil s
  simpa [turnN] using this
 | p :: ring,s,h=>by
  have h1:=Tn.fold (N p) s (h p (List.mem_cons_self ..))
  have h2:=Tn.turn N ring ((N p).foldl (WS.add p) s) fun q hq=>(h1.old q (h q (List.mem_cons_of_mem _ hq))).1
  have e:turnN N (p :: ring) s=turnN N ring ((N p).foldl (WS.add p) s):=rfl
  rw [e]
  refine h1.comp h2 (fun p' w q hq=>h p' (List.mem_cons_of_mem _ hq.1)) fun p' w q => ?_
  rw [List.mem_cons]
  constructor
  ·rintro ⟨h8 | h8,h9⟩
   ·exact .inl ⟨h8,by rw [← h8]; exact h9⟩
   ·exact .inr ⟨h8,h9⟩
  ·rintro (⟨h8,h9⟩ | ⟨h8,h9⟩)
   ·exact ⟨.inl h8,by rw [h8]; exact h9⟩
   ·exact ⟨.inr h8,h9⟩
structure Bf (N:List Str→List (Str×List Str)) (a:List Str) (k:Nat) (ring:List (List Str)) (s:WS):Prop where
 wk:∀ p∈s.ks,Wk N a (s.f p) p∧(s.f p).length≤k
 ks:∀ p∈ring,p∈s.ks∧(s.f p).length=k
 far:∀ ws p,Wk N a ws p→ws.length≤k→p∈s.ks∧(s.f p).length≤ws.length
 rg:∀ p∈s.ks,(s.f p).length=k→p∈ring
theorem Bf.start (N:List Str→List (Str×List Str)) (a:List Str):Bf N a 0 [a] (WS0 a):=by
 have hm:∀ p,p∈(WS0 a).ks ↔ p=a:=fun p=>List.mem_singleton
 refine ⟨fun p hp => ?_,fun p hp=>⟨hp,rfl⟩,fun ws p h hl => ?_,fun p hp _=>hp⟩
 ·rw [(hm p).1 hp]
  exact ⟨Wk.nil,Nat.le_refl _⟩
 ·rcases h.un with ⟨h1,h2⟩ | ⟨us,p',w,h1,_⟩
  ·exact ⟨(hm p).2 h2,Nat.zero_le _⟩
  ·rw [h1] at hl; simp at hl
theorem Bf.turn {N:List Str→List (Str×List Str)} {a:List Str} {k:Nat} {ring:List (List Str)} {s:WS} (b:Bf N a k ring s):Bf N a (k+1) (turnN N ring ⟨s.f,s.ks,[]⟩).F (turnN N ring ⟨s.f,s.ks,[]⟩):=by
 have t:=Tn.turn N ring ⟨s.f,s.ks,[]⟩ fun p hp=>(b.ks p hp).1
 generalize turnN N ring ⟨s.f,s.ks,[]⟩=s1 at t
 have hnew:∀ q∈s1.ks,q ∉ s.ks→Wk N a (s1.f q) q∧(s1.f q).length=k+1∧q∈s1.F:=fun q hq hn=>by
  rcases t.new q hq with h | ⟨h1,p,w,hp,ht,hf⟩
  ·exact absurd h hn
  ·have hk:=(b.ks p ht.1).2
   rw [hf]
   refine ⟨Wk.snoc (b.wk p hp).1 ht.2,?_,h1⟩
   simp [hk]
 have hF:∀ q∈s1.F,q∈s1.ks∧q ∉ s.ks:=fun q hq=>by
  rcases t.fr q hq with h | h
  ·simp at h
  ·exact h
 refine ⟨fun p hp => ?_,fun p hp => ?_,fun ws p h hl => ?_,fun p hp he => ?_⟩
 ·by_cases hs:p∈s.ks
  ·rw [(t.old p hs).2]
   have:=b.wk p hs
   exact ⟨this.1,by have:=this.2; dsimp only; omega⟩
  ·have:=hnew p hp hs
   exact ⟨this.1,by omega⟩
 ·obtain ⟨h1,h2⟩:=hF p hp
  exact ⟨h1,(hnew p h1 h2).2.1⟩
 ·by_cases hk:ws.length≤k
  ·obtain ⟨h1,h2⟩:=b.far ws p h hk
   have:=t.old p h1
   exact ⟨this.1,by rw [this.2]; exact h2⟩
  ·rcases h.un with ⟨h1,h2⟩ | ⟨us,p',w,h1,h2,h3⟩
   ·rw [h1] at hk; simp at hk
   ·have hu:us.length≤k:=by rw [h1] at hl; simp at hl; omega
    obtain ⟨c1,c2⟩:=b.far us p' h2 hu
    by_cases ck:(s.f p').length=k
    ·have hm:=t.all p' w p ⟨b.rg p' c1 ck,h3⟩
     refine ⟨hm,?_⟩
     by_cases hs:p∈s.ks
     ·rw [(t.old p hs).2]
      have:=(b.wk p hs).2
      dsimp only
      omega
     ·have:=(hnew p hm hs).2.1
      omega
    ·have c3:=(b.wk p' c1).2
     obtain ⟨d1,d2⟩:=b.far _ p (Wk.snoc (b.wk p' c1).1 h3) (by simp; omega)
     have:=t.old p d1
     refine ⟨this.1,?_⟩
     rw [this.2]
     simp at d2
     dsimp only
     omega
 ·by_cases hs:p∈s.ks
  ·have h1:=(t.old p hs).2
   rw [h1] at he
   have:=(b.wk p hs).2
   dsimp only at he
   omega
  ·exact (hnew p hp hs).2.2
structure Best (N:List Str→List (Str×List Str)) (a:List Str) (go:Option (List Str)) (s:WS):Prop where
 wk:∀ p∈s.ks,Wk N a (s.f p) p
 best:∀ p∈s.ks,∀ ws,Wk N a ws p→(s.f p).length≤ws.length
 all:(∃ g,go=some g∧g∈s.ks)∨∀ ws p,Wk N a ws p→p∈s.ks
theorem Bf.ways {N:List Str→List (Str×List Str)} {a:List Str} (go:Option (List Str)):∀ (n k:Nat) (ring:List (List Str)) (s s':WS),Bf N a k ring s→waysN N go n ring s=some s'→Best N a go s'
 | 0,_,_,_,_,_,e=>by cases e
 | n+1,k,ring,s,s',b,e=>by
  unfold waysN at e
  by_cases c:0<ring.length∧seen go s.ks=false
  ·rw [if_pos c] at e
   exact Bf.ways go n (k+1) _ _ s' b.turn e
  ·rw [if_neg c] at e
   cases e
   refine ⟨fun p hp=>(b.wk p hp).1,fun p hp ws hw => ?_,?_⟩
   ·by_cases hk:ws.length≤k
    ·exact (b.far ws p hw hk).2
    ·have:=(b.wk p hp).2
     omega
   ·by_cases hs:seen go s.ks=true
    ·left
     cases go with
     | none=>cases hs
     | some g=>exact ⟨g,rfl,by simpa [seen] using hs⟩
    ·right
     have hr:ring=[]:=by
      have h1:seen go s.ks=false:=by simpa using hs
      have:¬ 0<ring.length:=fun h=>c ⟨h,h1⟩
      exact List.length_eq_zero_iff.mp (by omega)
     intro ws p hw
     induction hw with
     | nil=>exact (b.far [] a Wk.nil (Nat.zero_le _)).1
     | snoc h1 h2 ih =>
      rename_i ws p w q
      have h3:=(b.wk p ih).2
      have h4:(s.f p).length≠k:=fun e=>by
       have:=b.rg p ih e
       rw [hr] at this
       cases this
      exact (b.far _ q (Wk.snoc (b.wk p ih).1 h2) (by simp; omega)).1
theorem best_of {N:List Str→List (Str×List Str)} {a:List Str} {go:Option (List Str)} {n:Nat} {s':WS} (e:waysN N go n [a] (WS0 a)=some s'):Best N a go s':=Bf.ways go n 0 [a] (WS0 a) s' (Bf.start N a) e
theorem ledV_ab : ∀ (xs ws us : List Str), (∀ w ∈ ws, abW w) → (∀ x ∈ xs, abW x ∨ x = ".." ∨ x = ".") → ledV ws xs = some us → ∀ w ∈ us, abW w
 | [],ws,us,hw,_,h=>by unfold ledV at h; cases h; exact hw
 | x :: xs,ws,us,hw,hx,h=>by
  have hx' : ∀ y ∈ xs, abW y ∨ y = ".." ∨ y = "." := fun y hy => hx y (List.mem_cons_of_mem _ hy)
  unfold ledV at h
  split at h
  ·split at h
   ·cases h
   ·exact ledV_ab xs _ us (fun w hw'=>hw w (List.dropLast_subset _ hw')) hx' h
  ·rename_i n1
   split at h
   ·exact ledV_ab xs _ us hw hx' h
   ·rename_i n2
    split at h
    ·refine ledV_ab xs _ us (fun w hw' => ?_) hx' h
     rcases List.mem_append.mp hw' with h1 | h1
     ·exact hw w h1
     ·rw [List.mem_singleton.mp h1]
      rcases hx x (List.mem_cons_self ..) with h2 | h2 | h2
      ·exact h2
      ·exact absurd h2 n1
      ·exact absurd h2 n2
    ·cases h
theorem next_ab {ls:List Lk} (hls:∀ l∈ls,Few l) {p:List Str} (h6:p.length≤6) (ha:∀ w∈p,abW w) {x:Str×List Str} (h:x∈nextV ls p):x.2.length≤6∧∀ w∈x.2,abW w:=by
 unfold nextV at h
 obtain ⟨w,_,hw⟩:=List.mem_flatMap.mp h
 unfold stepV at hw
 cases hl:linkV ls p w with
 | none=>rw [hl] at hw; cases hw
 | some l =>
  rw [hl] at hw
  dsimp only at hw
  cases hg:goalV l p with
  | none=>rw [hg] at hw; cases hw
  | some g =>
   rw [hg] at hw
   rw [List.mem_singleton.mp hw]
   have hF:=hls l (linkV_mem hl)
   unfold goalV at hg
   cases hpt:l.pt with
   | way k=>rw [hpt] at hg; cases hg
   | steps xs =>
    rw [hpt] at hg
    exact ⟨ledV_len xs p g h6 hg,ledV_ab xs p g ha (hF.2 xs hpt).2 hg⟩
structure GW (s:WS):Prop where
 nd:s.ks.Nodup
 ab:∀ p∈s.ks,p.length≤6∧∀ w∈p,abW w
 sub:∀ p∈s.F,p∈s.ks
 fn:s.F.Nodup
 ln:∀ p∈s.ks,(s.f p).length<s.ks.length
theorem GW.add {s:WS} (g:GW s) {p:List Str} (hp:p∈s.ks) {x:Str×List Str} (hx:x.2.length≤6∧∀ w∈x.2,abW w):GW (s.add p x):=by
 unfold WS.add
 by_cases h:x.2∈s.ks
 ·rw [if_pos h]; exact g
 ·rw [if_neg h]
  refine ⟨?_,fun q hq => ?_,fun q hq => ?_,?_,fun q hq => ?_⟩
  ·rw [List.nodup_append]
   exact ⟨g.nd,by simp,fun a ha b hb e=>h (by rw [← List.mem_singleton.mp hb,← e]; exact ha)⟩
  ·rcases List.mem_append.mp hq with h1 | h1
   ·exact g.ab q h1
   ·rw [List.mem_singleton.mp h1]; exact hx
  ·rcases List.mem_append.mp hq with h1 | h1
   ·exact List.mem_append_left _ (g.sub q h1)
   ·exact List.mem_append_right _ h1
  ·rw [List.nodup_append]
   exact ⟨g.fn,by simp,fun a ha b hb e=>h (by rw [← List.mem_singleton.mp hb,← e]; exact g.sub a ha)⟩
  ·have hp':=g.ln p hp
   dsimp only
   by_cases c:q=x.2
   ·rw [if_pos c]
    simp only [List.length_append,List.length_cons,List.length_nil]
    omega
   ·rw [if_neg c]
    rcases List.mem_append.mp hq with h1 | h1
    ·have:=g.ln q h1
     simp only [List.length_append,List.length_cons,List.length_nil]
     omega
    ·exact absurd (List.mem_singleton.mp h1) c
theorem GW.fold {p:List Str}:∀ (xs:List (Str×List Str)) {s:WS},GW s→p∈s.ks→(∀ x∈xs,x.2.length≤6∧∀ w∈x.2,abW w)→GW (xs.foldl (WS.add p) s)
 | [],_,g,_,_=>g
 | x :: xs,s,g,hp,h=>GW.fold xs (g.add hp (h x (List.mem_cons_self ..))) (s.add_f hp x).1 fun y hy=>h y (List.mem_cons_of_mem _ hy)
noncomputable def OkN (N:List Str→List (Str×List Str)):Prop:=∀ p:List Str,p.length≤6→(∀ w∈p,abW w)→∀ x∈N p,x.2.length≤6∧∀ w∈x.2,abW w
theorem okN_next {ls:List Lk} (hls:∀ l∈ls,Few l):OkN (nextV ls):=fun _ h6 ha _ hx=>next_ab hls h6 ha hx
theorem GW.nextN {N:List Str→List (Str×List Str)} (hN:OkN N) {s:WS} (g:GW s) {p:List Str} (hp:p∈s.ks):GW ((N p).foldl (WS.add p) s) :=
 GW.fold _ g hp fun x hx=>hN p (g.ab p hp).1 (g.ab p hp).2 x hx
theorem GW.next {ls:List Lk} (hls:∀ l∈ls,Few l) {s:WS} (g:GW s) {p:List Str} (hp:p∈s.ks):GW ((nextV ls p).foldl (WS.add p) s) :=
 GW.fold _ g hp fun _ hx=>next_ab hls (g.ab p hp).1 (g.ab p hp).2 hx
theorem GW.len {s:WS} (g:GW s):s.ks.length≤127∧s.F.length≤127:=⟨ab_count g.nd g.ab,ab_count g.fn fun p hp=>g.ab p (g.sub p hp)⟩
theorem GW.bounds {s:WS} (g:GW s):(∀ p∈s.ks,p.length≤6∧(s.f p).length≤200)∧s.ks.length≤190∧s.F.length≤190:=by
 obtain ⟨h1,h2⟩:=g.len
 exact ⟨fun p hp=>⟨(g.ab p hp).1,by have:=g.ln p hp; omega⟩,by omega,by omega⟩
theorem GW.zero {s:WS} (g:GW s):GW ⟨s.f,s.ks,[]⟩∧∀ p∈s.F,p∈s.ks:=⟨⟨g.nd,g.ab,fun p hp=>by simp at hp,by simp,g.ln⟩,g.sub⟩
theorem GW.start {p:List Str} (h6:p.length≤6) (ha:∀ w∈p,abW w):GW (WS0 p):=⟨by simp [WS0],fun q hq=>by rw [List.mem_singleton.mp hq]; exact ⟨h6,ha⟩,fun q hq=>by simp [WS0] at hq,by simp [WS0],fun q hq=>by simp [WS0]⟩
theorem WS.add_diff (p:List Str) (s:WS) (x:Str×List Str):(s.add p x).ks.length+s.F.length=s.ks.length+(s.add p x).F.length:=by
 unfold WS.add
 by_cases h:x.2∈s.ks
 ·rw [if_pos h]
 ·rw [if_neg h]
  simp only [List.length_append,List.length_cons,List.length_nil]
  omega
theorem WS.fold_diff (p:List Str):∀ (xs:List (Str×List Str)) (s:WS),(xs.foldl (WS.add p) s).ks.length+s.F.length=s.ks.length+(xs.foldl (WS.add p) s).F.length
 | [],_=>rfl
 | x :: xs,s=>by
  have h1:=WS.fold_diff p xs (s.add p x)
  have h2:=WS.add_diff p s x
  rw [List.foldl_cons]
  omega
theorem turn_diff (N:List Str→List (Str×List Str)):∀ (ring:List (List Str)) (s:WS),(turnN N ring s).ks.length+s.F.length=s.ks.length+(turnN N ring s).F.length
 | [],_=>rfl
 | p :: ring,s=>by
  have h1:=turn_diff N ring ((N p).foldl (WS.add p) s)
  have h2:=WS.fold_diff p (N p) s
  have e:turnN N (p :: ring) s=turnN N ring ((N p).foldl (WS.add p) s):=rfl
  rw [e]
  omega
theorem GW.turn {N:List Str→List (Str×List Str)} (hN:OkN N):∀ (ring:List (List Str)) {s:WS},GW s→(∀ p∈ring,p∈s.ks)→GW (turnN N ring s)
 | [],_,g,_=>g
 | p :: ring,s,g,h=>by
  have e:turnN N (p :: ring) s=turnN N ring ((N p).foldl (WS.add p) s):=rfl
  rw [e]
  exact GW.turn hN ring (g.nextN hN (h p (List.mem_cons_self ..))) fun q hq=>WS.fold_ks _ s q (h q (List.mem_cons_of_mem _ hq))
theorem waysN_some {N:List Str→List (Str×List Str)} (hN:OkN N) (go:Option (List Str)):∀ (n:Nat) (ring:List (List Str)) (s:WS),GW s→(∀ p∈ring,p∈s.ks)→1≤n→(ring≠[]→129≤n+s.ks.length)→∃ s',waysN N go n ring s=some s'
 | 0,_,_,_,_,h,_=>absurd h (by decide)
 | n+1,ring,s,g,hr,_,hn=>by
  unfold waysN
  by_cases c:0<ring.length∧seen go s.ks=false
  ·rw [if_pos c]
   have hne:ring≠[]:=fun e=>by rw [e] at c; simp at c
   have h1:=hn hne
   have g0:=g.zero.1
   have gt:=GW.turn hN ring g0 hr
   have hd:=turn_diff N ring ⟨s.f,s.ks,[]⟩
   have hl:=g.len.1
   refine waysN_some hN go n _ _ gt gt.sub (by omega) fun hF => ?_
   have:0<(turnN N ring ⟨s.f,s.ks,[]⟩).F.length:=List.length_pos_iff.mpr hF
   simp only [List.length_nil,Nat.add_zero] at hd
   omega
  ·rw [if_neg c]
   exact ⟨s,rfl⟩
theorem waysN_start {N:List Str→List (Str×List Str)} (hN:OkN N) (start:List Str) (h6:start.length≤6) (ha:∀ w∈start,abW w) (go:Option (List Str)):∃ s',waysN N go 130 [start] (WS0 start)=some s' :=
 waysN_some hN go 130 [start] (WS0 start) (GW.start h6 ha) (fun p hp=>hp) (by decide) fun _=>by simp [WS0]
theorem waysV_N (ls:List Lk) (go:Option (List Str)):∀ (n:Nat) (ring:List (List Str)) (s:WS),waysV ls go n ring s=waysN (nextV ls) go n ring s
 | 0,_,_=>rfl
 | n+1,ring,s=>by
  unfold waysV waysN
  have e:turnV ls ring ⟨s.f,s.ks,[]⟩=turnN (nextV ls) ring ⟨s.f,s.ks,[]⟩:=rfl
  rw [e,waysV_N ls go n]
theorem ways_is {ls:List Lk} (hl:ls.length≤8) (hls:∀ l∈ls,Few l) (start:List Str) (h6:start.length≤6) (ha:∀ w∈start,abW w) (go:Option (List Str)) (st:Sto):∃ s' st',GW s'∧Best (nextV ls) start go s'∧Fzways_from [lksD ls,pl start,optPl go] st = .ok (.res st.length) st'∧st'[st.length]?=some (.dtt (dpl (fun q=>pl (s'.f q)) s'.ks))∧StoK st st':=by
 have g0:=GW.start h6 ha
 obtain ⟨s',hw⟩:=waysN_start (okN_next hls) start h6 ha go
 have hw2:=hw
 rw [← waysV_N] at hw2
 obtain ⟨st',e,h,g,k⟩:=ways_eq ls hl start go GW (fun s g=>g.bounds) (fun s p g hp=>g.next hls hp) (fun s g=>g.zero) g0 hw2 st
 exact ⟨s',st',g,best_of hw,e,h,k⟩
theorem keys_dpl (f:List Str→D) (ks:List (List Str)):(dpl f ks).map (·.1)=ks.map fun p=>D.tup (p.map D.str):=by
 unfold dpl
 rw [List.map_map]
 rfl
structure Rd (N:List Str→List (Str×List Str)) (a:List Str) (E:List (List Str)):Prop where
 mem:∀ p,p∈E ↔ ∃ ws,Wk N a ws p
 nd:E.Nodup
 srt:∃ ks:List (List Str),E=srtL ks∧ks.Nodup
 ab:∀ p∈E,p.length≤6∧∀ w∈p,abW w
 len:E.length≤127
theorem Rd.of {N:List Str→List (Str×List Str)} {a:List Str} {s:WS} (g:GW s) (b:Best N a none s):Rd N a (srtL s.ks):=by
 have hm:∀ p,p∈srtL s.ks ↔ p∈s.ks:=fun p=>(srtL_perm s.ks).mem_iff
 refine ⟨fun p => ?_,(srtL_perm s.ks).nodup_iff.mpr g.nd,⟨s.ks,rfl,g.nd⟩,fun p hp=>g.ab p ((hm p).1 hp),by rw [(srtL_perm s.ks).length_eq]; exact g.len.1⟩
 rw [hm p]
 constructor
 ·exact fun h=>⟨_,b.wk p h⟩
 ·rintro ⟨ws,h⟩
  rcases b.all with ⟨g',e,_⟩ | h2
  ·cases e
  ·exact h2 ws p h
theorem srtF_dpl {s:WS} (g:GW s) {st:Sto} {r:Nat} {f:List Str→D} (h:st[r]?=some (.dtt (dpl f s.ks))):sortTF [.res r] st = .ok ((srtL s.ks).map pl) st:=by
 have hl:=g.len.1
 unfold sortTF
 simp only [h,keys_dpl,plsD_map]
 rw [if_pos ⟨g.nd,by omega⟩]
 rfl
theorem reached_eq {ls:List Lk} (hl:ls.length≤8) (hls:∀ l∈ls,Few l) (start:List Str) (h6:start.length≤6) (ha:∀ w∈start,abW w) (st:Sto):∃ E st',Fzreached [lksD ls,pl start] st = .ok (.lst (E.map pl)) st'∧StoK st st'∧Rd (nextV ls) start E:=by
 obtain ⟨s',st',g,b,e,h,k⟩:=ways_is hl hls start h6 ha none st
 have e2:=srtF_dpl g h
 have e':Fzways_from [lksD ls,pl start,.non] st = .ok (.res st.length) st':=e
 refine ⟨srtL s'.ks,st',?_,k,Rd.of g b⟩
 generalize srtL s'.ks=E at *
 unfold Fzreached gzreached
 simp [-List.map_map,e',e2]
noncomputable def ShO (N:List Str→List (Str×List Str)) (a g:List Str):Option (List Str)→Prop
 | some ws=>Wk N a ws g∧(∀ us,Wk N a us g→ws.length≤us.length)∧ws.length≤127
 | none => ∀ ws,¬ Wk N a ws g
theorem ShO.of {N:List Str→List (Str×List Str)} {a g:List Str} {s:WS} (w:GW s) (b:Best N a (some g) s):ShO N a g (if g∈s.ks then some (s.f g) else none):=by
 by_cases h:g∈s.ks
 ·rw [if_pos h]
  exact ⟨b.wk g h,b.best g h,by have:=w.ln g h; have:=w.len.1; omega⟩
 ·rw [if_neg h]
  intro ws hw
  rcases b.all with ⟨g',e,h2⟩ | h2
  ·cases e; exact h h2
  ·exact h (h2 ws g hw)
theorem shortest_eq {ls:List Lk} (hl:ls.length≤8) (hls:∀ l∈ls,Few l) (start:List Str) (h6:start.length≤6) (ha:∀ w∈start,abW w) (go:List Str) (st:Sto):∃ o st',Fzshortest [lksD ls,pl start,pl go] st = .ok (optPl o) st'∧StoK st st'∧ShO (nextV ls) start go o:=by
 obtain ⟨s',st',g,b,e,h,k⟩:=ways_is hl hls start h6 ha (some go) st
 have e':Fzways_from [lksD ls,pl start,pl go] st = .ok (.res st.length) st':=e
 have e2:=dat_dtt h go
 have e3:isDct st' (.res st.length)=true:=by simp [isDct,h]
 refine ⟨_,st',?_,k,ShO.of g b⟩
 unfold Fzshortest gzshortest
 by_cases c:go∈s'.ks
 ·rw [if_pos c] at e2 ⊢
  simp [z_dGet1,e',e2,e3,optPl]
 ·rw [if_neg c] at e2 ⊢
  simp [z_dGet1,e',e2,e3,optPl]
theorem compD_gr {α:Type} (g:α→D) (p:α→Bool) (h:α→D) {chk:Sto→Prop} {t:TgD} {cond:DT} {fe:DE} (st0:Sto) (IE:Ev→Prop) (hc:∀ st,StoK st0 st→chk st):∀ (xs:List α) (ρ:Ev) (st:Sto) (acc:List D),StoK st0 st→IE ρ→acc.length+xs.length≤small →
  (∀ x∈xs,∀ ρ st,IE ρ→StoK st0 st→∃ ρ1 st1,t (g x) ρ=some ρ1∧IE ρ1∧cond ρ1 st = .ok (p x) st1∧StoK st st1∧(p x=true→∃ st2,fe ρ1 st1 = .ok (h x) st2∧StoK st1 st2))→∃ st',compD chk t cond fe (xs.map g) ρ st acc = .ok (acc++(xs.filter p).map h) st'∧StoK st st'
 | [],ρ,st,acc,k,_,_,_=>⟨st,by simp [compD,hc st k],StoK.refl st⟩
 | x :: xs,ρ,st,acc,k,hI,hl,hx=>by
  obtain ⟨ρ1,st1,e1,h1,e2,k1,e3⟩:=hx x List.mem_cons_self ρ st hI k
  rw [List.map_cons]
  unfold compD
  rw [if_pos ⟨hc st k,by simp at hl; omega⟩,e1]
  dsimp only
  rw [e2]
  cases hp:p x with
  | true =>
   obtain ⟨st2,e4,k2⟩:=e3 hp
   dsimp only
   rw [e4]
   dsimp only
   obtain ⟨st',e5,k5⟩:=compD_gr g p h st0 IE hc xs ρ1 st2 (acc++[h x]) ((k.trans k1).trans k2) h1 (by simp at hl ⊢; omega) fun y hy=>hx y (List.mem_cons_of_mem _ hy)
   refine ⟨st',?_,(k1.trans k2).trans k5⟩
   rw [e5,List.filter_cons_of_pos hp]
   simp
  | false =>
   dsimp only
   obtain ⟨st',e5,k5⟩:=compD_gr g p h st0 IE hc xs ρ1 st1 acc (k.trans k1) h1 (by simp at hl ⊢; omega) fun y hy=>hx y (List.mem_cons_of_mem _ hy)
   refine ⟨st',?_,k1.trans k5⟩
   rw [e5,List.filter_cons_of_neg (by simp [hp])]
theorem wordsV_mem {ls:List Lk} {p:List Str} {w:Str}:w∈wordsV ls p ↔ ∃ l∈ls,undr p l=true∧l.wd=w:=by
 unfold wordsV
 rw [(SO.srtS_perm _).mem_iff,ddS_mem,List.mem_map]
 constructor
 ·rintro ⟨l,h,e⟩
  obtain ⟨h1,h2⟩:=List.mem_filter.mp h
  exact ⟨l,h1,h2,e⟩
 ·rintro ⟨l,h1,h2,e⟩
  exact ⟨l,List.mem_filter.mpr ⟨h1,h2⟩,e⟩
theorem linkV_is {ls:List Lk} {p:List Str} {w:Str} {l:Lk} (h:linkV ls p w=some l):l∈ls∧l.wd=w∧undr p l=true:=by
 have:=List.mem_filter.mp (List.mem_of_mem_head? h)
 refine ⟨this.1,?_⟩
 simpa using this.2
theorem mem_step {ls:List Lk} {p:List Str} {w:Str} {x:Str×List Str}:x∈stepV ls p w ↔ x.1=w∧∃ l,linkV ls p w=some l∧goalV l p=some x.2:=by
 unfold stepV
 cases hl:linkV ls p w with
 | none=>simp
 | some l =>
  dsimp only
  cases hg:goalV l p with
  | none =>
   constructor
   ·intro h; cases h
   ·rintro ⟨_,l',e,h⟩
    cases e
    rw [hg] at h
    cases h
  | some g =>
   rw [List.mem_singleton]
   constructor
   ·rintro rfl
    exact ⟨rfl,l,rfl,hg⟩
   ·rintro ⟨h1,l',e,h⟩
    cases e
    rw [hg] at h
    cases h
    exact Prod.ext h1 rfl
theorem mem_next {ls:List Lk} {p:List Str} {w:Str} {g:List Str}:(w,g)∈nextV ls p ↔ ∃ l,linkV ls p w=some l∧goalV l p=some g:=by
 unfold nextV
 rw [List.mem_flatMap]
 constructor
 ·rintro ⟨w',_,h⟩
  obtain ⟨h1,h2⟩:=mem_step.mp h
  obtain rfl:w=w':=h1
  exact h2
 ·rintro ⟨l,h1,h2⟩
  obtain ⟨a,b,c⟩:=linkV_is h1
  exact ⟨w,wordsV_mem.mpr ⟨l,a,c,b⟩,mem_step.mpr ⟨rfl,l,h1,h2⟩⟩
theorem start_comp (ns:List Int) (hl:ns.length≤63) (st:Sto):∃ p:List Str,p.length≤3∧(∀ w∈p,abW w)∧compD (fun _=>True) (tgName 0) dTrue Ezlaw_1 ((List.range (drawnV ns 100 4).toNat).map (fun (i:Nat)=>D.int (0+i))) [none,some (.scr (ns.map .int))] st [] = .ok (p.map D.str) st:=by
 have r1:=drawn_lo ns 100 4 (by decide)
 have r2:=drawn_hi ns 100 4 (by decide)
 have hch : ∀ i : Nat, ∃ w, ixD (.str "ab") (.int (drawnV ns (101 + (i : Int)) 2)) st = .ok (.str w) st ∧ abW w := fun i => ab_ix _ st (drawn_lo ns (101 + (i : Int)) 2 (by decide)) (drawn_hi ns (101 + (i : Int)) 2 (by decide))
 obtain ⟨f, hf⟩ : ∃ f : Nat → Str, ∀ i : Nat, ixD (.str "ab") (.int (drawnV ns (101 + (i : Int)) 2)) st = .ok (.str (f i)) st ∧ abW (f i) := ⟨fun i => Classical.choose (hch i), fun i => Classical.choose_spec (hch i)⟩
 refine ⟨(List.range (drawnV ns 100 4).toNat).map f,by simp; omega,fun w hw => ?_,?_⟩
 ·obtain ⟨i,_,rfl⟩:=List.mem_map.mp hw
  exact (hf i).2
 ·rw [compD_mm (fun (i:Nat)=>D.int (0+i)) (fun i=>D.str (f i)) (fun ρ => ∃ a,ρ=[a,some (.scr (ns.map .int))]) trivial _ _ _ ⟨_,rfl⟩ (by simp only [List.length_nil,List.length_range,Nat.zero_add]; exact small_ge (by omega))]
  ·rw [List.map_map]; rfl
  ·rintro i _ ρ ⟨a,rfl⟩
   refine ⟨_,rfl,⟨_,rfl⟩,?_⟩
   have e3:=drawn_eq ns hl (101+(i:Int)) 2 (by decide) st
   have e4:=(hf i).1
   unfold Ezlaw_1
   simp [addD_int,e3,e4]
theorem start_tup (ns:List Int) (hl:ns.length≤63) (st:Sto) {ρ:Ev} (hρ:ρ[0]?=some (some (.scr (ns.map .int)))):∃ p:List Str,p.length≤3∧(∀ w∈p,abW w)∧dCall tupleD (dCons (dF (dComp [0] 1 (dRng1 (dCons (dCall Fz_law_drawn (dCons (dVar 0) (dCons (dC (.int 100)) (dCons (dC (.int 4)) dNil)))) dNil)) (tgName 0) dTrue Ezlaw_1)) dNil) ρ st = .ok (pl p) st:=by
 obtain ⟨p,h1,h2,e⟩:=start_comp ns hl st
 have r1:=drawn_lo ns 100 4 (by decide)
 have r2:=drawn_hi ns 100 4 (by decide)
 have g1:rngOk (drawnV ns 100 4)=true:=rngOk_of (by omega) (by omega)
 have d4:=drawn_eq ns hl 100 4 (by decide) st
 have tl:tupleD [.lst (p.map D.str)] st = .ok (pl p) st:=rfl
 simp only [Int.zero_add] at e
 refine ⟨p,h1,h2,?_⟩
 simp [hρ,d4,g1,dRng1,capEv,e,tl]
theorem linkV_take {ms:List Lk} {n:Nat} {p:List Str} {w:Str} {l:Lk} (h:linkV (ms.take n) p w=some l):linkV ms p w=some l:=by
 unfold linkV at h ⊢
 have e:ms=ms.take n++ms.drop n:=(List.take_append_drop n ms).symm
 rw [e,List.filter_append,List.head?_append,h]
 rfl
theorem next_take {ms:List Lk} {n:Nat} {p:List Str} {x:Str×List Str} (h:x∈nextV (ms.take n) p):x∈nextV ms p:=by
 obtain ⟨w,g⟩:=x
 obtain ⟨l,h1,h2⟩:=mem_next.mp h
 exact mem_next.mpr ⟨l,linkV_take h1,h2⟩
theorem Wk.mono {N M:List Str→List (Str×List Str)} (h:∀ p x,x∈N p→x∈M p) {a ws q:List Str} (w:Wk N a ws q):Wk M a ws q:=by
 induction w with
 | nil=>exact Wk.nil
 | snoc _ h2 ih=>exact Wk.snoc ih (h _ _ h2)
theorem cut_lks (ls:List Lk) (n:Nat) (st:Sto):cutT (lksD ls) none (some (n:Int)) st = .ok (lksD (ls.take n)) st:=by
 have:cutT (lksD ls) none (some (n:Int)) st = .ok (.tup (cutL (ls.map lkD) none (some (n:Int)))) st:=rfl
 rw [this,cutL_to,← List.map_take]
 rfl
theorem add_lk (ls:List Lk) (hls:ls.length≤8) (l:Lk) (st:Sto):addD (lksD ls) (.tup [lkD l]) st = .ok (lksD (ls++[l])) st:=by
 have hz:(ls.map lkD).length+[lkD l].length≤small:=small_ge (by simp; omega)
 simp only [lksD,addD,if_pos hz]
 simp
theorem words_far (ls:List Lk) (p:List Str) (l:Lk) (h:undr p l=false):wordsV (ls++[l]) p=wordsV ls p:=by
 unfold wordsV
 rw [List.filter_append,List.filter_cons_of_neg (by simp [h]),List.filter_nil,List.append_nil]
theorem undr_long (p:List Str) (w:Str) (l:Lk) (h:l.wh=p++[w]):undr p l=false:=by
 unfold undr
 rw [h]
 refine decide_eq_false fun e => ?_
 have:=congrArg List.length e
 simp at this
theorem undr_one (p:List Str) (l:Lk) (h:l.wh=p.take 1):undr p l=true:=by
 unfold undr
 rw [h]
 refine decide_eq_true ?_
 cases p <;> simp
theorem srtS_same {a b:List Str} (h:a.Perm b):SO.srtS a=SO.srtS b:=by
 refine List.Perm.eq_of_pairwise (le:=fun a b=>SO.tleB a b=true) (fun a b _ _ h1 h2 => ?_) (SO.srtS_pw a) (SO.srtS_pw b) ((SO.srtS_perm a).trans (h.trans (SO.srtS_perm b).symm))
 simp only [SO.tleB,decide_eq_true_eq] at h1 h2
 exact SO.str_cps (List.le_antisymm h1 h2)
theorem words_more (ls:List Lk) (p:List Str) (l:Lk) (h:undr p l=true) (hw:∀ k∈ls,k.wd≠l.wd):wordsV (ls++[l]) p=SO.srtS (wordsV ls p++[l.wd]):=by
 have hn:l.wd ∉ wordsV ls p:=fun hm=>by
  obtain ⟨k,h1,_,h2⟩:=wordsV_mem.mp hm
  exact hw k h1 h2
 have hnd:(wordsV ls p).Nodup:=by
  unfold wordsV
  exact (SO.srtS_perm _).nodup_iff.mpr (ddS_nodup _)
 refine Eq.trans (b:=SO.srtS (ddS (((ls++[l]).filter (undr p)).map (·.wd)))) rfl ?_
 refine srtS_same ((List.perm_ext_iff_of_nodup (ddS_nodup _) ?_).mpr fun y => ?_)
 ·rw [List.nodup_append]
  exact ⟨hnd,by simp,fun a ha b hb e=>hn (by rw [← List.mem_singleton.mp hb,← e]; exact ha)⟩
 ·rw [ddS_mem,List.filter_append,List.map_append,List.mem_append,List.mem_append,List.filter_cons_of_pos h,List.filter_nil,List.map_singleton]
  have:y∈(ls.filter (undr p)).map (·.wd) ↔ y∈wordsV ls p:=by
   unfold wordsV
   rw [(SO.srtS_perm _).mem_iff,ddS_mem]
  rw [this]
noncomputable def EW (ns:List Int) (ms ls:List Lk) (a:List Str) (c4 c5 c6 c7 c8:Option D):Ev:=[some (.scr (ns.map .int)),some (lksD ms),some (lksD ls),some (pl a),c4,c5,c6,c7,c8]
theorem nice_strs (ws:List Str):nice depth (.lst (ws.map D.str))=true:=by
 have h:∀ ws:List Str,niceL 49 (ws.map D.str)=true:=by
  intro ws
  induction ws with
  | nil=>rfl
  | cons w ws ih =>
   rw [List.map_cons]
   unfold niceL
   rw [ih]
   rfl
 exact h ws
section
variable {ns:List Int} {ms:List Lk} {a:List Str}
theorem q5_eq (hm:ms.length≤5) (p:List Str) (c5 c6 c7 c8:Option D) (st:Sto):Pzlaw_p5 (EW ns ms (ms.take 3) a (some (pl p)) c5 c6 c7 c8) st = .nx (EW ns ms (ms.take 3) a (some (pl p)) (some (.lst ((wordsV (ms.take 3) p).map .str))) c6 c7 c8) st:=by
 have e:=words_eq (ms.take 3) (by rw [List.length_take]; omega) p st
 unfold Pzlaw_p5 EW
 simp [e]
theorem q6_eq (hm:ms.length≤5) (p:List Str) (c6 c7 c8:Option D) (st:Sto):Pzlaw_p6 (EW ns ms (ms.take 3) a (some (pl p)) (some (.lst ((wordsV (ms.take 3) p).map .str))) c6 c7 c8) st = .nx (EW ns ms (ms.take 3) a (some (pl p)) (some (.lst ((wordsV (ms.take 3) p).map .str))) c6 c7 c8) st:=by
 have hl:=wordsV_len (ms.take 3) p
 rw [List.length_take] at hl
 have e:compD (fun _=>True) (tgName 0) Czlaw_1 Ezlaw_2 ((wordsV (ms.take 3) p).map D.str) [none,some (lksD ms),some (pl p),some (lksD (ms.take 3))] st [] = .ok [] st:=by
  rw [compD_fm D.str (fun _=>false) D.str (fun ρ => ∃ x,ρ=[x,some (lksD ms),some (pl p),some (lksD (ms.take 3))]) trivial _ _ [] ⟨_,rfl⟩ (by simp; exact small_ge (by omega))]
  ·simp
  ·rintro w hw ρ ⟨x,rfl⟩
   refine ⟨_,rfl,⟨_,rfl⟩,?_,fun h=>by cases h⟩
   obtain ⟨l,h1,_⟩:=wordsV_link hw
   have e1:=linkat_eq ms p w st
   have e2:=linkat_eq (ms.take 3) p w st
   rw [linkV_take h1] at e1
   rw [h1] at e2
   have e3:=ne_same (nice_optL (some l)) st
   unfold Czlaw_1
   simp [e1,e2,e3]
 have e2:neD (.lst []) (.lst []) st = .ok (.bl false) st:=ne_same rfl st
 have q0:(0:Nat)≤small:=by decide
 have ei:∀ st1,itemsOf st1 (.lst ((wordsV (ms.take 3) p).map D.str))=some ((wordsV (ms.take 3) p).map D.str):=fun _=>rfl
 unfold Pzlaw_p6 EW
 generalize wordsV (ms.take 3) p=ws at *
 simp [-List.map_map,ei,capEv,e,e2,q0]
theorem inN_pr (st:Sto) (x:Str×List Str):∀ xs:List (Str×List Str),inN st depth (D.tup [.str x.1,pl x.2]) (xs.map fun y=>D.tup [.str y.1,pl y.2])=some (decide (x∈xs))
 | []=>by simp [inN]
 | y :: xs=>by
  have hn:∀ z:Str×List Str,nice depth (D.tup [.str z.1,pl z.2])=true:=fun z=>by
   show nice (48+2) _=true
   unfold nice niceL niceL niceL
   rw [show nice (47+2) (pl z.2)=true from nice_pl 47 z.2]
   rfl
  have h1:eqN st depth (D.tup [.str y.1,pl y.2]) (D.tup [.str x.1,pl x.2])=some (decide (y=x)):=by
   rw [eqN_nice st depth _ _ (hn y) (hn x)]
   congr 1
   refine decide_eq_decide.mpr ⟨fun h => ?_,fun h=>by rw [h]⟩
   injection h with h
   injection h with h2 h3
   injection h2 with h2
   injection h3 with h3 _
   exact Prod.ext h2 (pl_inj.mp h3)
  rw [List.map_cons,inN,h1,inN_pr st x xs]
  by_cases h:y=x
  ·subst h
   simp
  ·have h':¬ x=y:=fun z=>h z.symm
   simp [h,h']
theorem q7_eq (hm:ms.length≤5) (p:List Str) (hp:p.length≤6) (c5 c6 c7 c8:Option D) (st:Sto):∃ st',Pzlaw_p7 (EW ns ms (ms.take 3) a (some (pl p)) c5 c6 c7 c8) st = .nx (EW ns ms (ms.take 3) a (some (pl p)) c5 c6 c7 c8) st':=by
 obtain ⟨st1,e1,h1,k1⟩:=next_at (ms.take 3) (by rw [List.length_take]; omega) p hp st
 have hl:=nextV_len (ms.take 3) p
 rw [List.length_take] at hl
 have hit:∀ st2,StoK st1 st2→itemsOf st2 (.res st.length)=some ((nextV (ms.take 3) p).map fun x=>D.tup [.str x.1,pl x.2]):=fun st2 k=>getL (k.fr _ _ h1)
 obtain ⟨st2,e2,k2⟩:=compD_gr (chk:=fun st2=>itemsOf st2 (.res st.length)=some ((nextV (ms.take 3) p).map fun x=>D.tup [.str x.1,pl x.2])) (t:=tgName 0) (cond:=Czlaw_2) (fe:=Ezlaw_3) (fun x:Str×List Str=>D.tup [.str x.1,pl x.2]) (fun _=>false) (fun x=>D.tup [.str x.1,pl x.2]) st1 (fun ρ => ∃ x,ρ=[x,some (lksD ms),some (pl p)]) hit (nextV (ms.take 3) p) [none,some (lksD ms),some (pl p)] st1 [] (StoK.refl _) ⟨_,rfl⟩ (by simp; exact small_ge (by omega)) (by
  rintro x hx ρ st3 ⟨y,rfl⟩ k3
  obtain ⟨st4,e4,h4,k4⟩:=next_at ms (by omega) p hp st3
  refine ⟨_,st4,rfl,⟨_,rfl⟩,?_,k4,fun h=>by cases h⟩
  have e5:notInD (D.tup [.str x.1,pl x.2]) (.res st3.length) st4 = .ok (.bl false) st4:=by
   unfold notInD
   rw [getL h4]
   show (match inN st4 depth (D.tup [.str x.1,pl x.2]) ((nextV ms p).map fun y=>D.tup [.str y.1,pl y.2]) with | some b=>_ | none=>_)=_
   rw [inN_pr,decide_eq_true (next_take hx)]
   rfl
  unfold Czlaw_2
  simp [e4,e5])
 refine ⟨st2,?_⟩
 have e6:neD (.lst []) (.lst []) st2 = .ok (.bl false) st2:=ne_same rfl st2
 have q0:(0:Nat)≤small:=by decide
 have e7:compD (fun st2=>itemsOf st2 (.res st.length)=some ((nextV (ms.take 3) p).map fun x=>D.tup [.str x.1,pl x.2])) (tgName 0) Czlaw_2 Ezlaw_3 ((nextV (ms.take 3) p).map fun x=>D.tup [.str x.1,pl x.2]) [none,some (lksD ms),some (pl p)] st1 [] = .ok [] st2:=by
  rw [e2]; simp
 have i1:=hit st1 (StoK.refl _)
 unfold Pzlaw_p7 EW
 generalize (nextV (ms.take 3) p).map (fun x=>D.tup [.str x.1,pl x.2])=xs at *
 simp [e1,i1,capEv,e7,e6,q0]
theorem q8_eq (hm:ms.length≤5) (p:List Str) (c6 c7 c8:Option D) (st:Sto):Pzlaw_p8 (EW ns ms (ms.take 3) a (some (pl p)) (some (.lst ((wordsV (ms.take 3) p).map .str))) c6 c7 c8) st = .nx (EW ns ms (ms.take 3) a (some (pl p)) (some (.lst ((wordsV (ms.take 3) p).map .str))) c6 c7 c8) st:=by
 have hl:(ms.take 3).length≤3:=by rw [List.length_take]; omega
 generalize hls:ms.take 3=ls at *
 have e:compD (fun _=>True) (tgName 0) Czlaw_3 Ezlaw_4 (ls.map lkD) [none,some (pl p)] st [] = .ok (((ls.filter (undr p)).map (·.wd)).map D.str) st:=by
  rw [compD_fm lkD (undr p) (fun l=>D.str l.wd) (fun ρ => ∃ x,ρ=[x,some (pl p)]) trivial _ _ [] ⟨_,rfl⟩ (by simp; exact small_ge (by omega))]
  ·simp
  ·rintro l hm ρ ⟨x,rfl⟩
   refine ⟨_,rfl,⟨_,rfl⟩,?_,fun _ => ?_⟩
   ·have q0:=lk0 l st
    have q3:=len_pl l.wh st
    have q4:=cut_pl p none (some (l.wh.length:Int)) st
    rw [cutL_to] at q4
    have q5:=eqD_pl (p.take l.wh.length) l.wh st
    unfold Czlaw_3 undr
    simp [q0,q3,q4,q5]
   ·have q1:=lk1 l st
    unfold Ezlaw_4
    simp [q1]
 have hf:((ls.filter (undr p)).map (·.wd)).length≤3:=by
  rw [List.length_map]
  exact Nat.le_trans (List.length_filter_le _ _) hl
 have e2:=setSF_lst ((ls.filter (undr p)).map (·.wd)) (by omega) st
 have hw:SO.srtS (ddS ((ls.filter (undr p)).map (·.wd)))=wordsV ls p:=rfl
 rw [hw] at e2
 have e3:=ne_same (nice_strs (wordsV ls p)) st
 have ei:=items_lks ls
 unfold Pzlaw_p8 EW
 generalize wordsV ls p=ws at *
 generalize (ls.filter (undr p)).map (·.wd)=us at *
 simp [-List.map_map,ei,capEv,e,e2,e3]
theorem q9_eq (hm:ms.length≤5) (p:List Str) (hp:p.length≤6) (c6 c7 c8:Option D) (st:Sto):Pzlaw_p9 (EW ns ms (ms.take 3) a (some (pl p)) (some (.lst ((wordsV (ms.take 3) p).map .str))) c6 c7 c8) st = .nx (EW ns ms (ms.take 3) a (some (pl p)) (some (.lst ((wordsV (ms.take 3) p).map .str))) c6 c7 c8) st:=by
 have hl:(ms.take 3).length≤3:=by rw [List.length_take]; omega
 generalize hls:ms.take 3=ls at *
 have e1 : addD (pl p) (.tup [.str "zz"]) st = .ok (pl (p ++ [("zz" : Str)])) st := add_pl p ["zz"] st (small_ge (by simp; omega))
 have e2 : addD (lksD ls) (.tup [.tup [pl (p ++ [("zz" : Str)]), .str "odd", .str "go", .int 1]]) st = .ok (lksD (ls ++ [⟨p ++ [("zz" : Str)], "odd", true, .way 1⟩])) st := add_lk ls (by omega) ⟨p ++ [("zz" : Str)], "odd", true, .way 1⟩ st
 have e3 := words_eq (ls ++ [⟨p ++ [("zz" : Str)], "odd", true, .way 1⟩]) (by simp; omega) p st
 rw [words_far ls p _ (undr_long p "zz" _ rfl)] at e3
 have e4:=ne_same (nice_strs (wordsV ls p)) st
 have q1:(1:Nat)≤small:=by decide
 have q4:(4:Nat)≤small:=by decide
 unfold Pzlaw_p9 EW
 generalize wordsV ls p=ws at *
 generalize p ++ [("zz" : Str)] = pz at *
 simp [e1,e2,e3,e4,q1,q4]
theorem q10_eq (hm:ms.length≤5) (hw:∀ l∈ms,WdOk l) (p:List Str) (c6 c7 c8:Option D) (st:Sto):Pzlaw_p10 (EW ns ms (ms.take 3) a (some (pl p)) (some (.lst ((wordsV (ms.take 3) p).map .str))) c6 c7 c8) st = .nx (EW ns ms (ms.take 3) a (some (pl p)) (some (.lst ((wordsV (ms.take 3) p).map .str))) c6 c7 c8) st:=by
 have hl:(ms.take 3).length≤3:=by rw [List.length_take]; omega
 have hw' : ∀ k ∈ ms.take 3, k.wd ≠ ("odd" : Str) := fun k hk e => by
  have:=hw k (List.mem_of_mem_take hk)
  unfold WdOk at this
  rw [e] at this
  revert this
  decide
 have hwl:=wordsV_len (ms.take 3) p
 generalize hls:ms.take 3=ls at *
 have e1:=cut_pl p none (some ((1:Nat):Int)) st
 rw [cutL_to] at e1
 have e2 : addD (lksD ls) (.tup [.tup [pl (p.take 1), .str "odd", .str "go", .int 1]]) st = .ok (lksD (ls ++ [⟨p.take 1, "odd", true, .way 1⟩])) st := add_lk ls (by omega) ⟨p.take 1, "odd", true, .way 1⟩ st
 have e3 := words_eq (ls ++ [⟨p.take 1, "odd", true, .way 1⟩]) (by simp; omega) p st
 rw [words_more ls p _ (undr_one p _ rfl) hw'] at e3
 have hnd : (wordsV ls p ++ [("odd" : Str)]).Nodup := by
  rw [List.nodup_append]
  refine ⟨?_,by simp,fun a ha b hb e => ?_⟩
  ·unfold wordsV
   exact (SO.srtS_perm _).nodup_iff.mpr (ddS_nodup _)
  ·rw [List.mem_singleton.mp hb] at e
   obtain ⟨k,h1,_,h2⟩:=wordsV_mem.mp ha
   exact hw' k h1 (h2.trans e)
 have e5 : catL (.lst ((wordsV ls p).map D.str)) (.lst [.str "odd"]) st = .ok ((wordsV ls p ++ [("odd" : Str)]).map D.str) st := by
  have hz:(wordsV ls p).length+1≤small:=small_ge (by omega)
  unfold catL
  simp [ownL,hz]
 have e6 : sortSF [.lst ((wordsV ls p ++ [("odd" : Str)]).map D.str)] st = .ok ((SO.srtS (wordsV ls p ++ [("odd" : Str)])).map D.str) st := by
  unfold sortSF
  have : seqL st (.lst ((wordsV ls p ++ [("odd" : Str)]).map D.str)) = some ((wordsV ls p ++ [("odd" : Str)]).map D.str) := rfl
  simp only [this,strsD_map]
  rw [if_pos ⟨hnd,by simp; omega⟩]
 have e4 := ne_same (nice_strs (SO.srtS (wordsV ls p ++ [("odd" : Str)]))) st
 have q1:(1:Nat)≤small:=by decide
 have q4:(4:Nat)≤small:=by decide
 have e1':cutT (pl p) none (some 1) st = .ok (pl (p.take 1)) st:=e1
 unfold Pzlaw_p10 EW
 generalize p.take 1=pt at *
 generalize SO.srtS (wordsV ls p ++ [("odd" : Str)]) = us at *
 generalize wordsV ls p ++ [("odd" : Str)] = vs at *
 generalize wordsV ls p=ws at *
 simp [-List.map_map,e1',e2,e3,e4,e5,e6,q1,q4]
end
section
variable {ns:List Int} {ms:List Lk} {a:List Str}
theorem body_eq (hm:ms.length≤5) (hw:∀ l∈ms,WdOk l) (p:List Str) (hp:p.length≤6) (c5 c6 c7 c8:Option D) (st:Sto):∃ d5 st',Bzlaw_1 (EW ns ms (ms.take 3) a (some (pl p)) c5 c6 c7 c8) st = .nx (EW ns ms (ms.take 3) a (some (pl p)) d5 c6 c7 c8) st':=by
 obtain ⟨st1,e7⟩:=q7_eq (ns:=ns) (a:=a) hm p hp (some (.lst ((wordsV (ms.take 3) p).map .str))) c6 c7 c8 st
 refine ⟨some (.lst ((wordsV (ms.take 3) p).map .str)),st1,?_⟩
 unfold Bzlaw_1
 rw [seq_nx (q5_eq hm p c5 c6 c7 c8 st),seq_nx (q6_eq hm p c6 c7 c8 st),seq_nx e7,seq_nx (q8_eq hm p c6 c7 c8 st1),seq_nx (q9_eq hm p hp c6 c7 c8 st1)]
 exact q10_eq hm hw p c6 c7 c8 st1
theorem body_loop {chk:Sto→Prop} (hchk:∀ st,chk st) (hm:ms.length≤5) (hw:∀ l∈ms,WdOk l) (c6 c7 c8:Option D):∀ (ps:List (List Str)) (c4 c5:Option D) (st:Sto),(∀ p∈ps,p.length≤6)→∃ d4 d5 st',loopD chk (tgName 4) Bzlaw_1 (ps.map pl) (EW ns ms (ms.take 3) a c4 c5 c6 c7 c8) st = .nx (EW ns ms (ms.take 3) a d4 d5 c6 c7 c8) st'
 | [],c4,c5,st,_=>⟨c4,c5,st,loop_nil (hchk st)⟩
 | p :: ps,c4,c5,st,h=>by
  obtain ⟨d5,st1,e⟩:=body_eq (ns:=ns) (a:=a) hm hw p (h p (List.mem_cons_self ..)) c5 c6 c7 c8 st
  obtain ⟨f4,f5,st',e'⟩:=body_loop hchk hm hw c6 c7 c8 ps (some (pl p)) d5 st1 fun q hq=>h q (List.mem_cons_of_mem _ hq)
  refine ⟨f4,f5,st',?_⟩
  rw [List.map_cons,loop_nx (hchk st) (ρ1:=EW ns ms (ms.take 3) a (some (pl p)) c5 c6 c7 c8) rfl e]
  exact e'
theorem q4_eq (hm:ms.length≤5) (hw:∀ l∈ms,WdOk l) (ha:a.length≤3) (st:Sto):∃ d4 d5 st',Pzlaw_p4 (EW ns ms (ms.take 3) a none none none none none) st = .nx (EW ns ms (ms.take 3) a d4 d5 none none none) st':=by
 obtain ⟨d4, d5, st', e⟩ := body_loop (ns := ns) (a := a) (chk := fun _ => True) (fun _ => trivial) hm hw none none none [a, a.take 1, ["b", "a"]] none none st (by
  intro p hp
  simp only [List.mem_cons,List.not_mem_nil,or_false] at hp
  rcases hp with rfl | rfl | rfl
  ·omega
  ·rw [List.length_take]; omega
  ·decide)
 refine ⟨d4,d5,st',?_⟩
 have e1:=cut_pl a none (some ((1:Nat):Int)) st
 rw [cutL_to] at e1
 have e1':cutT (pl a) none (some 1) st = .ok (pl (a.take 1)) st:=e1
 have q2:(2:Nat)≤small:=by decide
 have q3:(3:Nat)≤small:=by decide
 have hd : dSeq (dTup (dCons (dVar 3) (dCons (dSl cutT (dVar 3) dNoPart (dPart (dC (.int 1)))) (dCons (dTup (dCons (dC (.str "b")) (dCons (dC (.str "a")) dNil))) dNil)))) (EW ns ms (ms.take 3) a none none none none none) st = .ok ([pl a, pl (a.take 1), pl ["b", "a"]], fun _ => True) st := by
  unfold EW
  have i1 : ∀ st2, itemsOf st2 (.tup [pl a, pl (a.take 1), .tup [.str "b", .str "a"]]) = some [pl a, pl (a.take 1), .tup [.str "b", .str "a"]] := fun _ => rfl
  simp [e1',q2,q3,i1]
  rfl
 unfold Pzlaw_p4
 rw [z_sFor,hd]
 exact e
theorem q13_eq {E F:List (List Str)} (hE:E.length≤127) (h:∀ p∈E,p∈F) (c4 c5 c8:Option D) (st:Sto):Pzlaw_p13 (EW ns ms (ms.take 3) a c4 c5 (some (.lst (E.map pl))) (some (.lst (F.map pl))) c8) st = .nx (EW ns ms (ms.take 3) a c4 c5 (some (.lst (E.map pl))) (some (.lst (F.map pl))) c8) st:=by
 have e:compD (fun _=>True) (tgName 0) Czlaw_4 Ezlaw_5 (E.map pl) [none,some (.lst (F.map pl))] st [] = .ok [] st:=by
  rw [compD_fm pl (fun _=>false) pl (fun ρ => ∃ x,ρ=[x,some (.lst (F.map pl))]) trivial _ _ [] ⟨_,rfl⟩ (by simp; exact small_ge (by omega))]
  ·simp
  ·rintro p hp ρ ⟨x,rfl⟩
   refine ⟨_,rfl,⟨_,rfl⟩,?_,fun h=>by cases h⟩
   have e1:=notIn_pls (st:=st) p F
   rw [decide_eq_true (h p hp)] at e1
   unfold Czlaw_4
   simp [-List.map_map,e1]
 have e2:neD (.lst []) (.lst []) st = .ok (.bl false) st:=ne_same rfl st
 have q0:(0:Nat)≤small:=by decide
 have ei:∀ st1,itemsOf st1 (.lst (E.map pl))=some (E.map pl):=fun _=>rfl
 unfold Pzlaw_p13 EW
 generalize E.map pl=xs at *
 generalize F.map pl=ys at *
 simp [ei,capEv,e,e2,q0]
theorem q14_eq (hl:ns.length≤63) {E:List (List Str)} (hE:E.length≤127) (h0:E≠[]) (c4 c5 c7 c8:Option D) (st:Sto):∃ g∈E,Pzlaw_p14 (EW ns ms (ms.take 3) a c4 c5 (some (.lst (E.map pl))) c7 c8) st = .nx (EW ns ms (ms.take 3) a c4 c5 (some (.lst (E.map pl))) c7 (some (pl g))) st:=by
 have hpos:=List.length_pos_iff.mpr h0
 have hk:(0:Int)<(E.length:Int):=by omega
 have d1:=drawn_eq ns hl 110 (E.length:Int) hk st
 obtain ⟨d,hd,x1⟩:=ix_any (xs:=E.map pl) (drawn_lo ns 110 (E.length:Int) hk) (by rw [List.length_map]; exact drawn_hi ns 110 (E.length:Int) hk) st
 obtain ⟨g,hg,rfl⟩:=List.mem_map.mp hd
 refine ⟨g,hg,?_⟩
 have e1:=len_lst (E.map pl) st
 rw [List.length_map] at e1
 unfold Pzlaw_p14 EW
 generalize E.map pl=xs at *
 simp [e1,d1,x1]
end
theorem law_true (ns:List Int) (hl:ns.length≤63):∃ st,Fzlaw [.scr (ns.map .int)] [] = .ok (.bl true) st:=by
 have hg:∃ st,gzlaw [some (.scr (ns.map .int)),none,none,none,none,none,none,none,none] [] = .rt (.bl true) st:=by
  unfold gzlaw
  obtain ⟨ms,e1,hm,hF,hW⟩:=few_eq ns hl 0 []
  refine seq_go (ρ':=[some (.scr (ns.map .int)),some (lksD ms),none,none,none,none,none,none,none]) (st':=[]) (by unfold Pzlaw_p1; simp [e1]) ?_
  have e2:=cut_lks ms 3 []
  have e2':cutT (lksD ms) none (some 3) [] = .ok (lksD (ms.take 3)) []:=e2
  refine seq_go (ρ':=[some (.scr (ns.map .int)),some (lksD ms),some (lksD (ms.take 3)),none,none,none,none,none,none]) (st':=[]) (by unfold Pzlaw_p2; simp [e2']) ?_
  obtain ⟨a,ha3,hab,e3⟩:=start_tup ns hl [] (ρ:=[some (.scr (ns.map .int)),some (lksD ms),some (lksD (ms.take 3)),none,none,none,none,none,none]) rfl
  refine seq_go (ρ':=EW ns ms (ms.take 3) a none none none none none) (st':=[]) (by unfold Pzlaw_p3 EW; simp only [z_sSet,e3]; rfl) ?_
  obtain ⟨d4,d5,st1,e4⟩:=q4_eq (ns:=ns) hm hW ha3 []
  refine seq_go e4 ?_
  have hFl:∀ l∈ms.take 3,Few l:=fun l hl=>hF l (List.mem_of_mem_take hl)
  have hl3:(ms.take 3).length≤8:=by rw [List.length_take]; omega
  obtain ⟨E,st2,e5,k5,rE⟩:=reached_eq hl3 hFl a (by omega) hab st1
  refine seq_go (ρ':=EW ns ms (ms.take 3) a d4 d5 (some (.lst (E.map pl))) none none) (st':=st2) (by unfold Pzlaw_p11 EW; simp [-List.map_map,e5]) ?_
  obtain ⟨F,st3,e6,k6,rF⟩:=reached_eq (ls:=ms) (by omega) hF a (by omega) hab st2
  refine seq_go (ρ':=EW ns ms (ms.take 3) a d4 d5 (some (.lst (E.map pl))) (some (.lst (F.map pl))) none) (st':=st3) (by unfold Pzlaw_p12 EW; simp [-List.map_map,e6]) ?_
  have mono:∀ ws p,Wk (nextV (ms.take 3)) a ws p→Wk (nextV ms) a ws p:=fun ws p w=>w.mono fun p x hx=>next_take hx
  refine seq_go (q13_eq rE.len (fun p hp=>by
   obtain ⟨ws,w⟩:=(rE.mem p).1 hp
   exact (rF.mem p).2 ⟨ws,mono ws p w⟩) d4 d5 none st3) ?_
  have h0:E≠[]:=fun e=>by
   have:=(rE.mem a).2 ⟨[],Wk.nil⟩
   rw [e] at this
   cases this
  obtain ⟨g,hgE,e7⟩:=q14_eq (ns:=ns) (ms:=ms) (a:=a) hl rE.len h0 d4 d5 (some (.lst (F.map pl))) none st3
  refine seq_go e7 ?_
  obtain ⟨ws,w⟩:=(rE.mem g).1 hgE
  obtain ⟨o1,st4,e8,k8,s1⟩:=shortest_eq (ls:=ms) (by omega) hF a (by omega) hab g st3
  obtain ⟨o2,st5,e9,k9,s2⟩:=shortest_eq hl3 hFl a (by omega) hab g st4
  cases o1 with
  | none=>exact absurd (mono ws g w) (s1 ws)
  | some w1 =>
  cases o2 with
  | none=>exact absurd w (s2 ws)
  | some w2 =>
  have hle:w1.length≤w2.length:=s1.2.1 w2 (mono w2 g s2.1)
  have l1:=len_pl w1 st4
  have l2:=len_pl w2 st5
  have e8':Fzshortest [lksD ms,pl a,pl g] st3 = .ok (pl w1) st4:=e8
  have e9':Fzshortest [lksD (ms.take 3),pl a,pl g] st4 = .ok (pl w2) st5:=e9
  have hi:((w1.length:Int)≤(w2.length:Int)):=by omega
  refine ⟨st5,?_⟩
  unfold Pzlaw_p15 EW
  generalize E.map pl=xs at *
  generalize F.map pl=ys at *
  simp [e8',e9',l1,l2,leX,hi]
 obtain ⟨st,e⟩:=hg
 exact ⟨st,by unfold Fzlaw; simp [e]⟩
end K54
end
section
set_option maxHeartbeats 2000000
namespace K54
open PySem L2 DL
theorem all_mk {l : PySem.W.OpenLaw} {w : World} {K : PySem.W.Frag} {h : Heap} {mg : Str → Option Value} {fa f0 f1 f2 f3 f4 f5 f6 f7 f8 f9 f10 f11 f12 f13  : Addr} (X : K.In h) (G : h.Ns mainGlobals mg) (hfa : mg "law" = some (.ref fa))
  {od0 an0:Option Addr} {sl0:Array (Option Value)} {oc0 kV0 dc0 pm0 cd0 ct0:Value}
  {od1 an1:Option Addr} {sl1:Array (Option Value)} {oc1 kV1 dc1 pm1 cd1 ct1:Value}
  {od2 an2:Option Addr} {sl2:Array (Option Value)} {oc2 kV2 dc2 pm2 cd2 ct2:Value}
  {od3 an3:Option Addr} {sl3:Array (Option Value)} {oc3 kV3 dc3 pm3 cd3 ct3:Value}
  {od4 an4:Option Addr} {sl4:Array (Option Value)} {oc4 kV4 dc4 pm4 cd4 ct4:Value}
  {od5 an5:Option Addr} {sl5:Array (Option Value)} {oc5 kV5 dc5 pm5 cd5 ct5:Value}
  {od6 an6:Option Addr} {sl6:Array (Option Value)} {oc6 kV6 dc6 pm6 cd6 ct6:Value}
  {od7 an7:Option Addr} {sl7:Array (Option Value)} {oc7 kV7 dc7 pm7 cd7 ct7:Value}
  {od8 an8:Option Addr} {sl8:Array (Option Value)} {oc8 kV8 dc8 pm8 cd8 ct8:Value}
  {od9 an9:Option Addr} {sl9:Array (Option Value)} {oc9 kV9 dc9 pm9 cd9 ct9:Value}
  {od10 an10:Option Addr} {sl10:Array (Option Value)} {oc10 kV10 dc10 pm10 cd10 ct10:Value}
  {od11 an11:Option Addr} {sl11:Array (Option Value)} {oc11 kV11 dc11 pm11 cd11 ct11:Value}
  {od12 an12:Option Addr} {sl12:Array (Option Value)} {oc12 kV12 dc12 pm12 cd12 ct12:Value}
  {od13 an13:Option Addr} {sl13:Array (Option Value)} {oc13 kV13 dc13 pm13 cd13 ct13:Value}
  (a0 : PySem.W.nsIn K mainGlobals "_law_cell" = some (some (.ref f0))) (l0 : K.lookup f0 = some ⟨oc0, od0, .func (PySem.W.fnOf "_law_cell" "_law_cell" (defArgs sz_law_cell) (defBody sz_law_cell) (defScope sz_law_cell) .none kV0 dc0 pm0 an0 cd0 ct0), sl0⟩) (c0 : PySem.W.codeIn K cd0 "_law_cell" = true) (k0 : PySem.W.keepIn K (.ref f0) = true)
  (a1 : PySem.W.nsIn K mainGlobals "_law_drawn" = some (some (.ref f1))) (l1 : K.lookup f1 = some ⟨oc1, od1, .func (PySem.W.fnOf "_law_drawn" "_law_drawn" (defArgs sz_law_drawn) (defBody sz_law_drawn) (defScope sz_law_drawn) .none kV1 dc1 pm1 an1 cd1 ct1), sl1⟩) (c1 : PySem.W.codeIn K cd1 "_law_drawn" = true) (k1 : PySem.W.keepIn K (.ref f1) = true)
  (a2 : PySem.W.nsIn K mainGlobals "_law_few" = some (some (.ref f2))) (l2 : K.lookup f2 = some ⟨oc2, od2, .func (PySem.W.fnOf "_law_few" "_law_few" (defArgs sz_law_few) (defBody sz_law_few) (defScope sz_law_few) .none kV2 dc2 pm2 an2 cd2 ct2), sl2⟩) (c2 : PySem.W.codeIn K cd2 "_law_few" = true) (k2 : PySem.W.keepIn K (.ref f2) = true)
  (a3 : PySem.W.nsIn K mainGlobals "is_under" = some (some (.ref f3))) (l3 : K.lookup f3 = some ⟨oc3, od3, .func (PySem.W.fnOf "is_under" "is_under" (defArgs szis_under) (defBody szis_under) (defScope szis_under) .none kV3 dc3 pm3 an3 cd3 ct3), sl3⟩) (c3 : PySem.W.codeIn K cd3 "is_under" = true) (k3 : PySem.W.keepIn K (.ref f3) = true)
  (a4 : PySem.W.nsIn K mainGlobals "words_at" = some (some (.ref f4))) (l4 : K.lookup f4 = some ⟨oc4, od4, .func (PySem.W.fnOf "words_at" "words_at" (defArgs szwords_at) (defBody szwords_at) (defScope szwords_at) .none kV4 dc4 pm4 an4 cd4 ct4), sl4⟩) (c4 : PySem.W.codeIn K cd4 "words_at" = true) (k4 : PySem.W.keepIn K (.ref f4) = true)
  (a5 : PySem.W.nsIn K mainGlobals "link_at" = some (some (.ref f5))) (l5 : K.lookup f5 = some ⟨oc5, od5, .func (PySem.W.fnOf "link_at" "link_at" (defArgs szlink_at) (defBody szlink_at) (defScope szlink_at) .none kV5 dc5 pm5 an5 cd5 ct5), sl5⟩) (c5 : PySem.W.codeIn K cd5 "link_at" = true) (k5 : PySem.W.keepIn K (.ref f5) = true)
  (a6 : PySem.W.nsIn K mainGlobals "is_too_long" = some (some (.ref f6))) (l6 : K.lookup f6 = some ⟨oc6, od6, .func (PySem.W.fnOf "is_too_long" "is_too_long" (defArgs szis_too_long) (defBody szis_too_long) (defScope szis_too_long) .none kV6 dc6 pm6 an6 cd6 ct6), sl6⟩) (c6 : PySem.W.codeIn K cd6 "is_too_long" = true) (k6 : PySem.W.keepIn K (.ref f6) = true)
  (a7 : PySem.W.nsIn K mainGlobals "led" = some (some (.ref f7))) (l7 : K.lookup f7 = some ⟨oc7, od7, .func (PySem.W.fnOf "led" "led" (defArgs szled) (defBody szled) (defScope szled) .none kV7 dc7 pm7 an7 cd7 ct7), sl7⟩) (c7 : PySem.W.codeIn K cd7 "led" = true) (k7 : PySem.W.keepIn K (.ref f7) = true)
  (a8 : PySem.W.nsIn K mainGlobals "goal_of" = some (some (.ref f8))) (l8 : K.lookup f8 = some ⟨oc8, od8, .func (PySem.W.fnOf "goal_of" "goal_of" (defArgs szgoal_of) (defBody szgoal_of) (defScope szgoal_of) .none kV8 dc8 pm8 an8 cd8 ct8), sl8⟩) (c8 : PySem.W.codeIn K cd8 "goal_of" = true) (k8 : PySem.W.keepIn K (.ref f8) = true)
  (a9 : PySem.W.nsIn K mainGlobals "next_places" = some (some (.ref f9))) (l9 : K.lookup f9 = some ⟨oc9, od9, .func (PySem.W.fnOf "next_places" "next_places" (defArgs sznext_places) (defBody sznext_places) (defScope sznext_places) .none kV9 dc9 pm9 an9 cd9 ct9), sl9⟩) (c9 : PySem.W.codeIn K cd9 "next_places" = true) (k9 : PySem.W.keepIn K (.ref f9) = true)
  (a10 : PySem.W.nsIn K mainGlobals "ways_from" = some (some (.ref f10))) (l10 : K.lookup f10 = some ⟨oc10, od10, .func (PySem.W.fnOf "ways_from" "ways_from" (defArgs szways_from) (defBody szways_from) (defScope szways_from) .none kV10 dc10 pm10 an10 cd10 ct10), sl10⟩) (c10 : PySem.W.codeIn K cd10 "ways_from" = true) (k10 : PySem.W.keepIn K (.ref f10) = true)
  (a11 : PySem.W.nsIn K mainGlobals "reached" = some (some (.ref f11))) (l11 : K.lookup f11 = some ⟨oc11, od11, .func (PySem.W.fnOf "reached" "reached" (defArgs szreached) (defBody szreached) (defScope szreached) .none kV11 dc11 pm11 an11 cd11 ct11), sl11⟩) (c11 : PySem.W.codeIn K cd11 "reached" = true) (k11 : PySem.W.keepIn K (.ref f11) = true)
  (a12 : PySem.W.nsIn K mainGlobals "shortest" = some (some (.ref f12))) (l12 : K.lookup f12 = some ⟨oc12, od12, .func (PySem.W.fnOf "shortest" "shortest" (defArgs szshortest) (defBody szshortest) (defScope szshortest) .none kV12 dc12 pm12 an12 cd12 ct12), sl12⟩) (c12 : PySem.W.codeIn K cd12 "shortest" = true) (k12 : PySem.W.keepIn K (.ref f12) = true)
  (a13 : PySem.W.nsIn K mainGlobals "law" = some (some (.ref f13))) (l13 : K.lookup f13 = some ⟨oc13, od13, .func (PySem.W.fnOf "law" "law" (defArgs szlaw) (defBody szlaw) (defScope szlaw) .none kV13 dc13 pm13 an13 cd13 ct13), sl13⟩) (c13 : PySem.W.codeIn K cd13 "law" = true) (k13 : PySem.W.keepIn K (.ref f13) = true)
  (z_int : PySem.W.nsIn K mainGlobals "int" = some none)    (z_len : PySem.W.nsIn K mainGlobals "len" = some none)    (z_list : PySem.W.nsIn K mainGlobals "list" = some none)    (z_range : PySem.W.nsIn K mainGlobals "range" = some none)    (z_set : PySem.W.nsIn K mainGlobals "set" = some none)    (z_sorted : PySem.W.nsIn K mainGlobals "sorted" = some none)    (z_tuple : PySem.W.nsIn K mainGlobals "tuple" = some none)    {t_MOST_WORDS : Tok} (v_MOST_WORDS : PySem.W.nsIn K mainGlobals "MOST_WORDS" = some (some (.int 6 t_MOST_WORDS))) :
  ∃ fd : FuncData, (∀ (s : Shared) (v : Value), BindsTo s fd ⟨[v], []⟩ [("_law_script", v)]) ∧ ∀ base : Heap, K.In base → base.Ns mainGlobals mg → FnOk l.prog w K mg base CX0 7 fa fd ["_law_script"] (spD K Fzlaw) := by
 have e:=hfa.symm.trans (PySem.W.mg_of X G a13)
 cases e
 have b_int:=PySem.W.mg_none_of X G z_int
 have b_len:=PySem.W.mg_none_of X G z_len
 have b_list:=PySem.W.mg_none_of X G z_list
 have b_range:=PySem.W.mg_none_of X G z_range
 have b_set:=PySem.W.mg_none_of X G z_set
 have b_sorted:=PySem.W.mg_none_of X G z_sorted
 have b_tuple:=PySem.W.mg_none_of X G z_tuple
 have c_MOST_WORDS:=PySem.W.mg_of X G v_MOST_WORDS
 have F0:=fun_mk (st:=sz_law_cell) l0 c0 k0
 have b0 := F0.binds (ps := ["_law_script", "_law_k"]) fun _ _ _ _ _ _ => by refine us2 ?_; intros; rfl
 have m0:=PySem.W.mg_of X G a0
 have F1:=fun_mk (st:=sz_law_drawn) l1 c1 k1
 have b1 := F1.binds (ps := ["_law_script", "_law_k", "_law_many"]) fun _ _ _ _ _ _ => by refine us3 ?_; intros; rfl
 have m1:=PySem.W.mg_of X G a1
 have F2:=fun_mk (st:=sz_law_few) l2 c2 k2
 have b2 := F2.binds (ps := ["_law_script", "_law_at"]) fun _ _ _ _ _ _ => by refine us2 ?_; intros; rfl
 have m2:=PySem.W.mg_of X G a2
 have F3:=fun_mk (st:=szis_under) l3 c3 k3
 have b3 := F3.binds (ps := ["place", "other"]) fun _ _ _ _ _ _ => by refine us2 ?_; intros; rfl
 have m3:=PySem.W.mg_of X G a3
 have F4:=fun_mk (st:=szwords_at) l4 c4 k4
 have b4 := F4.binds (ps := ["links", "place"]) fun _ _ _ _ _ _ => by refine us2 ?_; intros; rfl
 have m4:=PySem.W.mg_of X G a4
 have F5:=fun_mk (st:=szlink_at) l5 c5 k5
 have b5 := F5.binds (ps := ["links", "place", "word"]) fun _ _ _ _ _ _ => by refine us3 ?_; intros; rfl
 have m5:=PySem.W.mg_of X G a5
 have F6:=fun_mk (st:=szis_too_long) l6 c6 k6
 have b6 := F6.binds (ps := ["words"]) fun _ _ _ _ _ _ => by refine us1 ?_; intros; rfl
 have m6:=PySem.W.mg_of X G a6
 have F7:=fun_mk (st:=szled) l7 c7 k7
 have b7 := F7.binds (ps := ["place", "steps"]) fun _ _ _ _ _ _ => by refine us2 ?_; intros; rfl
 have m7:=PySem.W.mg_of X G a7
 have F8:=fun_mk (st:=szgoal_of) l8 c8 k8
 have b8 := F8.binds (ps := ["link", "place"]) fun _ _ _ _ _ _ => by refine us2 ?_; intros; rfl
 have m8:=PySem.W.mg_of X G a8
 have F9:=fun_mk (st:=sznext_places) l9 c9 k9
 have b9 := F9.binds (ps := ["links", "place"]) fun _ _ _ _ _ _ => by refine us2 ?_; intros; rfl
 have m9:=PySem.W.mg_of X G a9
 have F10:=fun_mk (st:=szways_from) l10 c10 k10
 have b10 := F10.binds (ps := ["links", "start", "goal"]) fun _ _ _ _ _ _ => by refine us3 ?_; intros; rfl
 have m10:=PySem.W.mg_of X G a10
 have F11:=fun_mk (st:=szreached) l11 c11 k11
 have b11 := F11.binds (ps := ["links", "start"]) fun _ _ _ _ _ _ => by refine us2 ?_; intros; rfl
 have m11:=PySem.W.mg_of X G a11
 have F12:=fun_mk (st:=szshortest) l12 c12 k12
 have b12 := F12.binds (ps := ["links", "start", "goal"]) fun _ _ _ _ _ _ => by refine us3 ?_; intros; rfl
 have m12:=PySem.W.mg_of X G a12
 have F13:=fun_mk (st:=szlaw) l13 c13 k13
 have b13 := F13.binds (ps := ["_law_script"]) fun _ _ _ _ _ _ => by refine us1 ?_; intros; rfl
 have m13:=PySem.W.mg_of X G a13
 refine ⟨PySem.W.fnOf "law" "law" (defArgs szlaw) (defBody szlaw) (defScope szlaw) .none kV13 dc13 pm13 an13 cd13 ct13, fun s v => .of_eq rfl, fun base _ _ => ?_⟩
 have h0 : FnAt l.prog w K mg base "_law_cell" 1 Fz_law_cell := okz_law_cell F0 m0 b0 b_len
 have h1 : FnAt l.prog w K mg base "_law_drawn" 2 Fz_law_drawn := okz_law_drawn F1 m1 b1    h0
 have h2 : FnAt l.prog w K mg base "_law_few" 3 Fz_law_few := okz_law_few F2 m2 b2 b_int b_len b_range b_tuple   h1
 have h3 : FnAt l.prog w K mg base "is_under" 1 Fzis_under := okzis_under F3 m3 b3 b_len
 have h4 : FnAt l.prog w K mg base "words_at" 2 Fzwords_at := okzwords_at F4 m4 b4 b_set b_sorted   h3
 have h5 : FnAt l.prog w K mg base "link_at" 2 Fzlink_at := okzlink_at F5 m5 b5    h3
 have h6 : FnAt l.prog w K mg base "is_too_long" 1 Fzis_too_long := okzis_too_long F6 m6 b6 b_len c_MOST_WORDS
 have h7 : FnAt l.prog w K mg base "led" 2 Fzled := okzled F7 m7 b7 b_len b_list b_tuple   h6
 have h8 : FnAt l.prog w K mg base "goal_of" 3 Fzgoal_of := okzgoal_of F8 m8 b8    h7
 have h9 : FnAt l.prog w K mg base "next_places" 4 Fznext_places := okznext_places F9 m9 b9    h8 h5 h4
 have h10 : FnAt l.prog w K mg base "ways_from" 5 Fzways_from := okzways_from F10 m10 b10 b_len   h9
 have h11 : FnAt l.prog w K mg base "reached" 6 Fzreached := okzreached F11 m11 b11 b_sorted   h10
 have h12 : FnAt l.prog w K mg base "shortest" 6 Fzshortest := okzshortest F12 m12 b12    h10
 exact (okzlaw F13 b_len b_range b_set b_sorted b_tuple   h1 h2 h5 h9 h11 h12 h4)
theorem walk {l:PySem.W.OpenLaw} {q:Program} {loose:List Str} {XP:(Str→Option Value)→Heap→Prop} {YP:World→Heap→Prop} {d:DefRec} {K:Params→PySem.W.Frag} (hn:l.most=some 63) (hdf:d.params.defaults=[])
  (hY:∀ (w:World) (h:Heap),YP w h→(K w.params).In h)
  (F:∀ (w:World) (mg:Str→Option Value) (fa:Addr) (h:Heap),(K w.params).In h→h.Ns mainGlobals mg→mg d.name=some (.ref fa) →
   ∃ fd : FuncData, (∀ (s : Shared) (u : Value), BindsTo s fd ⟨[u], []⟩ [("_law_script", u)]) ∧ ∀ base : Heap, (K w.params).In base → base.Ns mainGlobals mg → FnOk l.prog w (K w.params) mg base CX0 7 fa fd ["_law_script"] (spD (K w.params) Fzlaw)) :
  PySem.W.WalkO q loose XP YP l.row.toRowW d [] (fun f vs=>PySem.call f vs) :=
 L2.walk_of (n := 63) (k := 7) (x := "_law_script") (CX := fun _ => CX0) (sp := fun w => spD (K w.params) Fzlaw) hn (by decide) hdf ⟨rfl, by decide, by decide⟩ hY F (fun _ H a ns hl ho hS => DL.law_sp law_true H a ns hl ho hS) fun _ _ _ _ _ z => z
end K54
noncomputable def PySem.W.Fast.tw8726500145642417389:Nat:=0
noncomputable def PySem.W.Fast.tw15042883488752021643:Nat:=0
noncomputable def PySem.W.Fast.tw446995266069924076:Nat:=0
noncomputable def PySem.W.Fast.tw861502493610598483:Nat:=0
noncomputable def PySem.W.Fast.tw10905678247803878392:Nat:=0
noncomputable def PySem.W.Fast.tw13622603851894308203:Nat:=0
noncomputable def PySem.W.Fast.tw17351735930882485243:Nat:=0
noncomputable def PySem.W.Fast.tw15617008699501574997:Nat:=0
noncomputable def PySem.W.Fast.tw13347621489011750686:Nat:=0
noncomputable def PySem.W.Fast.tw7774113678449685934:Nat:=0
noncomputable def PySem.W.Fast.tw13642291275916009656:Nat:=0
noncomputable def PySem.W.Fast.tw8997383693586321770:Nat:=0
open PySem PySem.W PyProof.Rows
set_option maxHeartbeats 0
open_top hd for PySem.Challenge.rw_cardplaces_k54_whole_more_links
theorem PySem.Challenge.cw_cardplaces_k54_whole_more_links_holds : PySem.Challenge.rw_cardplaces_k54_whole_more_links.Holds := by
 refine hd ?_
 k_fill
 refine K54.walk (l:=PySem.Challenge.rw_cardplaces_k54_whole_more_links) rfl rfl (fun w h Y=>PySem.W.kIn_of Y) ?F
 case F =>
  intro w mg fa h KX G hmg
  refine' K54.all_mk KX G hmg ?a0 ?l0 ?c0 ?k0 ?a1 ?l1 ?c1 ?k1 ?a2 ?l2 ?c2 ?k2 ?a3 ?l3 ?c3 ?k3 ?a4 ?l4 ?c4 ?k4 ?a5 ?l5 ?c5 ?k5 ?a6 ?l6 ?c6 ?k6 ?a7 ?l7 ?c7 ?k7 ?a8 ?l8 ?c8 ?k8 ?a9 ?l9 ?c9 ?k9 ?a10 ?l10 ?c10 ?k10 ?a11 ?l11 ?c11 ?k11 ?a12 ?l12 ?c12 ?k12 ?a13 ?l13 ?c13 ?k13 ?z_int ?z_len ?z_list ?z_range ?z_set ?z_sorted ?z_tuple ?v_MOST_WORDS
  (case a0=>k_is)
  (case l0=>k_is)
  (case c0=>k_is)
  (case k0=>k_is)
  (case a1=>k_is)
  (case l1=>k_is)
  (case c1=>k_is)
  (case k1=>k_is)
  (case a2=>k_is)
  (case l2=>k_is)
  (case c2=>k_is)
  (case k2=>k_is)
  (case a3=>k_is)
  (case l3=>k_is)
  (case c3=>k_is)
  (case k3=>k_is)
  (case a4=>k_is)
  (case l4=>k_is)
  (case c4=>k_is)
  (case k4=>k_is)
  (case a5=>k_is)
  (case l5=>k_is)
  (case c5=>k_is)
  (case k5=>k_is)
  (case a6=>k_is)
  (case l6=>k_is)
  (case c6=>k_is)
  (case k6=>k_is)
  (case a7=>k_is)
  (case l7=>k_is)
  (case c7=>k_is)
  (case k7=>k_is)
  (case a8=>k_is)
  (case l8=>k_is)
  (case c8=>k_is)
  (case k8=>k_is)
  (case a9=>k_is)
  (case l9=>k_is)
  (case c9=>k_is)
  (case k9=>k_is)
  (case a10=>k_is)
  (case l10=>k_is)
  (case c10=>k_is)
  (case k10=>k_is)
  (case a11=>k_is)
  (case l11=>k_is)
  (case c11=>k_is)
  (case k11=>k_is)
  (case a12=>k_is)
  (case l12=>k_is)
  (case c12=>k_is)
  (case k12=>k_is)
  (case a13=>k_is)
  (case l13=>k_is)
  (case c13=>k_is)
  (case k13=>k_is)
  (case z_int=>k_is)
  (case z_len=>k_is)
  (case z_list=>k_is)
  (case z_range=>k_is)
  (case z_set=>k_is)
  (case z_sorted=>k_is)
  (case z_tuple=>k_is)
  (case v_MOST_WORDS=>k_is)
end
