import PyProof.Rows.All
import Wide.All
import OpenK.AllK
import Wide.FinOn
import Lean
import PyProof.EqAt
import PyProof.EqKinds
import PyProof.TupleCall
import PyProof.NeKinds
import PyProof.CompFree
import PyProof.CompUse
import PyProof.ZipIter
import PyProof.StrWalks
import PyProof.ListRange
import PyProof.ListMulRoad
import KE.KMinBuiltin
import PyProof.Rows.CallKw2
import KE.KSortTup
import PyProof.StrCalls2
import PyProof.StrLawsChain
import PyProof.StrLawsTight
import PyProof.Rows.StrItems
import KE.KxAffix
import KE.KRevSl
import PyProof.Rows.SetFrom
import PyProof.FactsAll.set_1
import PyProof.FactsAll.set_2
import PyProof.CollectWalk
import PyProof.AttrMissHeap
import KE.KDictOf
import PyProof.Rows.TupMore
import KE.KRevIter
import PyProof.Cells
import PyProof.StrBlock
import PyProof.PureStr
import PyProof.CallStr
import PyProof.AutoIntOps
import PySem.Challenge.RW_cardplaces_k53_whole_ways
set_option maxHeartbeats 0
set_option Elab.async false
set_option linter.all false
set_option maxRecDepth 100000
abbrev P1:=PySem.Shared
abbrev P3:=PySem.W.Frag
abbrev P4:=PySem.Around
abbrev P5:=PySem.Program
abbrev P6:=PySem.FuncData
abbrev P7:=PySem.Value
abbrev Ya:=@PySem.wpAny_bind
abbrev Yb:=@PySem.wpAny_pure
abbrev Yc:=@List.getElem?_eq_some_iff
abbrev Yd:=@PyProof.Rows.wpS_bind
abbrev Ye:=@PySem.Heap.get?_push_of_some
abbrev Yf:=@PyProof.Rows.wpS_pure
abbrev Yg:=@if_pos
abbrev Yh:=@if_neg
abbrev Yi:=@Nat.le_refl
abbrev Yj:=@List.getElem?_eq_getElem
abbrev Yk:=@List.getD_eq_getElem?_getD
abbrev Yl:=@List.mem_cons_of_mem
abbrev Ym:=@PySem.Heap.lt_size
abbrev Yn:=@List.mem_cons
abbrev Yo:=@Array.length_toList
abbrev Yp:=@Array.getElem?_eq_getElem
abbrev Yq:=@PySem.Heap.get?_push_size
abbrev Yr:=@List.length_map
abbrev Ys:=@List.mem_singleton
abbrev Yt:=@List.mem_cons_self
abbrev Yu:=@List.size_toArray
abbrev Yv:=@decide_eq_true
abbrev Yw:=@PySem.wpAny_ite_split
abbrev Yx:=@Nat.ne_of_lt
abbrev Yy:=@List.length_append
abbrev Yz:=@Nat.lt_of_lt_of_le
abbrev YA:=@decide_eq_false
abbrev YB:=@List.length_cons
abbrev YC:=@List.getElem?_set_ne
abbrev YD:=@List.getElem?_append_left
abbrev YE:=@Option.some.injEq
abbrev YF:=@List.map_cons
abbrev YG:=@Array.getElem?_toList
abbrev YH:=@PySem.Heap.SameBut.update
abbrev YI:=@Nat.le_trans
abbrev YJ:=@List.mem_append
abbrev YK:=@List.mem_append_right
abbrev YL:=@PySem.Heap.get?_update_self
abbrev YM:=@PySem.wpAny_holding
abbrev YN:=@Array.toList_append
abbrev YO:=@List.getElem?_map
abbrev YQ:=@Bool.false_eq_true
abbrev YR:=@PySem.F.called_set
abbrev YS:=@List.not_mem_nil
abbrev YT:=@List.getElem?_set_self
abbrev YU:=@PySem.wpAny_call_entry
abbrev YV:=@Nat.zero_le
abbrev YW:=@PySem.wpAny_mono
abbrev YX:=@PySem.wpAny_setState_of
abbrev YY:=@PySem.boot_len
abbrev YZ:=@List.getElem?_append_right
abbrev Y0:=@PyProof.Rows.wpS_forRange
abbrev Y1:=@List.length_take
abbrev Y2:=@Bool.and_eq_true
abbrev Y3:=@PySem.wpAny_newObj_type
abbrev Y4:=@List.pairwise_append
abbrev Y5:=@PySem.Obj.data_mapFields
abbrev Y6:=@PyProof.Rows.F.plain_set_update_loop
abbrev Y7:=@Ne.symm
abbrev Y8:=@Nat.lt_irrefl
abbrev Y9:=@List.mem_map
abbrev Wa:=@List.pairwise_iff_getElem
abbrev Wd:=@PySem.sizeLine_eq
abbrev Wf:=@List.mem_filter
abbrev Wg:=@PySem.wpAny_rule
abbrev Wh:=@List.take_append_drop
abbrev Wi:=@List.append_assoc
abbrev Wj:=@PyProof.Rows.slot_tuple_getitem
abbrev Wl:=@PySem.wpAny_callSpecial?_slot
abbrev Wm:=@List.length_eq_zero_iff
abbrev Wn:=@List.mem_append_left
abbrev Wo:=@List.append_nil
abbrev Wp:=@PySem.wpAny_Call_Name_kw
abbrev Wq:=@Int.toNat_natCast
abbrev Wr:=@decide_eq_true_eq
abbrev Ws:=@List.length_range
abbrev Wt:=@PySem.F.slot_dict_keyiterator_next
abbrev Wu:=@dif_pos
abbrev Wv:=@Nat.zero_add
abbrev Ww:=@PyProof.Rows.callWith_type1
abbrev Wx:=@List.mem_of_getElem?
abbrev Wz:=@if_false
abbrev WA:=@List.length_drop
abbrev WB:=@PyProof.Rows.wpS_modify
abbrev WC:=@Array.getElem?_eq_some_iff
abbrev WD:=@List.mem_range
abbrev WE:=@List.filterMap_cons
abbrev WG:=@PyProof.Rows.wpS_mono
abbrev WH:=@List.length_nil
abbrev WI:=@Classical.byContradiction
abbrev WJ:=@List.all_eq_true
abbrev WK:=@PyProof.Rows.F.entry_set_update_loop
abbrev WL:=@or_false
abbrev WM:=@PySem.Heap.size_push
abbrev WN:=@PySem.wpAny_setField
abbrev WO:=@PySem.Around.under_plainId
abbrev WQ:=@List.drop_sublist
abbrev WT:=@List.length_set
abbrev WU:=@PySem.codeAny_builtin
abbrev WV:=@PySem.PassesOwn.never
abbrev WX:=@List.perm_ext_iff_of_nodup
abbrev WY:=@decide_eq_decide
abbrev WZ:=@List.mem_iff_getElem?
abbrev W6:=@PySem.Obj.isFreed_of_fields
abbrev W7:=@List.nodup_cons
abbrev W8:=@PyProof.Rows.callWith_builtin1
abbrev W9:=@Array.toList_extract
abbrev Qa:=@List.mem_iff_getElem
abbrev Qb:=@if_true
abbrev Qc:=@of_decide_eq_true
abbrev Qd:=@Array.toList_push
abbrev Qe:=@PySem.wpAny_typeNameOfWhole_keyiter
abbrev Qf:=@beq_eq_false_iff_ne
abbrev Qg:=@Nat.lt_succ_self
abbrev Qh:=@List.take_of_length_le
abbrev Qi:=@PySem.W.mg_of
abbrev Qj:=@PySem.wpAny_typeOf
abbrev Qk:=@Nat.zero_max
abbrev Ql:=@List.map_map
abbrev Qm:=@PySem.putSet_of
abbrev Qn:=@Int.emod_lt_of_pos
abbrev Qo:=@Nat.lt_of_le_of_lt
abbrev Qp:=@PySem.wpAny_passesOwn
abbrev Qq:=@Option.map_some
abbrev Qr:=@PyProof.Rows.wpS_get
abbrev Qs:=@PySem.wpAny_dictEpoch
abbrev Qt:=@PySem.wpAny_isOneOf_keyiter
abbrev Qu:=@PySem.F.slot_tuple_lt
abbrev Qv:=@PySem.F.slot_tuple_iterator_next
abbrev Qw:=@PySem.wpAny_truthy_bool
abbrev Qx:=@List.take_sublist
abbrev Qy:=@List.nodup_append
abbrev Qz:=@List.reverse_perm
abbrev QA:=@PySem.wpAny_storeSet_of
abbrev QB:=@Array.toList_reverse
abbrev QC:=@List.getElem_inj
abbrev QD:=@Nat.ne_of_gt
abbrev QE:=@PySem.codeAny_mono
abbrev QF:=@List.any_eq_true
abbrev QG:=@List.mem_reverse
abbrev QH:=@List.getElem_mem
abbrev QI:=@PySem.wpAny_forIn_list
abbrev QJ:=@PySem.mem_of_lookup
abbrev QK:=@List.getElem_of_mem
abbrev QL:=@List.length_pos_iff
abbrev QM:=@List.getElem?_replicate
abbrev QN:=@Bool.false_ne_true
abbrev QO:=@List.mem_filterMap
abbrev QP:=@PySem.Calls.spliced_cons
abbrev QQ:=@List.find?_cons
abbrev QR:=@Int.emod_nonneg
abbrev QS:=@PySem.W.mg_none_of
abbrev QT:=@Nat.le_succ
abbrev QU:=@PySem.Heap.get?_update_other
abbrev QV:=@Option.map_eq_some_iff
abbrev QW:=@Array.getElem?_eq_none
abbrev QX:=@PySem.Calls.spliced_nil
abbrev QY:=@PySem.Obj.cls_mapFields
abbrev QZ:=@PySem.fits_of_scanBound
abbrev Q0:=@Nat.lt_succ_of_lt
abbrev Q1:=@Classical.choose_spec
abbrev Q2:=@List.nodup_nil
abbrev Q3:=@List.lookup_cons
abbrev Q4:=@List.ext_getElem
abbrev Q5:=@PySem.wpAny_isInstance
abbrev Q6:=@List.any_cons
abbrev Q7:=@Array.toList_setIfInBounds
abbrev Q8:=@PySem.wpAny_field
abbrev Q9:=@List.map_congr_left
abbrev Va:=@List.foldl_cons
abbrev Vb:=@List.Perm.of_eq
abbrev Vc:=@PySem.Calls.call_function_entry
abbrev Vd:=@PySem.wpAny_pyIter_tuple
abbrev Ve:=@PySem.W.callWith_K
abbrev Vf:=@PySem.F.args_tuple_add_2
abbrev Vg:=@PySem.tupleKind_room_in1
abbrev Vh:=@PySem.F.args_dict_keyiterator_next_1
abbrev Vi:=@PyProof.Rows.boot_sorted
abbrev Vj:=@beq_iff_eq
abbrev Vk:=@List.take_zero
abbrev Vl:=@List.drop_zero
abbrev Vm:=@PySem.F.entry_dict_keyiterator_next
abbrev Vn:=@PySem.F.entry_tuple_add
abbrev Vo:=@List.getElem?_cons_zero
abbrev Vp:=@List.getElem?_cons_succ
abbrev Vq:=@decide_eq_false_iff_not
abbrev Vr:=@PyProof.Rows.boot_tuple
abbrev Vs:=@PySem.wpAny_pyIter_list
abbrev Vt:=@List.pairwise_map
abbrev Vu:=@PySem.wpAny_dictEntries
abbrev Vv:=@PySem.F.slot_tuple_add
abbrev Vw:=@PySem.Calls.callWith_builtin
abbrev Vx:=@List.drop_eq_nil_of_le
abbrev Vy:=@List.pairwise_lt_range
abbrev Vz:=@List.not_lt
abbrev VA:=@List.findIdx?_eq_some_iff_getElem
abbrev VB:=@PySem.wpAny_attempt
abbrev VC:=@PySem.plainId_quiet
abbrev VD:=@List.take_length
abbrev VE:=@PyProof.Rows.wpS_lift
abbrev VF:=@List.take_succ_eq_append_getElem
abbrev VG:=@Nat.max_eq_right
abbrev VH:=@List.filter_cons
abbrev VI:=@List.le_antisymm
abbrev VJ:=@PySem.W.methodCall_KW
abbrev VL:=@List.length_replicate
abbrev VM:=@List.perm_append_comm
abbrev VN:=@List.pairwise_reverse
abbrev VO:=@PySem.F.slot_dict_get
abbrev VP:=@List.getElem?_eq_none
abbrev VQ:=@Array.mem_of_getElem?
abbrev VR:=@PyProof.Rows.boot_set
abbrev VS:=@List.length_filter_le
abbrev VT:=@Nat.le_of_lt
abbrev VU:=@PySem.wpAny_execs_nil
abbrev VV:=@List.length_dropLast
abbrev VW:=@Bool.or_eq_true
abbrev VX:=@Nat.lt_trans
abbrev VY:=@List.nil_append
abbrev VZ:=@List.mem_of_mem_take
abbrev V0:=@PySem.wpAny_specialOf
abbrev V1:=@List.map_append
abbrev V2:=@Nat.mod_lt
abbrev V3:=@PySem.wpAny_callSpecialIfBound?_slot
abbrev V4:=@PySem.W.plainGet_of
abbrev V5:=@PySem.wpAny_setEntries_of
abbrev V6:=@PySem.isSubtype_type
abbrev V7:=@PySem.wpAny_fieldsOf
abbrev V8:=@Array.getElem?_setIfInBounds
abbrev V9:=@PySem.wpAny_of_eq
abbrev Ua:=@List.filterMap_map
abbrev Ub:=@List.getElem?_drop
abbrev Uc:=@List.zip_cons_cons
abbrev Ud:=@List.Pairwise.imp₂
abbrev Ue:=@List.lt_trans
abbrev Ug:=@PySem.F.sub_list_frozenset
abbrev Uh:=@List.length_eraseIdx_of_lt
abbrev Ui:=@PySem.wpAny_newList
abbrev Uj:=@PySem.wpAny_pyIter_slot
abbrev Uk:=@List.mapM_toArray
abbrev Ul:=@PySem.strKind_is
abbrev Um:=@List.findIdx?_eq_none_iff
abbrev Uo:=@PySem.wpAny_eqBool_str
abbrev Up:=@PySem.noFill_tuple_add
abbrev Uq:=@List.map_nil
abbrev Ur:=@Option.bind_some
abbrev Us:=@Bool.not_not
abbrev Ut:=@Array.toList_inj
abbrev Uu:=@Nat.add_zero
abbrev Uv:=@Array.toList_map
abbrev Uw:=@List.Perm.eq_of_pairwise
abbrev Ux:=@PySem.wpAny_askSetting
abbrev Uy:=@not_or
abbrev Uz:=@map_eq_pure_bind
abbrev UA:=@List.length_erase_of_mem
abbrev UB:=@Int.zero_add
abbrev UC:=@List.of_mem_zip
abbrev UD:=@List.forIn_cons
abbrev UE:=@List.zip_append
abbrev UF:=@List.drop_drop
abbrev UG:=@List.forIn_nil
abbrev UH:=@List.map_take
noncomputable section
namespace L2
open PySem PySem.Spec PyProof.Rows
noncomputable abbrev Key:=Sum Int Str
def Zdv:Key->P7->Bool
 | .inl k,v=>Value.isInt k v
 | .inr x,v=>Value.isStrOf x v
def ZlE(w:World):Key->Int
 | .inl k=>hashInt k
 | .inr x=>hashStr w x
theorem Zbm:∀{k:Key} {v:P7},Zdv k v=true->(∃i t,k=Sum.inl i/\v=Value.int i t)\/(∃x t,k=Sum.inr x/\v=Value.str x t)
 | .inl i,v,h=>by
  obtain⟨t,e⟩:=Value.isInt_shape (k:=i) (v:=v) h;exact .inl ⟨i,t,rfl,e⟩
 | .inr x,v,h=>by
  obtain⟨t,e⟩:=Value.isStrOf_shape (x:=x) (v:=v) h;exact .inr ⟨x,t,rfl,e⟩
theorem ZnM(i:Int)(t:Tok):Zdv (.inl i) (.int i t)=true:=by simp[Zdv,Value.isInt]
theorem ZrU(x:Str)(t:Tok):Zdv (.inr x) (.str x t)=true:=by simp[Zdv,Value.isStrOf]
theorem Zsw(a b:Int):decide ((Sum.inl a:Key)=Sum.inl b)=(a == b):=by
 by_cases e:a=b
 ·subst e; simp
 ·have h:¬ (Sum.inl a:Key)=Sum.inl b:=fun q=>e (Sum.inl.inj q);rw[YA h];exact (Qf.mpr e).symm
theorem Zrk(a b:Str):decide ((Sum.inr a:Key)=Sum.inr b)=decide (a=b):=by
 by_cases e:a=b
 ·subst e; simp
 ·have h:¬ (Sum.inr a:Key)=Sum.inr b:=fun q=>e (Sum.inr.inj q);rw[YA h,YA e]
theorem ZrG(a:Int)(b:Str):decide ((Sum.inl a:Key)=Sum.inr b)=false:=YA (fun q=>nomatch q)
theorem Zpc(a:Str)(b:Int):decide ((Sum.inr a:Key)=Sum.inl b)=false:=YA (fun q=>nomatch q)
def Zau(prog:P5)(w:World):PySem.KeyKind prog w Key where
 is:=Zdv
 hash:=ZlE w
 inj:=fun v a b ha hb=>by
  rcases Zbm ha with⟨i,t,rfl,rfl⟩ | ⟨x,t,rfl,rfl⟩
  ·rcases Zbm hb with⟨j,u,rfl,e⟩ | ⟨y,u,rfl,e⟩
   ·injection e with e1 _; rw[e1]
   ·exact nomatch e
  ·rcases Zbm hb with⟨j,u,rfl,e⟩ | ⟨y,u,rfl,e⟩
   ·exact nomatch e
   ·injection e with e1 _; rw[e1]
 byValue:=fun k v h=>by
  rcases Zbm h with⟨i,t,rfl,rfl⟩ | ⟨x,t,rfl,rfl⟩ <;> rfl
 pyHash:=fun hv h=>by
  rcases Zbm hv with⟨i,t,rfl,rfl⟩ | ⟨x,t,rfl,rfl⟩
  ·exact wpAny_pyHash_int h
  ·exact wpAny_pyHash_str h
 eqBool:=fun hu hv h=>by
  rcases Zbm hu with⟨i,t,rfl,rfl⟩ | ⟨x,t,rfl,rfl⟩
  ·rcases Zbm hv with⟨j,u,rfl,rfl⟩ | ⟨y,u,rfl,rfl⟩
   ·rw[Zsw] at h; exact wpAny_eqBool_int h
   ·rw[ZrG] at h; exact SeqAt.EqAt.int_str i t y u _ _ _ _ h
  ·rcases Zbm hv with⟨j,u,rfl,rfl⟩ | ⟨y,u,rfl,rfl⟩
   ·rw[Zpc] at h; exact SeqAt.EqAt.str_int x t j u _ _ _ _ h
   ·rw[Zrk] at h; exact Uo h
 «strs»:=fun k x t v h=>by
  rcases Zbm h with⟨i,u,rfl,e⟩ | ⟨y,u,rfl,e⟩
  ·exact nomatch e
  ·injection e with e1 _;subst e1;cases v <;> rfl
theorem ZoZ(prog:P5)(w:World)(i:Int)(t:Tok):(Zau prog w).is (.inl i) (.int i t)=true:=ZnM i t
theorem Zrn(prog:P5)(w:World)(x:Str)(t:Tok):(Zau prog w).is (.inr x) (.str x t)=true:=ZrU x t
inductive V where
 | non | bl (b:Bool) | int (i:Int) | str (x:Str) | byt (b:Array UInt8) | flt (b:UInt64) | ref (a:Addr) | ty (n:String)
 deriving DecidableEq
def RelV:V->P7->Prop
 | .non,u=>u=Value.none
 | .bl b,u=>u=Value.bool b
 | .int i,u => ∃t,u=Value.int i t
 | .str x,u => ∃t,u=Value.str x t
 | .byt b,u => ∃t,u=Value.bytes b t
 | .flt b,u => ∃t,u=Value.float b t
 | .ref a,u=>u=Value.ref a
 | .ty n,u=>u=Value.type n
noncomputable abbrev Vals:List V->List P7->Prop:=Paired RelV
theorem Vals.length{xs:List V}{us:List P7}(r:Vals xs us):xs.length=us.length:=Paired.length r
theorem Vals.get:∀{xs:List V} {us:List P7} {i:Nat} {x:V},Vals xs us->xs[i]?=some x->∃u,us[i]?=some u/\RelV x u
 | _,_,_,_,.nil,e=>by simp at e
 | _,_,0,_,.cons r _,e=>by simp at e; subst e; exact⟨_,rfl,r⟩
 | _,_,i+1,x,.cons _ t,e=>by
  obtain⟨u,h1,h2⟩:=Vals.get (i:=i) (x:=x) t (by simpa using e);exact⟨u,by simpa using h1,h2⟩
theorem Vals.set{x:V}{u:P7}(r:RelV x u):∀{xs:List V} {us:List P7} (i:Nat),Vals xs us->Vals (xs.set i x) (us.set i u)
 | _,_,_,.nil => .nil
 | _,_,0,.cons _ t => .cons r t
 | _,_,i+1,.cons q t => .cons q (Vals.set r i t)
theorem Vals.append:∀{xs ys:List V} {us ws:List P7},Vals xs us->Vals ys ws->Vals (xs++ys) (us++ws)
 | _,_,_,_,.nil,s=>s
 | _,_,_,_,.cons r t,s => .cons r (Vals.append t s)
theorem Vals.take:∀{xs:List V} {us:List P7} (n:Nat),Vals xs us->Vals (xs.take n) (us.take n)
 | _,_,0,_ => .nil
 | _,_,_+1,.nil => .nil
 | _,_,n+1,.cons r t => .cons r (Vals.take n t)
theorem Vals.drop:∀{xs:List V} {us:List P7} (n:Nat),Vals xs us->Vals (xs.drop n) (us.drop n)
 | _,_,0,r=>r
 | _,_,_+1,.nil => .nil
 | _,_,n+1,.cons _ t=>Vals.drop n t
def RelO:Option V->Option P7->Prop
 | some v,some u=>RelV v u
 | none,none=>True
 | _,_=>False
def KV{κ:Type}:List (κ×V)->List (κ×P7)->Prop:=Paired fun (p:κ×V) (q:κ×P7)=>p.1=q.1/\RelV p.2 q.2
def kV:Key->V
 | .inl i => .int i
 | .inr x => .str x
inductive HO where
 /-- a list -/
 | lst (xs:List V)
 /-- a tuple (never changes) -/
 | tup (xs:List V)
 /-- a dict whose keys are ints and texts; one whose keys are tuples of ints and texts (the empty one is both) -/
 | dK (kvs:List (Key×V)) | dT (kvs:List (List Key×V))
 /-- a set of ints: its members, its size -/
 | set (S:Int->Bool) (n:Nat)
 /-- an instance of the class at C, its dict at dx, its attributes -/
 | ins (C dx:Addr) (fs:List (Str×V))
 /-- the dict of the instance at x -/
 | own (x:Addr)
 /-- the dict of an exception -/
 | xd (fs:List (Str×V))
 /-- a bound method, f of x -/
 | met (f x:Addr)
 /-- a range object lo, lo + 1, .. below hi -/
 | rng (lo hi:Int)
 /-- a thing that is known to the object (the script; a dict while a loop walks it): read, never written while it is so -/
 | frz (o:Obj) (u:HO)
 /-- a code object's table -/
 | tbl (ps:Array P7)
 /-- any other thing, by what is true of its one object (a def of one's own: SetO a S n:=HO.ext fun h => ..) -/
 | ext (φ:Heap->Prop)
noncomputable abbrev Hp:=Addr->Option HO
def upd(H:Hp)(a:Addr)(o:HO):Hp:=fun b=>if b=a then some o else H b
theorem Zai{H:Hp}{a:Addr}{o:HO}:upd H a o a=some o:=by unfold upd; rw[Yg rfl]
theorem Zp{H:Hp}{a b:Addr}{o:HO}(h:b≠a):upd H a o b=H b:=by unfold upd; rw[Yh h]
theorem ne_of{H:Hp}{a b:Addr}{o u:HO}(h:H a=some o)(h':H b=some u)(d:o≠u):a≠b:=by
 intro e; subst e; rw[h] at h'; exact d (Option.some.inj h')
theorem Z5{H:Hp}{a b:Addr}{o:HO}(h:H a=some o)(h':H b=none):a≠b:=by
 intro e; subst e; rw[h] at h'; cases h'
section
variable(P:P5)(w:World)
def ObjOk(H:Hp)(h:Heap)(a:Addr):HO->Prop
 | .lst xs=>xs.length<=sizeLine/\∃(its:List P7) (n:Nat),Vals xs its/\h.get? a=some { cls:=.type "list",data:=.seq its.toArray n }
 | .tup xs=>xs.length<=sizeLine/\∃its:List P7,Vals xs its/\IsTup h a its.toArray/\∀o,h.get? a=some o->o.dict=none
 | .dK kvs=>kvs.length<=sizeLine/\(a == sysModules)=false/\∃vs,KV kvs vs/\h.DictOf (Zau P w) a vs
 | .dT kvs=>kvs.length<=sizeLine/\(a == sysModules)=false/\∃xs:List (List Key×Addr×P7),
   Paired (fun (p:List Key×V) (q:List Key×Addr×P7)=>p.1=q.1/\H q.2.1=some (.tup (p.1.map kV))/\RelV p.2 q.2.2) kvs xs /\
   ∃o es ep,h.get? a=some o/\o.ExactDict/\o.data = .dict es ep/\es.toList=xs.map (entryOfKey (tupleKind (Zau P w)))/\(xs.map (·.1)).Nodup
 | .set S n=>h.SetOf (intKind P w) a S n
 | .ins C dx fs=>H dx=some (.own a)/\fs.length<=1000/\dx≠a/\h.get? a=some (PySem.W.instObj C dx) /\
   ∃mA,h.Ns1 dx mA/\(∀f,RelO (fs.lookup f) (mA f))/\PySem.Within mA (fs.map (·.1))
 | .own _ => ∃o,h.get? a=some o
 | .xd fs => ∃mA,h.Ns1 a mA/\∀f,RelO (fs.lookup f) (mA f)
 | .rng lo hi => ∃t u v,h.get? a=some { cls:=.type "range",data:=.fields #[.int lo t,.int hi u,.int 1 v] }
 | .frz o u=>h.get? a=some o/\ObjOk H h a u
 | .tbl ps=>h.get? a=some { cls:=.none,data:=.fields ps }
 | .met f x=>h.get? a=some (PySem.W.methodObj (.ref f) (.ref x))
 | .ext φ=>φ h/\(∃o,h.get? a=some o)/\∀h1 h2:Heap,φ h1->(∀o,h1.get? a=some o->h2.get? a=some o)->φ h2
def HOk(H:Hp)(h:Heap):Prop:=∀a o,H a=some o->ObjOk P w H h a o
end
section
variable{P:P5}{w:World}{H H':Hp}{h h':Heap}{a:Addr}{o:HO}
theorem ObjOk.lt(x:ObjOk P w H h a o):a<h.objs.size:=by
 cases o with
 | lst xs=>obtain⟨_,_,_,_,e⟩:=x; exact Ym e
 | tup xs=>obtain⟨_,_,_,p,_⟩:=x; exact p.lt
 | dK kvs=>obtain⟨_,_,_,_,o,_,_,e,_⟩:=x; exact Ym e
 | dT kvs=>obtain⟨_,_,_,_,o,_,_,e,_⟩:=x; exact Ym e
 | set S n=>obtain⟨o,_,_,_,e,_⟩:=x; exact Ym e
 | ins C dx fs=>obtain⟨_,_,_,e,_⟩:=x; exact Ym e
 | own y=>obtain⟨_,e⟩:=x; exact Ym e
 | xd fs=>obtain⟨_,⟨_,_,_,e,_⟩,_⟩:=x; exact Ym e
 | rng lo hi=>obtain⟨_,_,_,e⟩:=x; exact Ym e
 | frz ob u=>obtain⟨e,_⟩:=x; exact Ym e
 | tbl ps=>exact Ym (show h.get? a=some _ from x)
 | met f y=>exact Ym (show h.get? a=some _ from x)
 | ext φ=>obtain⟨_,⟨_,e⟩,_⟩:=x; exact Ym e
theorem Paired.mapP{α β:Type}{F G:α->β->Prop}:∀{l₁:List α} {l₂:List β},Paired F l₁ l₂->(∀a b,F a b->G a b)->Paired G l₁ l₂
 | _,_,.nil,_ => .nil
 | _,_,.cons r t,f => .cons (f _ _ r) (Paired.mapP t f)
theorem ObjOk.stay(x:ObjOk P w H h a o)(k:∀b u,(b=a\/H b=some (.own a))->h.get? b=some u->h'.get? b=some u)
  (ho:∀b,H b=some (.own a)->H' b=some (.own a)) (ht:∀b xs,H b=some (.tup xs)->H' b=some (.tup xs)):ObjOk P w H' h' a o:=by
 induction o with
 | lst xs=>obtain⟨z,its,n,r,e⟩:=x; exact⟨z,its,n,r,k _ _ (.inl rfl) e⟩
 | tup xs=>obtain⟨z,its,r,⟨ob,e,c⟩,dn⟩:=x; exact⟨z,its,r,⟨ob,k _ _ (.inl rfl) e,c⟩,fun o2 e2=>by rw[k _ _ (.inl rfl) e] at e2; cases e2; exact dn _ e⟩
 | dK kvs=>obtain⟨z,y,vs,r,ob,es,ep,e,c⟩:=x; exact⟨z,y,vs,r,ob,es,ep,k _ _ (.inl rfl) e,c⟩
 | dT kvs =>
  obtain⟨z,y,xs,r,ob,es,ep,e,c⟩:=x;exact⟨z,y,xs,Paired.mapP r fun p q z=>⟨z.1,ht _ _ z.2.1,z.2.2⟩,ob,es,ep,k _ _ (.inl rfl) e,c⟩
 | set S n=>obtain⟨ob,es,ep,t,e,c⟩:=x; exact⟨ob,es,ep,t,k _ _ (.inl rfl) e,c⟩
 | ins C dx fs =>
  obtain⟨d,z,ne,e,mA,⟨od,es,ep,e2,c⟩,r⟩:=x;exact⟨ho _ d,z,ne,k _ _ (.inl rfl) e,mA,⟨od,es,ep,k _ _ (.inr d) e2,c⟩,r⟩
 | own y=>obtain⟨ob,e⟩:=x; exact⟨ob,k _ _ (.inl rfl) e⟩
 | xd fs=>obtain⟨mA,⟨od,es,ep,e,c⟩,r⟩:=x; exact⟨mA,⟨od,es,ep,k _ _ (.inl rfl) e,c⟩,r⟩
 | rng lo hi=>obtain⟨t,u,v,e⟩:=x; exact⟨t,u,v,k _ _ (.inl rfl) e⟩
 | frz ob u ih=>obtain⟨e,q⟩:=x; exact⟨k _ _ (.inl rfl) e,ih q⟩
 | tbl ps =>
  have e:h.get? a=some { cls:=.none,data:=.fields ps }:=x;show h'.get? a=some { cls:=.none,data:=.fields ps };exact k a _ (.inl rfl) e
 | met f y =>
  have e:h.get? a=some (PySem.W.methodObj (.ref f) (.ref y)):=x;show h'.get? a=some (PySem.W.methodObj (.ref f) (.ref y));exact k a _ (.inl rfl) e
 | ext φ=>obtain⟨p,⟨o,e⟩,st⟩:=x; exact⟨st _ _ p fun o q=>k _ _ (.inl rfl) q,⟨o,k _ _ (.inl rfl) e⟩,st⟩
theorem HOk.lt(x:HOk P w H h)(e:H a=some o):a<h.objs.size:=(x a o e).lt
theorem HOk.fresh(x:HOk P w H h)(e:h.objs.size<=a):H a=none:=by
 cases q:H a with
 | none=>rfl
 | some u=>exact absurd (Yz (x.lt q) e) (Y8 _)
theorem HOk.kept(x:HOk P w H h)(k:∀b u,h.get? b=some u->h'.get? b=some u):HOk P w H h':=fun a o e =>
 (x a o e).stay (fun b u _ q=>k b u q) (fun _ q=>q) fun _ _ q=>q
theorem HOk.laid(x:HOk P w H h)(k:∀b u,h.get? b=some u->h'.get? b=some u)(hp:h.objs.size<=a)(new:ObjOk P w (upd H a o) h' a o):HOk P w (upd H a o) h':=fun b u e=>by
 have hn:=x.fresh hp;by_cases hb:b=a
 ·subst hb; rw[Zai] at e; cases e; exact new
 ·rw[Zp hb] at e;exact (x b u e).stay (fun c v _ q=>k c v q) (fun c q=>by rw[Zp (Z5 q hn)]; exact q) fun c xs q=>by rw[Zp (Z5 q hn)]; exact q
end
def Rd(H:Hp)(a:Addr)(u:HO):Prop:=H a=some u\/∃o,H a=some (.frz o u)
theorem Rd.of{H:Hp}{a:Addr}{u:HO}(h:H a=some u):Rd H a u:=.inl h
theorem Rd.ok{P:P5}{w:World}{H:Hp}{h:Heap}{a:Addr}{u:HO}(r:Rd H a u)(x:HOk P w H h):ObjOk P w H h a u:=by
 rcases r with r | ⟨o,r⟩
 ·exact x a u r
 ·obtain⟨_,q⟩:=x a _ r;exact q
def Mut:Option HO->Prop
 | some (.lst _)=>True
 | some (.dK _)=>True
 | some (.dT _)=>True
 | some (.set _ _)=>True
 | some (.ins _ _ _)=>True
 | some (.ext _)=>True
 | _=>False
section
variable{P:P5}{w:World}{H:Hp}{h h':Heap}{x e:Addr}{o':HO}
theorem HOk.write(ok:HOk P w H h)(mu:Mut (H x))(he:e=x\/H e=some (.own x))(k:∀b u,b≠e->h.get? b=some u->h'.get? b=some u)(heo:∃u,h'.get? e=some u)
  (new:ObjOk P w (upd H x o') h' x o'):HOk P w (upd H x o') h':=fun b u q=>by
 have nown:∀c y,H c=some (.own y)->c≠x:=fun c y r z=>by subst z; rw[r] at mu; exact mu
 have ntup:∀c xs,H c=some (.tup xs)->c≠x:=fun c xs r z=>by subst z; rw[r] at mu; exact mu
 by_cases hb:b=x
 ·subst hb; rw[Zai] at q; cases q; exact new
 ·rw[Zp hb] at q;by_cases hbe:b=e
  ·have q':H b=some (.own x):=by
    rcases he with z | z
    ·exact absurd (hbe.trans z) hb
    ·rw[hbe]; exact z
   rw[q] at q'; cases q';obtain⟨v,hv⟩:=heo;exact⟨v,by rw[hbe]; exact hv⟩
  ·refine (ok b u q).stay (fun c v hc r=>k c v ?_ r) (fun c r=>by rw[Zp (nown c b r)]; exact r) fun c xs r=>by rw[Zp (ntup c xs r)]; exact r
   rcases hc with rfl | hc
   ·exact hbe
   ·rintro rfl;rcases he with z | z
    ·exact nown c b hc z
    ·rw[hc] at z; cases z; exact hb rfl
end
structure Un(fs ex:List Addr)(H H':Hp)(h h':Heap):Prop where
 keep:∀b o,h.get? b=some o->H b=none->b ∉ fs->b ∉ ex->h'.get? b=some o
 slot:∀b o,h.get? b=some o->H b=none->b∈fs->b ∉ ex->∃sl,h'.get? b=some { o with slots:=sl }
 free:∀b o,h.get? b=some o->H b=none->b ∉ ex->H' b=none
 there:∀b o,h.get? b=some o->b ∉ ex->∃o',h'.get? b=some o'
 tups:∀b xs,H b=some (.tup xs)->H' b=some (.tup xs)
 frzs:∀b o u,H b=some (.frz o u)->H' b=some (.frz o u)
 tbls:∀b ps,H b=some (.tbl ps)->∃more,H' b=some (.tbl (ps++more))
section
variable{fs fs' ex ex':List Addr}{H H1 H2:Hp}{h h1 h2 h':Heap}{a x e:Addr}{o:HO}
theorem Un.any(u:Un fs ex H H1 h h1){b:Addr}{ob:Obj}(q:h.get? b=some ob)(n:H b=none)(hx:b ∉ ex):∃sl,h1.get? b=some { ob with slots:=sl }:=by
 by_cases hb:b∈fs
 ·exact u.slot b ob q n hb hx
 ·exact⟨ob.slots,u.keep b ob q n hb hx⟩
theorem Un.kept(k:∀b u,h.get? b=some u->h'.get? b=some u):Un fs ex H H h h' :=
 ⟨fun b ob q _ _ _=>k b ob q,fun b ob q _ _ _=>⟨ob.slots,k b ob q⟩,fun _ _ _ n _=>n,fun b ob q _=>⟨ob,k b ob q⟩,fun _ _ q=>q,fun _ _ _ q=>q,fun _ ps q=>⟨#[],by rw[q]; simp⟩⟩
theorem Un.refl:Un fs ex H H h h:=Un.kept fun _ _ q=>q
theorem Un.laid(k:∀b u,h.get? b=some u->h'.get? b=some u)(hp:h.objs.size<=a)(hn:H a=none):Un fs ex H (upd H a o) h h' where
 keep:=fun b u q _ _ _=>k b u q
 slot:=fun b u q _ _ _=>⟨u.slots,k b u q⟩
 free:=fun b u q n _=>by rw[Zp (Yx (Yz (Ym q) hp))]; exact n
 there:=fun b u q _=>⟨u,k b u q⟩
 tups:=fun b xs q=>by rw[Zp (Z5 q hn)]; exact q
 frzs:=fun b u xs q=>by rw[Zp (Z5 q hn)]; exact q
 tbls:=fun b ps q=>⟨#[],by rw[Zp (Z5 q hn),q]; simp⟩
theorem Un.write(mu:Mut (H x))(he:e=x\/H e=some (.own x))(k:∀b u,b≠e->h.get? b=some u->h'.get? b=some u)(heo:∃u,h'.get? e=some u):Un fs ex H (upd H x o) h h':=by
 have hx:∀b,H b=none->b≠x:=fun b n z=>by subst z; rw[n] at mu; exact mu
 have hb:∀b,H b=none->b≠e:=fun b n z=>by
  subst z;rcases he with r | r
  ·exact hx b n r
  ·rw[n] at r; cases r
 have hm:∀b u,H b=some u->¬ Mut (some u)->b≠x:=fun b u q nm z=>by subst z; rw[q] at mu; exact nm mu
 refine⟨fun b u q n _ _=>k b u (hb b n) q,fun b u q n _ _=>⟨u.slots,k b u (hb b n) q⟩,fun b u q n _=>by rw[Zp (hx b n)]; exact n,fun b u q _ => ?_,
  fun b xs q=>by rw[Zp (hm b _ q fun z=>z)]; exact q,fun b u xs q=>by rw[Zp (hm b _ q fun z=>z)]; exact q,fun b ps q=>⟨#[],by rw[Zp (hm b _ q fun z=>z),q]; simp⟩⟩
 by_cases hbe:b=e
 ·subst hbe; exact heo
 ·exact⟨u,k b u hbe q⟩
end
def trk(h:Heap)(H:Hp):List Addr:=(List.range h.objs.size).filter fun a=>(H a).isSome
def ZbB(h:Heap)(H:Hp):Heap:=PySem.W.hideAll h (trk h H)
theorem ZmK(h:Heap)(H:Hp):(ZbB h H).objs.size=h.objs.size:=PySem.W.hideAll_size _ _
theorem ZsU{h:Heap}{H:Hp}{b:Addr}{o:Obj}(e:h.get? b=some o)(n:H b=none):(ZbB h H).get? b=some o :=
 PySem.W.hideAll_get _ e fun hm=>by
  have q:(H b).isSome=true:=(Wf.mp hm).2;rw[n] at q; simp at q
theorem Zlz{h:Heap}{H:Hp}{b:Addr}{o:Obj}(e:(ZbB h H).get? b=some o):h.get? b=some o/\H b=none:=by
 have e':h.get? b=some o:=PySem.W.of_hideAll (trk h H) e;refine⟨e',?_⟩;cases q:H b with
 | none=>rfl
 | some x =>
  have hm:b∈trk h H:=Wf.mpr ⟨WD.mpr (Ym e'),by simp[q]⟩;have z:(ZbB h H).get? b=none:=PySem.W.hideAll_none (trk h H) hm;rw[z] at e; cases e
def ZqK(g h:Heap)(L:Addr):List (Addr×Obj):=(List.range h.objs.size).filterMap fun a=>if a=L\/(g.get? a).isSome=true then none else (h.get? a).map fun o=>(a,o)
def rest(g h:Heap)(L d:Addr):List (Addr×Obj):=(ZqK g h L).filter fun p=>decide (p.1≠d)
structure Mod(K:P3)(mg:Str->Option P7)(base:Heap):Prop where
 kin:K.In base
 glob:base.Ns mainGlobals mg
 blt:∃mb,base.Ns builtinsNs mb/\∀x:Str,x≠"__name__"->mb x=bootBuiltins x
 nolimit:base.NoLimit
structure Cx where
 prog:P5
 w:World
 K:P3
 mg:Str->Option P7
 base:Heap
 A:P4
 N:List Str
 s₀:P1
 H₀:Hp
 env:Env
 outer:List Env
 stack:List Env
 ex:List Addr
 fn:Str->Bool
 calm:Bool
 pn:List (Addr×Obj)
 xe:P7->P1->Prop
def frs(l:List Env):List Addr:=l.filterMap (·.frame)
noncomputable abbrev Cx.fs(X:Cx):List Addr:=frs X.outer
def Vis(sc:Scope)(x:Str):Prop:=sc.names.lookup x=some .local\/sc.names.lookup x=some .cell\/sc.names.lookup x=some .free
def Loc(sc:Scope)(x:Str):Prop:=sc.names.lookup x=some .local\/sc.names.lookup x=some .cell
def Look(env:Env)(h:Heap)(m:Str->Option P7)(x:Str)(u:P7):Prop :=
 (env.kindOf x=some .local/\m x=some u)\/((env.kindOf x=some .cell\/env.kindOf x=some .free)/\∃c,env.cells.lookup x=some c/\h.IsCell c (some u))
structure Cx.Ok(X:Cx):Prop where
 mod:Mod X.K X.mg X.base
 kind:X.env.scope.kind = .function
 glob:X.env.globals=mainGlobals
 blt:X.env.builtins=builtinsNs
 above:X.s₀.heap.objs.size<=X.env.locals
 inj:∀x y c,X.env.cells.lookup x=some c->X.env.cells.lookup y=some c->x=y
 has:∀x,(X.env.kindOf x=some .cell\/X.env.kindOf x=some .free)->∃c,X.env.cells.lookup x=some c
 cab:∀x c,X.fn x=true->X.env.cells.lookup x=some c->X.s₀.heap.objs.size<=c
 hd:X.calm=true->X.A.handled=none
 frames:X.A.frames=some X.stack
 stk:X.stack=X.outer\/(X.stack=X.env :: X.outer/\X.env.frame=some X.env.locals)
 exf:∀b∈X.ex,b≠X.env.locals/\∀x c,X.env.cells.lookup x=some c->c≠b
 bs:∀b o,X.base.get? b=some o->X.s₀.heap.get? b=some o/\X.H₀ b=none
 bsz:X.base.objs.size<=X.s₀.heap.objs.size
 noex:∀b o,X.base.get? b=some o->b ∉ X.ex
 exfs:∀b∈X.ex,b ∉ X.fs
 funs:X.s₀.heap.FunFrames X.base X.outer
 frf:∀b∈X.fs,X.H₀ b=none
structure Inv(X:Cx)(pins:List (Addr×Obj))(σ:List (Option V))(H:Hp)(s:P1):Prop where
 ok:X.Ok
 os:s.os=X.s₀.os
 bare:AllBare s.gens
 base:Un X.fs X.ex X.H₀ H X.s₀.heap s.heap
 loc:∃m,s.heap.Ns X.env.locals m/\∀(i:Nat) (x:Str) (v:V),X.N[i]?=some x->σ[i]?=some (some v)->Vis X.env.scope x->∃u,RelV v u/\Look X.env s.heap m x u
 cell:∀x c,X.env.cells.lookup x=some c->∃v,s.heap.IsCell c v
 free:H X.env.locals=none
 freeC:∀x c,X.env.cells.lookup x=some c->H c=none
 pin:∀p∈X.pn++pins,s.heap.get? p.1=some p.2/\H p.1=none/\p.1≠X.env.locals/\p.1 ∉ X.fs/\∀v,p.2.data≠.cell v
 hok:HOk X.prog X.w H s.heap
 len:σ.length=X.N.length
section
variable{X:Cx}{pins:List (Addr×Obj)}{σ:List (Option V)}{H H':Hp}{s:P1}{h':Heap}
theorem Cx.Ok.nofr(ok:X.Ok){b:Addr}{o:Obj}(e:X.base.get? b=some o):b ∉ X.fs:=fun hb=>by
 have:=(ok.funs.mem hb).1;rw[e] at this; cases this
theorem Inv.bs(I:Inv X pins σ H s):∀b o,X.base.get? b=some o->s.heap.get? b=some o/\H b=none:=fun b o e =>
 ⟨I.base.keep b o (I.ok.bs b o e).1 (I.ok.bs b o e).2 (I.ok.nofr e) (I.ok.noex b o e),I.base.free b o (I.ok.bs b o e).1 (I.ok.bs b o e).2 (I.ok.noex b o e)⟩
theorem Inv.bk(I:Inv X pins σ H s):∀b o,X.base.get? b=some o->s.heap.get? b=some o:=fun b o e=>(I.bs b o e).1
theorem Inv.mod(I:Inv X pins σ H s):Mod X.K X.mg X.base:=I.ok.mod
theorem Inv.kIn(I:Inv X pins σ H s):X.K.In s.heap:=I.ok.mod.kin.keeps I.bk
theorem Inv.lt(I:Inv X pins σ H s):X.env.locals<s.heap.objs.size:=let ⟨_,hn,_⟩:=I.loc; hn.lt
theorem Inv.sz(I:Inv X pins σ H s):X.s₀.heap.objs.size<=s.heap.objs.size:=YI I.ok.above (VT I.lt)
theorem Inv.nofs(I:Inv X pins σ H s){a:Addr}(h:s.heap.objs.size<=a):a ∉ X.fs:=fun hb=>by
 obtain⟨_,o,ho,_⟩:=I.ok.funs.mem hb;exact absurd (Yz (Ym ho) (YI I.sz h)) (Y8 _)
theorem Inv.cne(I:Inv X pins σ H s):∀x c,X.env.cells.lookup x=some c->c≠X.env.locals:=fun x c e z=>by
 obtain⟨v,o,ho,hd⟩:=I.cell x c e;obtain⟨m,⟨o',es,ep,ho',hd',_⟩,_⟩:=I.loc;rw[z,ho'] at ho; cases ho; rw[hd'] at hd; cases hd
theorem Inv.funs(I:Inv X pins σ H s):s.heap.FunFrames X.base X.outer:=by
 have all:∀(l:List Env),(∀b∈frs l,b∈X.fs)->X.s₀.heap.FunFrames X.base l->s.heap.FunFrames X.base l:=by
  intro l
  induction l with
  | nil=>intro _ _; trivial
  | cons env r ih =>
   intro hs hl;obtain⟨hk,⟨L,o,hf,hn,ho,hd⟩,hr⟩:=hl;have hL:L∈X.fs:=hs L (by unfold frs; rw[WE,hf]; exact Yt);obtain⟨sl,e⟩:=I.base.slot L o ho (I.ok.frf L hL) hL fun z=>I.ok.exfs L z hL;exact⟨hk,⟨L,_,hf,hn,e,hd⟩,ih (fun b hb=>hs b (by unfold frs; rw[WE,hf]; exact Yl _ hb)) hr⟩
 exact all X.outer (fun _ hb=>hb) I.ok.funs
theorem Inv.stack(I:Inv X pins σ H s):s.heap.FunFrames X.base X.stack:=by
 rcases I.ok.stk with e | ⟨e,hf⟩
 ·rw[e]; exact I.funs
 ·rw[e];obtain⟨m,hn,_⟩:=I.loc;refine .cons (by rw[I.ok.kind]; decide) hf hn ?_ I.funs;exact Heap.get?_none_of_le (YI I.ok.bsz I.ok.above)
theorem Inv.stkSub(I:Inv X pins σ H s):∀b∈frs X.stack,b∈X.env.locals :: X.fs:=fun b hb=>by
 rcases I.ok.stk with e | ⟨e,hf⟩
 ·rw[e] at hb; exact Yl _ hb
 ·rw[e] at hb;unfold frs at hb;rw[WE,hf] at hb;exact hb
theorem Inv.stkFree(I:Inv X pins σ H s):∀b∈frs X.stack,H b=none:=fun b hb=>by
 rcases Yn.mp (I.stkSub b hb) with e | hb
 ·rw[e]; exact I.free
 ·obtain⟨_,o,ho,_⟩:=I.ok.funs.mem hb;exact I.base.free b o ho (I.ok.frf b hb) fun z=>I.ok.exfs b z hb
theorem Inv.step{g':Array GenState}{t':Nat}{d':Drawn}{ch:List Addr}(I:Inv X pins σ H s)
  (hch:∀b∈ch,(b∈X.ex\/X.s₀.heap.objs.size<=b)/\b≠X.env.locals/\(∀x c,X.env.cells.lookup x=some c->c≠b)/\∀p∈X.pn++pins,p.1≠b)
  (keep:∀b o,b≠X.env.locals->b ∉ X.fs->b ∉ ch->s.heap.get? b=some o->H b=none->h'.get? b=some o)
  (slot:∀b o,b≠X.env.locals->b∈X.fs->b ∉ ch->s.heap.get? b=some o->H b=none->∃sl,h'.get? b=some { o with slots:=sl }) (free:∀b o,b ∉ ch->s.heap.get? b=some o->H b=none->H' b=none)
  (there:∀b o,b ∉ ch->s.heap.get? b=some o->∃o',h'.get? b=some o')
  (tups:∀b xs,H b=some (.tup xs)->H' b=some (.tup xs)) (frzs:∀b o u,H b=some (.frz o u)->H' b=some (.frz o u)) (tbls:∀b ps,H b=some (.tbl ps)->∃more,H' b=some (.tbl (ps++more)))
  (ns:∀m,s.heap.Ns X.env.locals m->h'.Ns X.env.locals m) (hok:HOk X.prog X.w H' h') (hg:AllBare g') :
  Inv X pins σ H' { s with heap:=h',gens:=g',drawn:=d',toks:=t' }:=by
 have neL:∀b o,X.s₀.heap.get? b=some o->b≠X.env.locals:=fun b o e=>Yx (Yz (Ym e) I.ok.above);have neC:∀b o,X.s₀.heap.get? b=some o->b ∉ X.ex->b ∉ ch:=fun b o e hx hb=>by
  rcases (hch b hb).1 with z | z
  ·exact hx z
  ·exact absurd (Yz (Ym e) z) (Y8 _)
 have cellK:∀x c,X.env.cells.lookup x=some c->∀v,s.heap.IsCell c v->h'.IsCell c v:=fun x c e v ⟨o,ho,hd⟩=>by
  have nch:c ∉ ch:=fun z=>(hch c z).2.2.1 x c e rfl;by_cases hc:c∈X.fs
  ·obtain⟨sl,q⟩:=slot c o (I.cne x c e) hc nch ho (I.freeC x c e);exact⟨_,q,hd⟩
  ·exact⟨o,keep c o (I.cne x c e) hc nch ho (I.freeC x c e),hd⟩
 refine⟨I.ok,I.os,hg,⟨fun b o e n hb hx => ?_,fun b o e n hb hx => ?_,fun b o e n hx => ?_,fun b o e hx => ?_,fun b xs e=>tups b xs (I.base.tups b xs e),fun b o xs e=>frzs b o xs (I.base.frzs b o xs e),fun b ps e => ?_⟩,?_,fun x c e => ?_,?_,fun x c e => ?_,fun p hp => ?_,hok,I.len⟩
 ·exact keep b o (neL b o e) hb (neC b o e hx) (I.base.keep b o e n hb hx) (I.base.free b o e n hx)
 ·obtain⟨sl,e1⟩:=I.base.slot b o e n hb hx;obtain⟨sl',e2⟩:=slot b _ (neL b o e) hb (neC b o e hx) e1 (I.base.free b o e n hx);exact⟨sl',e2⟩
 ·obtain⟨o',e1⟩:=I.base.there b o e hx;exact free b o' (neC b o e hx) e1 (I.base.free b o e n hx)
 ·obtain⟨o',e1⟩:=I.base.there b o e hx;exact there b o' (neC b o e hx) e1
 ·obtain⟨m1,e1⟩:=I.base.tbls b ps e;obtain⟨m2,e2⟩:=tbls b _ e1;exact⟨m1++m2,by rw[e2,Array.append_assoc]⟩
 ·obtain⟨m,hn,hl⟩:=I.loc;refine⟨m,ns m hn,fun i x v e1 e2 e3 => ?_⟩;obtain⟨u,r,l⟩:=hl i x v e1 e2 e3;refine⟨u,r,?_⟩;rcases l with l | ⟨k,c,e,z⟩
  ·exact .inl l
  ·exact .inr ⟨k,c,e,cellK x c e _ z⟩
 ·obtain⟨v,z⟩:=I.cell x c e;exact⟨v,cellK x c e v z⟩
 ·obtain⟨m,⟨o,_,_,ho,_⟩,_⟩:=I.loc;exact free _ o (fun z=>(hch _ z).2.1 rfl) ho I.free
 ·obtain⟨v,o,ho,hd⟩:=I.cell x c e;exact free c o (fun z=>(hch c z).2.2.1 x c e rfl) ho (I.freeC x c e)
 ·obtain⟨e,n,ne,nf,d⟩:=I.pin p hp;have nch:p.1 ∉ ch:=fun z=>(hch p.1 z).2.2.2 p hp rfl;exact⟨keep p.1 p.2 ne nf nch e n,free p.1 p.2 nch e n,ne,nf,d⟩
theorem Inv.un{t':Nat}(I:Inv X pins σ H s)(u:Un X.fs [] H H' s.heap h')(hok:HOk X.prog X.w H' h'):Inv X pins σ H' { s with heap:=h',toks:=t' }:=by
 obtain⟨m,⟨o,es,ep,ho,r⟩,_⟩:=id I.loc;obtain⟨sl,hL⟩:=u.any ho I.free (by simp);exact I.step (g':=s.gens) (d':=s.drawn) (ch:=[]) (fun _ z=>nomatch z) (fun b o _ hb _ e n=>u.keep b o e n hb (by simp)) (fun b o _ hb _ e n=>u.slot b o e n hb (by simp)) (fun b o _ e n=>u.free b o e n (by simp)) (fun b o _ e=>u.there b o e (by simp)) u.tups u.frzs u.tbls (fun m' hm=>by
  obtain⟨o',es',ep',ho',r'⟩:=hm;rw[ho] at ho'; cases ho';exact⟨_,es',ep',hL,r'⟩) hok I.bare
theorem Inv.call{g':Array GenState}{t':Nat}{d':Drawn}{ch:List Addr}(I:Inv X pins σ H s)(u:Un (frs X.stack) ch H H' s.heap h')(hok:HOk X.prog X.w H' h')(hg:AllBare g')
  (hch:∀b∈ch,(b∈X.ex\/X.s₀.heap.objs.size<=b)/\b≠X.env.locals/\(∀x c,X.env.cells.lookup x=some c->c≠b)/\∀p∈X.pn++pins,p.1≠b) :
  Inv X pins σ H' { s with heap:=h',gens:=g',drawn:=d',toks:=t' }:=by
 obtain⟨m,⟨o,es,ep,ho,r⟩,_⟩:=id I.loc;obtain⟨sl,hL⟩:=u.any ho I.free fun z=>(hch _ z).2.1 rfl;exact I.step (ch:=ch) hch (fun b o hL hb hc e n=>u.keep b o e n (fun z=>(Yn.mp (I.stkSub b z)).elim hL hb) hc) (fun b o _ _ hc e n=>u.any e n hc) (fun b o hc e n=>u.free b o e n hc) (fun b o hc e=>u.there b o e hc) u.tups u.frzs u.tbls (fun m' hm=>by
  obtain⟨o',es',ep',ho',r'⟩:=hm;rw[ho] at ho'; cases ho';exact⟨_,es',ep',hL,r'⟩) hok hg
theorem Inv.turned{t':Nat}{it:Addr}(I:Inv X pins σ H s)(k:∀b o,b≠it->s.heap.get? b=some o->h'.get? b=some o)(hn:H it=none)(hL:it≠X.env.locals)
  (h1:it∈X.ex\/X.s₀.heap.objs.size<=it) (h2:∀x c,X.env.cells.lookup x=some c->c≠it) (h3:∀p∈X.pn++pins,p.1≠it):Inv X pins σ H { s with heap:=h',toks:=t' }:=by
 have nit:∀b u,H b=some u->b≠it:=fun b u e z=>by rw[z,hn] at e; cases e
 refine I.step (g':=s.gens) (d':=s.drawn) (ch:=[it]) (fun b hb => ?_) (fun b o _ _ hc e _=>k b o (fun z=>hc (by simp[z])) e) (fun b o _ _ hc e _=>⟨o.slots,k b o (fun z=>hc (by simp[z])) e⟩) (fun _ _ _ _ n=>n)
  (fun b o hc e=>⟨o,k b o (fun z=>hc (by simp[z])) e⟩) (fun _ _ e=>e) (fun _ _ _ e=>e) (fun b ps e=>⟨#[],by rw[e]; simp⟩) (fun m hm => ?_) (fun b u e => ?_) I.bare
 ·have e:b=it:=by simpa using hb
  subst e;exact⟨h1,hL,h2,h3⟩
 ·obtain⟨o,es,ep,ho,r⟩:=hm;exact⟨o,es,ep,k _ o (Y7 hL) ho,r⟩
 ·refine (I.hok b u e).stay (fun c v hc q=>k c v ?_ q) (fun _ q=>q) fun _ _ q=>q;rcases hc with z | z
  ·rw[z]; exact nit b u e
  ·exact nit c _ z
theorem Inv.tok(I:Inv X pins σ H s)(t:Nat):Inv X pins σ H { s with toks:=t }:=I.un (h':=s.heap) (t':=t) Un.refl I.hok
theorem Inv.kept{t':Nat}(I:Inv X pins σ H s)(k:∀b u,s.heap.get? b=some u->h'.get? b=some u):Inv X pins σ H { s with heap:=h',toks:=t' }:=I.un (Un.kept k) (I.hok.kept k)
theorem Inv.laid{a:Addr}{o:HO}{t':Nat}(I:Inv X pins σ H s)(k:∀b u,s.heap.get? b=some u->h'.get? b=some u)(hp:s.heap.objs.size<=a)(new:ObjOk X.prog X.w (upd H a o) h' a o) :
  Inv X pins σ (upd H a o) { s with heap:=h',toks:=t' }:=I.un (Un.laid k hp (I.hok.fresh hp)) (I.hok.laid k hp new)
theorem Inv.write{x e:Addr}{o:HO}{t':Nat}(I:Inv X pins σ H s)(mu:Mut (H x))(he:e=x\/H e=some (.own x))(k:∀b u,b≠e->s.heap.get? b=some u->h'.get? b=some u)(heo:∃u,h'.get? e=some u)
  (new:ObjOk X.prog X.w (upd H x o) h' x o):Inv X pins σ (upd H x o) { s with heap:=h',toks:=t' }:=I.un (Un.write mu he k heo) (I.hok.write mu he k heo new)
theorem Inv.pins_of{pins':List (Addr×Obj)}(I:Inv X pins σ H s)(h:∀p∈pins',s.heap.get? p.1=some p.2/\H p.1=none/\p.1≠X.env.locals/\p.1 ∉ X.fs/\∀v,p.2.data≠.cell v):Inv X pins' σ H s :=
 ⟨I.ok,I.os,I.bare,I.base,I.loc,I.cell,I.free,I.freeC,fun p hp=>(YJ.mp hp).elim (fun z=>I.pin p (Wn _ z)) (h p),I.hok,I.len⟩
theorem ZkC{N:List Str}(hN:N.Nodup){i j:Nat}{x:Str}(a:N[i]?=some x)(b:N[j]?=some x):i=j:=by
 obtain⟨h1,e1⟩:=Yc.mp a;obtain⟨h2,e2⟩:=Yc.mp b;exact (QC hN).mp (e1.trans e2.symm)
theorem Zqm{M:Model}{A:P4}{E:P7->P1->Prop}{i:Nat}{x:Str}{v:V}{u:P7}{Q:Unit->P1->Prop}(I:Inv X pins σ H s)(hN:X.N.Nodup)(hi:X.N[i]?=some x)(hx:Loc X.env.scope x)(r:RelV v u)
  (h:∀s',Inv X pins (σ.set i (some v)) H s'->(∃a,Heap.SameBut a s.heap s'.heap/\(a=X.env.locals\/X.env.cells.lookup x=some a))->Q () s') (hf:X.fn x=true\/X.env.scope.names.lookup x=some .local:=by first | exact .inl rfl | exact .inr rfl | assumption):wpAny M A (storeName X.env x u) Q E s:=by
 obtain⟨m,hn,hl⟩:=id I.loc;have hcls:(X.env.scope.kind == .class || (X.env.scope.kind == .module && X.env.locals != X.env.globals))=false:=by rw[I.ok.kind]; rfl
 have hiσ:i<σ.length:=by rw[I.len]; exact (Yc.mp hi).1
 have cne:=I.cne;have tracked:∀{a:Addr} {h':Heap},(∃o,s.heap.get? a=some o/\H a=none)->Heap.SameBut a s.heap h'->HOk X.prog X.w H h':=fun {a h'} ha hs b ob e=>by
  obtain⟨_,_,hfree⟩:=ha;refine (I.hok b ob e).stay (fun c w' hc q=>(hs.2 c ?_).trans q) (fun _ q=>q) fun _ _ q=>q;rintro rfl;rcases hc with rfl | hc
  ·rw[hfree] at e; cases e
  ·rw[hfree] at hc; cases hc
 rcases hx with hk | hk
 ·refine wpAny_storeName_local hk hn (fun h' hn' hs => ?_) hcls;obtain⟨oL,_,_,hoL,_⟩:=id hn;refine h _ ⟨I.ok,I.os,I.bare,⟨fun b o e n hb hx => ?_,fun b o e n hb hx => ?_,I.base.free,fun b o e hx => ?_,I.base.tups,I.base.frzs,I.base.tbls⟩,⟨_,hn',fun j y v' e1 e2 e3 => ?_⟩,fun y c e => ?_,I.free,I.freeC,fun p hp => ?_,tracked ⟨oL,hoL,I.free⟩ hs,by simpa using I.len⟩ ⟨_,hs,.inl rfl⟩
  ·exact (hs.2 b (Yx (Yz (Ym e) I.ok.above))).trans (I.base.keep b o e n hb hx)
  ·obtain⟨sl,e1⟩:=I.base.slot b o e n hb hx;exact⟨sl,(hs.2 b (Yx (Yz (Ym e) I.ok.above))).trans e1⟩
  ·obtain⟨o',e1⟩:=I.base.there b o e hx;exact⟨o',(hs.2 b (Yx (Yz (Ym e) I.ok.above))).trans e1⟩
  ·by_cases hj:j=i
   ·subst hj;rw[hi] at e1; cases e1;rw[YT hiσ] at e2;cases e2;exact⟨u,r,.inl ⟨hk,by simp⟩⟩
   ·rw[YC (Y7 hj)] at e2;obtain⟨u',r',q⟩:=hl j y v' e1 e2 e3;refine⟨u',r',?_⟩;rcases q with⟨k,e⟩ | ⟨k,c,e,z⟩
    ·refine .inl ⟨k,?_⟩;have:y≠x:=fun e=>hj (ZkC hN e1 (e ▸ hi));simp[this,e]
    ·exact .inr ⟨k,c,e,z.sameBut hs (cne y c e)⟩
  ·obtain⟨w',z⟩:=I.cell y c e;exact⟨w',z.sameBut hs (cne y c e)⟩
  ·obtain⟨e,n,ne,nf,d⟩:=I.pin p hp;exact⟨(hs.2 p.1 ne).trans e,n,ne,nf,d⟩
 ·have hfn:X.fn x=true:=by
   rcases hf with z | z
   ·exact z
   ·rw[z] at hk; cases hk
  obtain⟨c,hc⟩:=I.ok.has x (.inl hk);obtain⟨w',z⟩:=I.cell x c hc;refine wpAny_storeName_cell I.ok.kind hk hc z (fun h' hc' hs => ?_);obtain⟨oc,hoc,hocd⟩:=id z;refine h { s with heap:=h' } ⟨I.ok,I.os,I.bare,⟨fun b o e n hb hx => ?_,fun b o e n hb hx => ?_,I.base.free,fun b o e hx => ?_,I.base.tups,I.base.frzs,I.base.tbls⟩,⟨m,hn.sameBut hs (Y7 (cne x c hc)),fun j y v' e1 e2 e3 => ?_⟩,fun y c' e => ?_,I.free,I.freeC,fun p hp => ?_,tracked ⟨oc,hoc,I.freeC x c hc⟩ hs,by simpa using I.len⟩ ⟨c,hs,.inr hc⟩
  ·exact (hs.2 b (Yx (Yz (Ym e) (I.ok.cab x c hfn hc)))).trans (I.base.keep b o e n hb hx)
  ·obtain⟨sl,e1⟩:=I.base.slot b o e n hb hx;exact⟨sl,(hs.2 b (Yx (Yz (Ym e) (I.ok.cab x c hfn hc)))).trans e1⟩
  ·obtain⟨o',e1⟩:=I.base.there b o e hx;exact⟨o',(hs.2 b (Yx (Yz (Ym e) (I.ok.cab x c hfn hc)))).trans e1⟩
  ·by_cases hj:j=i
   ·subst hj;rw[hi] at e1; cases e1;rw[YT hiσ] at e2;cases e2;exact⟨u,r,.inr ⟨.inl hk,c,hc,hc'⟩⟩
   ·rw[YC (Y7 hj)] at e2;obtain⟨u',r',q⟩:=hl j y v' e1 e2 e3;refine⟨u',r',?_⟩;rcases q with q | ⟨k,c',e,z'⟩
    ·exact .inl q
    ·refine .inr ⟨k,c',e,z'.sameBut hs ?_⟩;rintro rfl;exact hj (ZkC hN e1 (I.ok.inj _ _ _ e hc ▸ hi))
  ·by_cases hcc:c'=c
   ·subst hcc; exact⟨_,hc'⟩
   ·obtain⟨w2,z2⟩:=I.cell y c' e;exact⟨w2,z2.sameBut hs hcc⟩
  ·obtain⟨e,n,ne,nf,d⟩:=I.pin p hp;refine⟨(hs.2 p.1 ?_).trans e,n,ne,nf,d⟩;intro q;rw[q,hoc] at e;have q':oc=p.2:=Option.some.inj e;exact d w' (by rw[<-q']; exact hocd)
theorem Zks{M:Model}{A:P4}{E:P7->P1->Prop}{i:Nat}{x:Str}{v:V}{u:P7}{Q:Unit->P1->Prop}(I:Inv X pins σ H s)(hN:X.N.Nodup)(hi:X.N[i]?=some x)(hx:Loc X.env.scope x)(r:RelV v u)
  (h:∀s',Inv X pins (σ.set i (some v)) H s'->Q () s') (hf:X.fn x=true\/X.env.scope.names.lookup x=some .local:=by first | exact .inl rfl | exact .inr rfl | assumption):wpAny M A (storeName X.env x u) Q E s :=
 Zqm I hN hi hx r (fun s' I' _=>h s' I') hf
theorem Inv.call'{s':P1}{ch:List Addr}(I:Inv X pins σ H s)(ho:s'.os=s.os)(u:Un (frs X.stack) ch H H' s.heap s'.heap)(hok:HOk X.prog X.w H' s'.heap)(hg:AllBare s'.gens)
  (hch:∀b∈ch,(b∈X.ex\/X.s₀.heap.objs.size<=b)/\b≠X.env.locals/\(∀x c,X.env.cells.lookup x=some c->c≠b)/\∀p∈X.pn++pins,p.1≠b):Inv X pins σ H' s':=by
 obtain⟨h',g',d',t',o'⟩:=s';have e:o'=s.os:=ho;subst e;exact I.call (g':=g') (t':=t') (d':=d') u hok hg hch
end
noncomputable abbrev XK:=P7->Option Addr->Hp->Prop
noncomputable abbrev St:=List (Option V)
noncomputable abbrev VK:=V->Hp->Prop
noncomputable abbrev TE:=St->Hp->VK->Prop
noncomputable abbrev TT:=St->Hp->(Bool->Hp->Prop)->Prop
noncomputable abbrev TA:=St->Hp->(List V->Hp->Prop)->Prop
structure Ends where
 nx:St->Hp->Prop
 rt:VK
 bk:St->Hp->Prop:=fun _ _=>False
 ct:St->Hp->Prop:=fun _ _=>False
noncomputable abbrev TS:=Ends->St->Hp->Prop
def EP(X:Cx)(pins:List (Addr×Obj))(σ:St)(Q:VK)(u:P7)(s':P1):Prop:=∃v H',Inv X pins σ H' s'/\RelV v u/\Q v H'
def TP(X:Cx)(pins:List (Addr×Obj))(σ:St)(Q:Bool->Hp->Prop)(b:Bool)(s':P1):Prop:=∃H',Inv X pins σ H' s'/\Q b H'
def AP(X:Cx)(pins:List (Addr×Obj))(σ:St)(Q:List V->Hp->Prop)(us:List P7)(s':P1):Prop:=∃vs H',Inv X pins σ H' s'/\Vals vs us/\Q vs H'
def SP(X:Cx)(pins:List (Addr×Obj))(D:Ends)(f:Flow)(s':P1):Prop :=
 match f with
 | .next => ∃σ' H',Inv X pins σ' H' s'/\D.nx σ' H'
 | .brk => ∃σ' H',Inv X pins σ' H' s'/\D.bk σ' H'
 | .cont => ∃σ' H',Inv X pins σ' H' s'/\D.ct σ' H'
 | .ret u => ∃v σ' H',Inv X pins σ' H' s'/\RelV v u/\D.rt v H'
def PE(X:Cx)(e:Expr)(t:TE):Prop :=
 ∀(pins:List (Addr×Obj)) (s:P1) (σ:St) (H:Hp) (Q:VK),Inv X pins σ H s->t σ H Q->wpAny (model X.prog X.w) X.A (eval e X.env) (EP X pins σ Q) X.xe s
def PT(X:Cx)(e:Expr)(t:TT):Prop :=
 ∀(pins:List (Addr×Obj)) (s:P1) (σ:St) (H:Hp) (Q:Bool->Hp->Prop),Inv X pins σ H s->t σ H Q->wpAny (model X.prog X.w) X.A (isTrue e X.env (eval e X.env)) (TP X pins σ Q) X.xe s
def PW(X:Cx)(e:Expr)(t:TT):Prop :=
 ∀(whole:Sem P7) (pins:List (Addr×Obj)) (s:P1) (σ:St) (H:Hp) (Q:Bool->Hp->Prop),Inv X pins σ H s->t σ H Q->wpAny (model X.prog X.w) X.A (isTrue e X.env whole) (TP X pins σ Q) X.xe s
theorem PW.pt{X:Cx}{e:Expr}{t:TT}(h:PW X e t):PT X e t:=h _
def PA(X:Cx)(es:List Expr)(t:TA):Prop :=
 ∀(pos:Pos) (pins:List (Addr×Obj)) (s:P1) (σ:St) (H:Hp) (Q:List V->Hp->Prop),Inv X pins σ H s->t σ H Q->wpAny (model X.prog X.w) X.A (spliced (backTo pos (starEach es X.env))) (AP X pins σ Q) X.xe s
def PS(X:Cx)(st:Stmt)(t:TS):Prop :=
 ∀(pins:List (Addr×Obj)) (s:P1) (σ:St) (H:Hp) (D:Ends),Inv X pins σ H s->t D σ H->wpAny (model X.prog X.w) X.A (exec st X.env) (SP X pins D) X.xe s
def PSs(X:Cx)(st:List Stmt)(t:TS):Prop :=
 ∀(pins:List (Addr×Obj)) (s:P1) (σ:St) (H:Hp) (D:Ends),Inv X pins σ H s->t D σ H->wpAny (model X.prog X.w) X.A (execs st X.env) (SP X pins D) X.xe s
theorem thn{α:Type}{t:Sem α}{Q Q':α->P1->Prop}{M:Model}{A:P4}{E:P7->P1->Prop}{s:P1}(h:wpAny M A t Q E s)(hQ:∀a s,Q a s->Q' a s):wpAny M A t Q' E s:=YW h hQ fun _ _ x=>x
section
variable{X:Cx}
def ZsL(i:Nat):TE:=fun σ H Q => ∃v,σ[i]?=some (some v)/\Q v H
def tC(v:V):TE:=fun _ H Q=>Q v H
theorem Zng{i:Nat}{x:Str}{pos:Pos}(hN:X.N[i]?=some x)(hv:Vis X.env.scope x)(hd:(x == ("__debug__" : Str))=false:=by decide)(hcd:(x == ("__classdict__" : Str))=false:=by decide):PE X (.Name x pos) (ZsL i):=by
 intro pins s σ H Q I h;obtain⟨v,e,h⟩:=h;obtain⟨m,hn,hl⟩:=I.loc;obtain⟨u,r,l⟩:=hl i x v hN e hv;have fin:EP X pins σ Q u s:=⟨v,H,I,r,h⟩;rcases l with⟨hk,hm⟩ | ⟨hk,c,hc,hcell⟩
 ·exact wpAny_Name (wpAny_loadName_local I.ok.kind hk hn hm fin) hd
 ·rcases hk with hk | hk
  ·exact wpAny_Name (wpAny_loadName_cell I.ok.kind hk hc hcell fin) hd
  ·exact wpAny_Name (wpAny_loadName_free I.ok.kind hk hc hcell fin hcd) hd
theorem ZqA{i j pos}:PE X (.Constant (.int i) j pos) (tC (.int i)):=fun _ _ _ H _ I h=>wpAny_Constant_int ⟨.int i,H,I.tok _,⟨_,rfl⟩,h⟩
theorem ZlP{b j pos}:PE X (.Constant (.bool b) j pos) (tC (.bl b)):=fun _ _ _ H _ I h=>Constant_bool ⟨.bl b,H,I,rfl,h⟩
theorem Zrz{j pos}:PE X (.Constant .none j pos) (tC .non):=fun _ _ _ H _ I h=>Constant_none ⟨.non,H,I,rfl,h⟩
theorem ZoA{x j pos}:PE X (.Constant (.str x) j pos) (tC (.str x)):=fun _ _ _ H _ I h=>Calls.Constant_str ⟨.str x,H,I.tok _,⟨_,rfl⟩,h⟩
def Gl(X:Cx)(x:Str):Prop:=X.env.kindOf x=some .globalImplicit
theorem Zgl{E:P7->P1->Prop}{pins:List (Addr×Obj)}{s:P1}{σ:St}{H:Hp}{x:Str}{u:P7}{pos:Pos}{Q:P7->P1->Prop}(I:Inv X pins σ H s)(hg:Gl X x)(hm:X.mg x=some u)(h:Q u s)
  (hd:(x == ("__debug__" : Str))=false:=by decide):wpAny (model X.prog X.w) X.A (eval (.Name x pos) X.env) Q E s :=
 Calls.Name_function_global I.ok.kind hg (Calls.loadGlobal_global (by rw[I.ok.glob]; exact I.mod.glob.keeps I.bk) hm h) hd
theorem Zbi{E:P7->P1->Prop}{pins:List (Addr×Obj)}{s:P1}{σ:St}{H:Hp}{x:Str}{u:P7}{pos:Pos}{Q:P7->P1->Prop}(I:Inv X pins σ H s)(hg:Gl X x)(hm:X.mg x=none)(hv:bootBuiltins x=some u)(h:Q u s)
  (hn:x≠"__name__":=by decide) (hd:(x == ("__debug__" : Str))=false:=by decide):wpAny (model X.prog X.w) X.A (eval (.Name x pos) X.env) Q E s:=by
 obtain⟨mb,h1,h2⟩:=I.mod.blt;exact Calls.Name_function_global I.ok.kind hg (Calls.loadGlobal_builtin (by rw[I.ok.glob]; exact I.mod.glob.keeps I.bk) hm (by rw[I.ok.blt]; exact h1.keeps I.bk) ((h2 x hn).trans hv) h) hd
theorem ZkJ{x:Str}{v:V}{u:P7}{pos:Pos}(hg:Gl X x)(hm:X.mg x=some u)(r:RelV v u)(hd:(x == ("__debug__" : Str))=false:=by decide):PE X (.Name x pos) (tC v) :=
 fun _ _ _ H _ I h=>Zgl I hg hm ⟨v,H,I,r,h⟩ hd
variable{a b:Expr}{ta tb:TE}{pos:Pos}
def tB(t:TE):TT:=fun σ H Q=>t σ H fun x H1 => ∃c,x = .bl c/\Q c H1
theorem Zs1{e:Expr}{t:TE}(h:PE X e t)(he:∀whole,isTrue e X.env whole=(do let v <-whole; standAt e.pos; holding [v] (truthy v)):=by intro _; rfl):PT X e (tB t):=by
 intro pins s σ H Q I hw;refine isTrue_plain (thn (h pins s σ H _ I hw) fun v s1 ⟨x,H1,I1,r1,q1⟩ => ?_) (he _);obtain⟨d,rfl,q⟩:=q1;cases r1;exact Qw ⟨H1,I1,q⟩
variable{tA tB':TT}{rest:List Expr}
def ZoJ(t u:TT):TT:=fun σ H Q=>t σ H fun c H1=>if c=true then u σ H1 Q else Q false H1
def tOr(t u:TT):TT:=fun σ H Q=>t σ H fun c H1=>if c=true then Q true H1 else u σ H1 Q
def Zos(t:TT):TT:=fun σ H Q=>t σ H fun c H1=>Q (!c) H1
theorem ZpC(ha:PT X a tA):PW X (.BoolOp .And [a] pos) tA:=by
 intro wh pins s σ H Q I h;refine isTrue_and (thn (ha pins s σ H Q I h) fun c s1 e => ?_);cases c with
 | true=>exact isTrue_and_nil e
 | false=>exact e
theorem Znu(ha:PT X a tA):PW X (.BoolOp .Or [a] pos) tA:=by
 intro wh pins s σ H Q I h;refine isTrue_or (thn (ha pins s σ H Q I h) fun c s1 e => ?_);cases c with
 | false=>exact isTrue_or_nil e
 | true=>exact e
theorem Zq5(ha:PT X a tA)(hb:PW X (.BoolOp .And (b :: rest) pos) tB'):PW X (.BoolOp .And (a :: b :: rest) pos) (ZoJ tA tB'):=by
 intro wh pins s σ H Q I h;refine isTrue_and (thn (ha pins s σ H _ I h) fun c s1 ⟨H1,I1,q1⟩ => ?_);cases c with
 | true=>exact hb wh pins s1 σ H1 Q I1 q1
 | false=>exact⟨H1,I1,q1⟩
theorem Zns(ha:PT X a tA)(hb:PW X (.BoolOp .Or (b :: rest) pos) tB'):PW X (.BoolOp .Or (a :: b :: rest) pos) (tOr tA tB'):=by
 intro wh pins s σ H Q I h;refine isTrue_or (thn (ha pins s σ H _ I h) fun c s1 ⟨H1,I1,q1⟩ => ?_);cases c with
 | true=>exact⟨H1,I1,q1⟩
 | false=>exact hb wh pins s1 σ H1 Q I1 q1
theorem ZpL(ha:PT X a tA):PT X (.UnaryOp .Not a pos) (Zos tA):=by
 intro pins s σ H Q I h;exact isTrue_not (ha pins s σ H (fun c H1=>Q (!c) H1) I h)
def tIf(t:TT)(ta tb:TE):TE:=fun σ H Q=>t σ H fun c H1=>if c=true then ta σ H1 Q else tb σ H1 Q
theorem ZpN{c:Expr}(hc:PT X c tA)(ha:PE X a ta)(hb:PE X b tb):PE X (.IfExp c a b pos) (tIf tA ta tb):=by
 intro pins s σ H Q I h;refine wpAny_IfExp (thn (hc pins s σ H _ I h) fun d s1 ⟨H1,I1,q1⟩ => ?_);cases d with
 | true=>exact ha pins s1 σ H1 Q I1 q1
 | false=>exact hb pins s1 σ H1 Q I1 q1
end
def SqL(K:P3)(H:Hp)(a:Addr)(xs:List V):Prop :=
 Rd H a (.lst xs) \/
  ∃(o:Obj) (its:Array P7) (n:Nat),K.lookup a=some o/\o.cls = .type "list"/\o.dict=none/\o.data = .seq its n/\its.size<=sizeLine/\Vals xs its.toList
def SqT(K:P3)(H:Hp)(a:Addr)(xs:List V):Prop :=
 Rd H a (.tup xs) \/
  ∃(o:Obj) (its:Array P7) (n:Nat),K.lookup a=some o/\o.cls = .type "tuple"/\o.data = .seq its n/\its.size<=sizeLine/\Vals xs its.toList
def ZsF:P7->Option V
 | .none=>some .non
 | .bool b=>some (.bl b)
 | .int i _=>some (.int i)
 | .str x _=>some (.str x)
 | .bytes b _=>some (.byt b)
 | .float b _=>some (.flt b)
 | .ref a=>some (.ref a)
 | .type n=>some (.ty n)
 | _=>none
theorem RelV.abs{x:V}{u:P7}(r:RelV x u):ZsF u=some x:=by
 cases x with
 | non=>cases r; rfl
 | bl _=>cases r; rfl
 | int _=>obtain⟨t,rfl⟩:=r; rfl
 | str _=>obtain⟨t,rfl⟩:=r; rfl
 | byt _=>obtain⟨t,rfl⟩:=r; rfl
 | flt _=>obtain⟨t,rfl⟩:=r; rfl
 | ref _=>cases r; rfl
 | ty _=>cases r; rfl
theorem RelV.inj{x y:V}{u:P7}(r:RelV x u)(q:RelV y u):x=y:=Option.some.inj (r.abs.symm.trans q.abs)
theorem Vals.inj:∀{xs ys:List V} {us:List P7},Vals xs us->Vals ys us->xs=ys
 | _,_,_,.nil,.nil=>rfl
 | _,_,_,.cons r t,.cons r' t'=>by rw[r.inj r',Vals.inj t t']
section
variable{X:Cx}{pins:List (Addr×Obj)}{σ:St}{H:Hp}{s:P1}{a:Addr}{xs ys:List V}
theorem SqL.of{K:P3}(h:H a=some (.lst xs)):SqL K H a xs:=.inl (.inl h)
theorem SqT.of{K:P3}(h:H a=some (.tup xs)):SqT K H a xs:=.inl (.inl h)
theorem Inv.list(I:Inv X pins σ H s)(h:SqL X.K H a xs):∃its:List P7,Vals xs its/\PlainL s.heap a its.toArray/\xs.length<=sizeLine:=by
 rcases h with h | ⟨o,its,n,hk,hc,hd,hs,hz,r⟩
 ·obtain⟨z,its,n,r,e⟩:=h.ok I.hok;exact⟨its,r,⟨_,n,e,rfl,rfl,rfl⟩,z⟩
 ·refine⟨its.toList,r,⟨o,n,I.kIn a o hk,hc,hd,by simpa using hs⟩,?_⟩;have e:=r.length;simp only[Yo] at e;omega
theorem Inv.tuple(I:Inv X pins σ H s)(h:SqT X.K H a xs):∃its:List P7,Vals xs its/\IsTup s.heap a its.toArray/\xs.length<=sizeLine:=by
 rcases h with h | ⟨o,its,n,hk,hc,hs,hz,r⟩
 ·obtain⟨z,its,r,p,_⟩:=h.ok I.hok;exact⟨its,r,p,z⟩
 ·refine⟨its.toList,r,⟨o,I.kIn a o hk,hc,n,by simpa using hs⟩,?_⟩;have e:=r.length;simp only[Yo] at e;omega
theorem Inv.list_inj(I:Inv X pins σ H s)(h:SqL X.K H a xs)(h':SqL X.K H a ys):xs=ys:=by
 obtain⟨its,r,⟨o,n,e,_,_,d⟩,_⟩:=I.list h;obtain⟨its',r',⟨o',n',e',_,_,d'⟩,_⟩:=I.list h';rw[e] at e'; cases e';rw[d] at d';injection d' with d1 _;have:its=its':=by simpa using congrArg Array.toList d1
 subst this;exact r.inj r'
theorem Inv.tuple_inj(I:Inv X pins σ H s)(h:SqT X.K H a xs)(h':SqT X.K H a ys):xs=ys:=by
 obtain⟨its,r,⟨o,e,_,n,d⟩,_⟩:=I.tuple h;obtain⟨its',r',⟨o',e',_,n',d'⟩,_⟩:=I.tuple h';rw[e] at e'; cases e';rw[d] at d';injection d' with d1 _;have:its=its':=by simpa using congrArg Array.toList d1
 subst this;exact r.inj r'
end
noncomputable abbrev Cx.wish(X:Cx)(E:P7->P1->Prop):Cx:={ X with xe:=E }
noncomputable abbrev Cx.nox(X:Cx):Cx:=X.wish fun _ _=>False
theorem Cx.Ok.wish{X:Cx}(ok:X.Ok)(E:P7->P1->Prop):(X.wish E).Ok :=
 ⟨ok.mod,ok.kind,ok.glob,ok.blt,ok.above,ok.inj,ok.has,ok.cab,ok.hd,ok.frames,ok.stk,ok.exf,ok.bs,ok.bsz,ok.noex,ok.exfs,ok.funs,ok.frf⟩
theorem Cx.Ok.unwish{X:Cx}{E:P7->P1->Prop}(ok:(X.wish E).Ok):X.Ok :=
 ⟨ok.mod,ok.kind,ok.glob,ok.blt,ok.above,ok.inj,ok.has,ok.cab,ok.hd,ok.frames,ok.stk,ok.exf,ok.bs,ok.bsz,ok.noex,ok.exfs,ok.funs,ok.frf⟩
section
variable{X:Cx}{pins:List (Addr×Obj)}{σ:St}{H:Hp}{s:P1}{E:P7->P1->Prop}
theorem Inv.wish(I:Inv X pins σ H s)(E:P7->P1->Prop):Inv (X.wish E) pins σ H s:=⟨I.ok.wish E,I.os,I.bare,I.base,I.loc,I.cell,I.free,I.freeC,I.pin,I.hok,I.len⟩
theorem Inv.unwish(I:Inv (X.wish E) pins σ H s):Inv X pins σ H s:=⟨I.ok.unwish,I.os,I.bare,I.base,I.loc,I.cell,I.free,I.freeC,I.pin,I.hok,I.len⟩
theorem SP.unwish{D:Ends}{f:Flow}{s':P1}(h:SP (X.wish E) pins D f s'):SP X pins D f s':=by
 cases f with
 | next=>obtain⟨σ',H',I,q⟩:=h; exact⟨σ',H',I.unwish,q⟩
 | brk=>obtain⟨σ',H',I,q⟩:=h; exact⟨σ',H',I.unwish,q⟩
 | cont=>obtain⟨σ',H',I,q⟩:=h; exact⟨σ',H',I.unwish,q⟩
 | ret u=>obtain⟨v,σ',H',I,r,q⟩:=h; exact⟨v,σ',H',I.unwish,r,q⟩
theorem PSs.nox{st:List Stmt}{t:TS}(h:PSs X.nox st t):PSs X st t:=fun pins s σ H D I hw =>
 YW (h pins s σ H D (I.wish _) hw) (fun _ _ q=>q.unwish) fun _ _ z=>False.elim z
end
section
variable{X:Cx}{st:Stmt}{rest:List Stmt}{t u:TS}{e:Expr}{te:TE}{pos:Pos}
def ZoE:TS:=fun D σ H=>D.nx σ H
def Zk9(t u:TS):TS:=fun D σ H=>t { D with nx:=u D } σ H
theorem ZrR:PSs X [] ZoE:=fun _ _ σ H _ I h=>VU ⟨σ,H,I,h⟩
theorem ZsW(h1:PS X st t)(h2:PSs X rest u):PSs X (st :: rest) (Zk9 t u):=by
 intro pins s σ H D I h;refine wpAny_execs_cons (thn (h1 pins s σ H { D with nx:=u D } I h) fun f s1 q => ?_);cases f with
 | next =>
  obtain⟨σ',H',I',q⟩:=q;exact h2 pins s1 σ' H' D I' q
 | ret v=>exact q
 | brk=>exact q
 | cont=>exact q
theorem Zrs(h1:PS X st t):PSs X [st] t:=by
 intro pins s σ H D I h;refine wpAny_execs_cons (thn (h1 pins s σ H D I h) fun f s1 q => ?_);cases f with
 | next=>exact VU q
 | ret v=>exact q
 | brk=>exact q
 | cont=>exact q
theorem Inv.quiet{pins:List (Addr×Obj)}{σ:St}{H:Hp}{s:P1}(I:Inv X pins σ H s):interactive X.env=false:=by simp[interactive,I.ok.kind]
def ZrP(te:TE):TS:=fun D σ H=>te σ H fun _ H1=>D.nx σ H1
theorem Zrq(he:PE X e te)(hs:swapsWith e none pos.line X.env=pure false:=by rfl):PS X (.Expr e pos) (ZrP te):=by
 intro pins s σ H D I h;exact wpAny_Expr_any (thn (he pins s σ H _ I h) fun v s1 ⟨x,H1,I1,r1,q1⟩=>⟨σ,H1,I1,q1⟩) I.quiet hs
def ZlK(te:TE):TS:=fun D σ H=>te σ H D.rt
theorem ZnE(he:PE X e te):PS X (.Return (some e) pos) (ZlK te):=by
 intro pins s σ H D I h;exact wpAny_Return_some (thn (he pins s σ H _ I h) fun v s1 ⟨x,H1,I1,r1,q1⟩=>⟨x,σ,H1,I1,r1,q1⟩)
def ZmQ(c:TT)(t u:TS):TS:=fun D σ H=>c σ H fun b H1=>if b=true then t D σ H1 else u D σ H1
theorem Zq3{c:Expr}{a b:List Stmt}{tc:TT}(hc:PT X c tc)(ha:PSs X a t)(hb:PSs X b u):PS X (.If c a b pos) (ZmQ tc t u):=by
 intro pins s σ H D I h;refine wpAny_If (thn (hc pins s σ H _ I h) fun d s1 ⟨H1,I1,q1⟩ => ?_);cases d with
 | true=>exact ha pins s1 σ H1 D I1 q1
 | false=>exact hb pins s1 σ H1 D I1 q1
end
noncomputable abbrev TG:=V->St->Hp->(St->Hp->Prop)->Prop
noncomputable abbrev TGs:=List V->St->Hp->(St->Hp->Prop)->Prop
def PG(X:Cx)(target:Expr)(t:TG):Prop :=
 ∀(pins:List (Addr×Obj)) (s:P1) (σ:St) (H:Hp) (v:V) (u:P7) (Q:St->Hp->Prop),Inv X pins σ H s->RelV v u->t v σ H Q ->
  wpAny (model X.prog X.w) X.A (assign target X.env u) (fun _ s' => ∃σ' H',Inv X pins σ' H' s'/\Q σ' H') X.xe s
def PGs(X:Cx)(ts:List Expr)(t:TGs):Prop :=
 ∀(pins:List (Addr×Obj)) (s:P1) (σ:St) (H:Hp) (vs:List V) (us:List P7) (Q:St->Hp->Prop),Inv X pins σ H s->Vals vs us->t vs σ H Q ->
  wpAny (model X.prog X.w) X.A (assignInOrder ((assignEach ts X.env).map (·.2)) us) (fun _ s' => ∃σ' H',Inv X pins σ' H' s'/\Q σ' H') X.xe s
noncomputable abbrev Zf9:=V->V->V->Hp->(Hp->Prop)->Prop
def Zjk(X:Cx)(t:Zf9):Prop :=
 ∀(pins:List (Addr×Obj)) (s:P1) (σ:St) (H:Hp) (o i v:V) (ov iv u:P7) (Q:Hp->Prop),Inv X pins σ H s->RelV o ov->RelV i iv->RelV v u->t o i v H Q ->
  wpAny (model X.prog X.w) X.A (setItem ov iv u) (fun _ s' => ∃H',Inv X pins σ H' s'/\Q H') X.xe s
section
variable{X:Cx}{pos:Pos}
def Zhd(i:Nat):TG:=fun v σ H Q=>Q (σ.set i (some v)) H
theorem ZhS{i:Nat}{x:Str}(hN:X.N.Nodup)(hi:X.N[i]?=some x)(hx:Loc X.env.scope x)(hf:X.fn x=true\/X.env.scope.names.lookup x=some .local:=by first | exact .inl rfl | exact .inr rfl | assumption):PG X (.Name x pos) (Zhd i):=by
 intro pins s σ H v u Q I r h;exact wpAny_assign_Name (Zks I hN hi hx r (fun s' I'=>⟨_,H,I',h⟩) hf)
def ZoM:TGs:=fun vs σ H Q=>vs=[]/\Q σ H
def Zlx(t:TG)(u:TGs):TGs:=fun vs σ H Q => ∃v r,vs=v :: r/\t v σ H fun σ' H'=>u r σ' H' Q
theorem Zl6:PGs X [] ZoM:=by
 intro pins s σ H vs us Q I r h;obtain⟨e,h⟩:=h;subst e;cases r;exact assignInOrder_nil ⟨σ,H,I,h⟩
theorem Zs0{e:Expr}{es:List Expr}{t:TG}{u:TGs}(h1:PG X e t)(h2:PGs X es u)
  (hs:(assignEach (e :: es) X.env).map (·.2)=assign e X.env :: (assignEach es X.env).map (·.2):=by rfl):PGs X (e :: es) (Zlx t u):=by
 intro pins s σ H vs us Q I r h;obtain⟨v,vr,e1,h⟩:=h;subst e1;cases r with
 | cons r rr =>
  rw[hs];refine assignInOrder_cons (thn (h1 pins s σ H _ _ _ I r h) fun _ s1 ⟨σ1,H1,I1,q1⟩ => ?_);exact h2 pins s1 σ1 H1 _ _ Q I1 rr q1
def ZkU(K:P3)(n:Nat)(t:TGs):TG:=fun v σ H Q => ∃a xs,v = .ref a/\SqT K H a xs/\xs.length=n/\t xs σ H Q
theorem ZsB{es:List Expr}{k:Nat}{t:TGs}{n:Nat}(hc:X.calm=true)(h:PGs X es t)
  (hn:(assignEach es X.env).length=n:=by rfl) (hst:(assignEach es X.env).findIdx? (·.1)=none:=by rfl):PG X (.Tuple es k pos) (ZkU X.K n t):=by
 intro pins s σ H v u Q I r hw;obtain⟨a,xs,e1,hq,hl,hw⟩:=hw;subst e1;cases r;obtain⟨its,rv,ht,hz⟩:=I.tuple hq;refine assign_Tuple_tuple (I.ok.hd hc) ht (by simp[hn,<-hl,rv.length]) hst fun h' hx => ?_;have I1:Inv X pins σ H { s with heap:=h' }:=I.kept (t':=s.toks) fun b o e=>hx b o (Yx (Ym e)) e;exact h pins _ σ H xs _ Q I1 (by simpa using rv) hw
def ZmG(to ti:TE)(t:Zf9):TG:=fun v σ H Q=>to σ H fun o H1=>ti σ H1 fun i H2=>t o i v H2 fun H3=>Q σ H3
theorem Zn8{o i:Expr}{to ti:TE}{t:Zf9}(ho:PE X o to)(hi:PE X i ti)(hs:Zjk X t)
  (ha:∀v,assign (.Subscript o i pos) X.env v=(do
   let ov <-holding [v] (eval o X.env)
   let iv <-holding [v,ov] (eval i X.env)
   standAt pos
   holding [v,ov,iv] (setItem ov iv v)
   release [v,ov,iv] []):=by intro _; rfl):PG X (.Subscript o i pos) (ZmG to ti t):=by
 intro pins s σ H v u Q I r h;rw[ha];refine Ya (YM (thn (ho pins s σ H _ I h) fun ov s1 ⟨x,H1,I1,r1,q1⟩ => ?_));refine Ya (YM (thn (hi pins s1 σ H1 _ I1 q1) fun iv s2 ⟨y,H2,I2,r2,q2⟩ => ?_));refine Ya (wpAny_standAt (Ya (YM (thn (hs pins s2 σ H2 x y v ov iv u _ I2 r1 r2 r q2) fun _ s3 ⟨H3,I3,q3⟩ => ?_))));exact wpAny_release ⟨σ,H3,I3,q3⟩
def ZjP(te:TE)(g:TG):TS:=fun D σ H=>te σ H fun x H1=>g x σ H1 D.nx
theorem ZkO{tg e:Expr}{te:TE}{g:TG}(he:PE X e te)(hg:PG X tg g)(hs:swapsWithSole [tg] e pos.line X.env=pure false:=by rfl)(hw:swappedStores [tg] e X.env=pure none:=by rfl)
  (h1:(assignEach [tg] X.env).map (·.2)=[assign tg X.env]:=by rfl):PS X (.Assign [tg] e pos) (ZjP te g):=by
 intro pins s σ H D I h;refine wpAny_Assign_stores (thn (he pins s σ H _ I h) fun v s1 ⟨x,H1,I1,r1,q1⟩ => ?_) hs hw;rw[h1];exact thn (hg pins s1 σ H1 x v _ I1 r1 q1) fun _ s2 q=>q
theorem ZiX{i:Nat}{x:Str}{e:Expr}{te:TE}{pos':Pos}(hN:X.N.Nodup)(hi:X.N[i]?=some x)(hx:Loc X.env.scope x)(he:PE X e te)(hs:swapsWith e (some (.Name x pos')) pos.line X.env=pure false:=by rfl)(hf:X.fn x=true\/X.env.scope.names.lookup x=some .local:=by first | exact .inl rfl | exact .inr rfl | assumption) :
  PS X (.Assign [.Name x pos'] e pos) (ZjP te (Zhd i)):=by
 intro pins s σ H D I h;refine wpAny_Assign_Name (thn (he pins s σ H _ I h) fun v s1 ⟨y,H1,I1,r1,q1⟩ => ?_) hs;exact Zks I1 hN hi hx r1 (fun s2 I2=>⟨_,H1,I2,q1⟩) hf
end
section
variable{X:Cx}{pos:Pos}
def Zl7(c:TT)(tb:TS):TS:=fun D σ H => ∃W:Nat->St->Hp->Prop,(∃m,W m σ H)/\∀m σ H,W m σ H ->
 c σ H fun b H1=>if b=true then ∃N:St->Hp->Prop,(∀σ' H',N σ' H'->∃m',m' < m/\W m' σ' H')/\tb { D with nx:=N,ct:=N,bk:=D.nx } σ H1 else D.nx σ H1
theorem ZlC{c:Expr}{body:List Stmt}{tc:TT}{tb:TS}(hp:PassesOwn (model X.prog X.w) X.A X.env X.xe)(hc:PT X c tc)(hb:PSs X body tb):PS X (.While c body [] pos) (Zl7 tc tb):=by
 intro pins s σ H D I h;obtain⟨W,⟨m0,w0⟩,turn⟩:=h;refine wpAny_While (codeAny_whileLoop (fun n s' => ∃σ' H',Inv X pins σ' H' s'/\W n σ' H') ?_ m0 ⟨σ,H,I,w0⟩);rintro n s1 ⟨σ1,H1,I1,w1⟩;refine Qp hp (thn (hc pins s1 σ1 H1 _ I1 (turn n σ1 H1 w1)) fun b s2 ⟨H2,I2,q2⟩ => ?_);cases b with
 | true =>
  obtain⟨N,hN,q2⟩:=q2;rw[Yg rfl];refine Qp hp (thn (hb pins s2 σ1 H2 _ I2 q2) fun f s3 q3 => ?_);cases f with
  | next =>
   obtain⟨σ3,H3,I3,n3⟩:=q3;obtain⟨m',hm,w3⟩:=hN σ3 H3 n3;exact⟨m',hm,σ3,H3,I3,w3⟩
  | cont =>
   obtain⟨σ3,H3,I3,n3⟩:=q3;obtain⟨m',hm,w3⟩:=hN σ3 H3 n3;exact⟨m',hm,σ3,H3,I3,w3⟩
  | brk=>exact q3
  | ret v=>exact q3
 | false =>
  rw[Yh QN];exact VU ⟨σ1,H2,I2,q2⟩
end
structure It where
 go:Nat->Hp->Prop
 yld:Nat->Hp->V->Hp->Prop
 stop:Nat->Hp->Prop
def ZaF(X:Cx)(pins:List (Addr×Obj))(H:Hp)(b:Addr):Prop :=
 H b=none/\b≠X.env.locals/\b ∉ X.fs/\(b∈X.ex\/X.s₀.heap.objs.size<=b)/\(∀x c,X.env.cells.lookup x=some c->c≠b)/\∀p∈X.pn++pins,p.1≠b
theorem Inv.fpOk{X:Cx}{pins:List (Addr×Obj)}{σ:St}{H H':Hp}{s:P1}{b:Addr}(I:Inv X pins σ H s)(hb:s.heap.objs.size<=b)(hn:H' b=none):ZaF X pins H' b:=by
 refine⟨hn,QD (Yz I.lt hb),I.nofs hb,.inr (YI I.sz hb),fun x c e z => ?_,fun p hp z => ?_⟩
 ·obtain⟨v,q⟩:=I.cell x c e;exact absurd (Yz q.lt (by rw[z]; exact hb)) (Y8 _)
 ·exact absurd (Yz (Ym (I.pin p hp).1) (by rw[z]; exact hb)) (Y8 _)
structure Turn(P:P5)(w:World)(K:P3)(tg:Expr)(J:It)(fp:List Addr)(it:Addr)(tn:Nat->Heap->Prop):Prop where
 mem:it∈fp
 obj:∀i h,tn i h->∀b∈fp,∃o,h.get? b=some o/\∀v,o.data≠.cell v
 keep:∀i h h',tn i h->(∀b∈fp,∀o,h.get? b=some o->h'.get? b=some o)->tn i h'
 item:∀(X:Cx),X.prog=P->X.w=w->X.K=K->X.calm=true->∀(i:Nat) (pins:List (Addr×Obj)) (s:P1) (σ:St) (H:Hp) (E:P7->P1->Prop),Inv X pins σ H s->(∀b∈fp,ZaF X pins H b)->tn i s.heap->J.go i H ->
  wpAny (model P w) X.A (pyNext (.ref it)) (fun r s1 => ∃u,r=some u /\
   wpAny (model P w) X.A (letOwnedTupleGo tg (.ref it) u) (fun _ s2 => ∃x H',Inv X pins σ H' s2/\RelV x u/\J.yld i H x H'/\tn (i+1) s2.heap/\∀b∈fp,H' b=none) E s1) E s
 done:∀(X:Cx),X.prog=P->X.w=w->X.K=K->X.calm=true->∀(i:Nat) (pins:List (Addr×Obj)) (s:P1) (σ:St) (H:Hp) (E:P7->P1->Prop),Inv X pins σ H s->(∀b∈fp,ZaF X pins H b)->tn i s.heap->J.stop i H ->
  wpAny (model P w) X.A (pyNext (.ref it)) (fun r s1=>r=none/\Inv X pins σ H s1) E s
 self:∀(A:P4) (i:Nat) (s:P1) (Q:P7->P1->Prop) (E:P7->P1->Prop),tn i s.heap->Q (.ref it) s->wpAny (model P w) A (pyIter (.ref it)) Q E s
noncomputable abbrev TI:=St->Hp->(It->Hp->Prop)->Prop
def PIE(X:Cx)(pins:List (Addr×Obj))(σ:St)(tg:Expr)(R:It->Hp->Prop)(itv:P7)(s2:P1):Prop :=
 ∃(it:Addr) (fp:List Addr) (tn:Nat->Heap->Prop) (J:It) (H':Hp),itv = .ref it/\Inv X pins σ H' s2/\Turn X.prog X.w X.K tg J fp it tn/\tn 0 s2.heap/\(∀b∈fp,ZaF X pins H' b)/\R J H'
def PI(X:Cx)(tg iter:Expr)(wi:TI):Prop :=
 ∀(pins:List (Addr×Obj)) (s:P1) (σ:St) (H:Hp) (R:It->Hp->Prop),Inv X pins σ H s->wi σ H R ->
  wpAny (model X.prog X.w) X.A (eval iter X.env) (fun v s1=>wpAny (model X.prog X.w) X.A (pyIter v) (PIE X pins σ tg R) X.xe s1) X.xe s
theorem Zgo{M:Model}{A:P4}{E:P7->P1->Prop}{s:P1}{tg:Expr}{it:Addr}{u:P7}{o:Obj}{n:String}{vs:Array P7}{Q:Unit->P1->Prop}(ho:s.heap.get? it=some o)(hc:o.cls = .type n)(hd:o.data = .fields vs)
    (hn:["enumerate", "zip", "dict_itemiterator", "dict_reverseitemiterator", "odict_iterator", "itertools.zip_longest", "itertools.pairwise"].contains n=false) (hQ:Q () s):wpAny M A (letOwnedTupleGo tg (.ref it) u) Q E s:=by
  unfold letOwnedTupleGo;cases tg <;> first
    | exact Yb hQ
    | (cases u <;> first
        | exact Yb hQ
        | (refine Ya (wpAny_load ho ?_)
           rw[hc,hd];show wpAny M A (if (["enumerate", "zip", "dict_itemiterator", "dict_reverseitemiterator", "odict_iterator", "itertools.zip_longest", "itertools.pairwise"].contains n && vs[0]? == some (rawInt _))=true then _ else _) Q E s;rw[Yh (by intro h; rw[hn,Bool.false_and] at h; cases h)];exact Yb hQ))
def Itl(K:P3)(a:Addr):It :=
 ⟨fun i H => ∃xs x,SqL K H a xs/\xs[i]?=some x,fun i H x H'=>H'=H/\∀xs,SqL K H a xs->xs[i]?=some x,fun i H => ∃xs,SqL K H a xs/\xs.length<=i⟩
def Itt(K:P3)(a:Addr):It :=
 ⟨fun i H => ∃xs x,SqT K H a xs/\xs[i]?=some x,fun i H x H'=>H'=H/\∀xs,SqT K H a xs->xs[i]?=some x,fun i H => ∃xs,SqT K H a xs/\xs.length<=i⟩
def Itr(lo:Int)(n:Nat):It:=⟨fun i _=>i<n,fun i H x H'=>H'=H/\x = .int (lo+i),fun i _=>n<=i⟩
theorem ZnQ{P:P5}{w:World}{K:P3}{tg:Expr}(a it:Addr):Turn P w K tg (Itl K a) [it] it (fun i h=>h.IsListIter it a i) where
 mem:=by simp
 obj:=fun i h st b hb=>by
  have e:b=it:=by simpa using hb
  subst e;obtain⟨o,e,c,d⟩:=st;exact⟨o,e,fun v z=>by rw[d] at z; cases z⟩
 keep:=fun i h h' st k=>st.at fun o e=>k it (by simp) o e
 item:=by
  intro X hP hw hK hc i pins s σ H E I hf st hg;subst hP hw hK;obtain⟨xs,x,hq,hx⟩:=hg;obtain⟨its,rv,p,hz⟩:=I.list hq;obtain⟨u,hu,ru⟩:=rv.get hx;obtain⟨f0,f1,f2,f3,f4,f5⟩:=hf it (by simp);refine wpAny_pyNext_list_item st p.isList (x:=u) (by simpa using hu) fun h' st' sb => ?_;have I1:Inv X pins σ H { s with heap:=h' }:=I.turned (t':=s.toks) (fun b o hb e=>(sb.2 b hb).trans e) f0 f1 f3 f4 f5;obtain⟨o,e,c,d⟩:=id st';exact⟨u,rfl,Zgo (s:={ s with heap:=h' }) e c d (by decide) ⟨x,H,I1,ru,⟨rfl,fun ys hy=>by rw[I.list_inj hy hq]; exact hx⟩,st',fun b hb=>(hf b hb).1⟩⟩
 done:=by
  intro X hP hw hK hc i pins s σ H E I hf st hg;subst hP hw hK;obtain⟨xs,hq,hx⟩:=hg;obtain⟨its,rv,p,hz⟩:=I.list hq;obtain⟨f0,f1,f2,f3,f4,f5⟩:=hf it (by simp);have hl:=rv.length;exact wpAny_pyNext_list_end (I.ok.hd hc) st p.isList (by simp; omega) fun h' eb=>⟨rfl,I.turned (t':=s.toks) (fun b o hb e=>eb b o hb e) f0 f1 f3 f4 f5⟩
 self:=fun _ _ _ _ _ st h=>wpAny_pyIter_listiter st h
theorem Zpa{P:P5}{w:World}{K:P3}{tg:Expr}(a it:Addr):Turn P w K tg (Itt K a) [it] it (fun i h=>h.IsTupleIter it a i) where
 mem:=by simp
 obj:=fun i h st b hb=>by
  have e:b=it:=by simpa using hb
  subst e;obtain⟨o,e,c,d⟩:=st;exact⟨o,e,fun v z=>by rw[d] at z; cases z⟩
 keep:=fun i h h' st k=>st.at fun o e=>k it (by simp) o e
 item:=by
  intro X hP hw hK hc i pins s σ H E I hf st hg;subst hP hw hK;obtain⟨xs,x,hq,hx⟩:=hg;obtain⟨its,rv,p,hz⟩:=I.tuple hq;obtain⟨u,hu,ru⟩:=rv.get hx;obtain⟨f0,f1,f2,f3,f4,f5⟩:=hf it (by simp);refine wpAny_pyNext_tuple_item st (show s.heap.IsTuple a its.toArray from p) (x:=u) (by simpa using hu) fun h' st' sb => ?_;have I1:Inv X pins σ H { s with heap:=h' }:=I.turned (t':=s.toks) (fun b o hb e=>(sb.2 b hb).trans e) f0 f1 f3 f4 f5;obtain⟨o,e,c,d⟩:=id st';exact⟨u,rfl,Zgo (s:={ s with heap:=h' }) e c d (by decide) ⟨x,H,I1,ru,⟨rfl,fun ys hy=>by rw[I.tuple_inj hy hq]; exact hx⟩,st',fun b hb=>(hf b hb).1⟩⟩
 done:=by
  intro X hP hw hK hc i pins s σ H E I hf st hg;subst hP hw hK;obtain⟨xs,hq,hx⟩:=hg;obtain⟨its,rv,p,hz⟩:=I.tuple hq;obtain⟨f0,f1,f2,f3,f4,f5⟩:=hf it (by simp);have hl:=rv.length;exact wpAny_pyNext_tuple_end (I.ok.hd hc) st (show s.heap.IsTuple a its.toArray from p) (by simp; omega) fun h' eb=>⟨rfl,I.turned (t':=s.toks) (fun b o hb e=>eb b o hb e) f0 f1 f3 f4 f5⟩
 self:=fun _ _ _ _ _ st h=>wpAny_pyIter_tupleiter st h
theorem ZpB{P:P5}{w:World}{K:P3}{tg:Expr}(it:Addr)(lo:Int)(n:Nat):Turn P w K tg (Itr lo n) [it] it (fun i h=>IsRangeIter h it (lo+(i:Nat) * 1) ((n:Int) - (i:Nat)) 1) where
 mem:=by simp
 obj:=fun i h st b hb=>by
  have e:b=it:=by simpa using hb
  subst e;exact⟨_,st,fun v z=>by
   have z':Data.fields _=Data.cell v:=z;cases z'⟩
 keep:=fun i h h' st k=>k it (by simp) _ st
 item:=by
  intro X hP hw hK hc i pins s σ H E I hf st hg;subst hP hw hK;obtain⟨f0,f1,f2,f3,f4,f5⟩:=hf it (by simp);have W:=Walks.range (prog:=X.prog) (w:=X.w) (I.ok.hd hc) it lo 1 n;refine W.item i s _ _ hg st fun v h' tk hv st' kk => ?_;obtain⟨t,rfl⟩:=hv;have I1:Inv X pins σ H { s with heap:=h',toks:=tk }:=I.turned (fun b o hb e=>kk b o (by simpa using hb) e) f0 f1 f3 f4 f5;refine⟨_,rfl,Zgo (s:={ s with heap:=h',toks:=tk }) (n:="range_iterator") st' rfl rfl (by decide) ⟨.int (lo+i),H,I1,⟨t,?_⟩,⟨rfl,rfl⟩,st',fun b hb=>(hf b hb).1⟩⟩;rw[Int.mul_one]
 done:=by
  intro X hP hw hK hc i pins s σ H E I hf st hg;subst hP hw hK;obtain⟨f0,f1,f2,f3,f4,f5⟩:=hf it (by simp);exact wpAny_pyNext_range_end (I.ok.hd hc) st (by have:n<=i:=hg; omega) fun h' eb=>⟨rfl,I.turned (t':=s.toks) (fun b o hb e=>eb b o hb e) f0 f1 f3 f4 f5⟩
 self:=fun _ _ _ _ _ st h=>wpAny_pyIter_rangeiter st h
section
variable{X:Cx}{tg:Expr}
def Zo2(K:P3)(tl:TE):TI:=fun σ H R=>tl σ H fun x H1 => ∃a,x = .ref a/\(∃xs,SqL K H1 a xs)/\R (Itl K a) H1
def ZsA(K:P3)(tl:TE):TI:=fun σ H R=>tl σ H fun x H1 => ∃a,x = .ref a/\(∃xs,SqT K H1 a xs)/\R (Itt K a) H1
theorem ZoB{l:Expr}{tl:TE}(hl:PE X l tl):PI X tg l (Zo2 X.K tl):=by
 intro pins s σ H R I h;refine thn (hl pins s σ H _ I h) fun v s1 ⟨x,H1,I1,r1,q1⟩ => ?_;obtain⟨a,e,⟨xs,hq⟩,q⟩:=q1;subst e;cases r1;obtain⟨its,rv,p,hz⟩:=I1.list hq;refine Vs p.isList ?_;refine⟨s1.heap.objs.size,[s1.heap.objs.size],_,_,H1,rfl,I1.kept (t':=s1.toks) fun b o e=>Ye _ e,ZnQ a _,⟨_,Yq _ rfl,rfl,rfl⟩,fun b hb => ?_,q⟩;have e:b=s1.heap.objs.size:=by simpa using hb
 subst e;exact I1.fpOk (Yi _) (I1.hok.fresh (Yi _))
theorem Zp9{l:Expr}{tl:TE}(hl:PE X l tl):PI X tg l (ZsA X.K tl):=by
 intro pins s σ H R I h;refine thn (hl pins s σ H _ I h) fun v s1 ⟨x,H1,I1,r1,q1⟩ => ?_;obtain⟨a,e,⟨xs,hq⟩,q⟩:=q1;subst e;cases r1;obtain⟨its,rv,p,hz⟩:=I1.tuple hq;refine Vd (show s1.heap.IsTuple a its.toArray from p) ?_;refine⟨s1.heap.objs.size,[s1.heap.objs.size],_,_,H1,rfl,I1.kept (t':=s1.toks) fun b o e=>Ye _ e,Zpa a _,⟨_,Yq _ rfl,rfl,rfl⟩,fun b hb => ?_,q⟩;have e:b=s1.heap.objs.size:=by simpa using hb
 subst e;exact I1.fpOk (Yi _) (I1.hok.fresh (Yi _))
theorem ZlO{pins:List (Addr×Obj)}{σ:St}{H:Hp}{s:P1}{R:It->Hp->Prop}{E:P7->P1->Prop}{lo hi:Int}{t u v:Tok}{tk:Nat}(I:Inv X pins σ H s)(h1 : -(2 ^ 62)<=lo)(h2:lo<2 ^ 62)(h3 : -(2 ^ 62)<=hi)(h4:hi<2 ^ 62)
  (q:R (Itr lo (hi - lo).toNat) H):wpAny (model X.prog X.w) X.A (pyIter (.ref s.heap.objs.size)) (PIE X pins σ tg R) E { s with heap:=s.heap.push { cls:=.type "range",data:=.fields #[.int lo t,.int hi u,.int 1 v] },toks:=tk }:=by
 refine wpAny_pyIter_range (IsRange.new ..) (small_one h1 h2 h3 h4) ?_;have I1:Inv X pins σ H { s with heap:=s.heap.push { cls:=.type "range",data:=.fields #[.int lo t,.int hi u,.int 1 v] },toks:=tk }:=I.kept fun b o e=>Ye _ e;refine⟨(s.heap.push { cls:=.type "range",data:=.fields #[.int lo t,.int hi u,.int 1 v] }).objs.size,[(s.heap.push { cls:=.type "range",data:=.fields #[.int lo t,.int hi u,.int 1 v] }).objs.size],_,_,H,rfl,
  I1.kept (t':=tk) fun b o e=>Ye _ e,ZpB _ lo (hi - lo).toNat,?_,fun b hb => ?_,q⟩
 ·have e1:lo+((0:Nat):Int) * 1=lo:=by simp
  have e2:(((hi - lo).toNat:Nat):Int) - ((0:Nat):Int)=Builtin.Range.rangeSize lo hi 1:=by rw[rangeSize_one]; split <;> omega
  show IsRangeIter _ _ (lo+((0:Nat):Int) * 1) ((((hi - lo).toNat:Nat):Int) - ((0:Nat):Int)) 1;rw[e1,e2];exact Yq _ rfl
 ·have e:b=(s.heap.push { cls:=.type "range",data:=.fields #[.int lo t,.int hi u,.int 1 v] }).objs.size:=by simpa using hb
  subst e;exact I1.fpOk (Yi _) (I1.hok.fresh (Yi _))
def ZsT(ta:TA):TI:=fun σ H R=>ta σ H fun vs H1 => ∃j:Int,vs=[.int j]/\-(2 ^ 62)<=j/\j<2 ^ 62/\R (Itr 0 j.toNat) H1
theorem Zmg{a:Expr}{ta:TA}{p pos:Pos}(hg:Gl X "range")(hm:X.mg "range" = none)(ha:PA X [a] ta)(hs:starEach [a] X.env=[(false,eval a X.env)]:=by rfl):PI X tg (.Call (.Name "range" p) [a] [] pos) (ZsT ta):=by
 intro pins s σ H R I h;refine Call_ (Zbi I hg hm boot_range (Ww (thn (ha pos pins s σ H _ I h) fun us s1 ⟨vs,H1,I1,r1,q1⟩ => ?_) hs rfl));obtain⟨j,e,q1,q2,q⟩:=q1;subst e;cases r1 with
 | cons r rr =>
  cases rr;obtain⟨t,rfl⟩:=r;exact call_range_1 (ZlO I1 (by omega) (by omega) q1 q2 (by simpa using q))
def Zok(wi:TI)(g:TG)(tb:TS):TS:=fun D σ H=>wi σ H fun J H1 => ∃W:Nat->Nat->St->Hp->Prop,(∃m,W 0 m σ H1)/\∀i m σ H,W i m σ H ->
 (J.stop i H/\D.nx σ H)\/(J.go i H/\∃N:St->Hp->Prop,(∀σ' H',N σ' H'->∃m',m' < m/\W (i+1) m' σ' H')/\∀x H',J.yld i H x H'->g x σ H' fun σ2 H2=>tb { D with nx:=N,ct:=N,bk:=D.nx } σ2 H2)
def ZaD(fp:List Addr)(h:Heap):List (Addr×Obj):=fp.filterMap fun b=>(h.get? b).map fun o=>(b,o)
theorem Zec{fp:List Addr}{h:Heap}{b:Addr}{o:Obj}(hb:b∈fp)(e:h.get? b=some o):(b,o)∈ZaD fp h:=QO.mpr ⟨b,hb,by rw[e]; rfl⟩
theorem ZhZ{fp:List Addr}{h:Heap}{p:Addr×Obj}(hp:p∈ZaD fp h):p.1∈fp/\h.get? p.1=some p.2:=by
 obtain⟨b,hb,e⟩:=QO.mp hp;cases q:h.get? b with
 | none=>rw[q] at e; cases e
 | some o =>
  rw[q] at e;have e':(b,o)=p:=Option.some.inj e;subst e';exact⟨hb,q⟩
theorem Inv.pinned{pins:List (Addr×Obj)}{σ:St}{H:Hp}{s:P1}{fp:List Addr}(I:Inv X pins σ H s)(hf:∀b∈fp,ZaF X pins H b)(ho:∀b∈fp,∃o,s.heap.get? b=some o/\∀v,o.data≠.cell v):Inv X (pins++ZaD fp s.heap) σ H s :=
 I.pins_of fun p hp=>(YJ.mp hp).elim (fun z=>I.pin p (YK _ z)) fun z=>by
  obtain⟨hb,e⟩:=ZhZ z;obtain⟨f0,f1,f2,_⟩:=hf p.1 hb;obtain⟨o,e',d⟩:=ho p.1 hb;rw[e] at e'; cases e';exact⟨e,f0,f1,f2,d⟩
theorem Inv.unpinned{pins pl:List (Addr×Obj)}{σ:St}{H:Hp}{s:P1}(I:Inv X (pins++pl) σ H s):Inv X pins σ H s:=I.pins_of fun p hp=>I.pin p (YK _ (Wn _ hp))
theorem Zry{iter:Expr}{body:List Stmt}{wi:TI}{g:TG}{tb:TS}{pos:Pos}(hp:PassesOwn (model X.prog X.w) X.A X.env X.xe)(hc:X.calm=true)(hi:PI X tg iter wi)(hg:PG X tg g)(hb:PSs X body tb)
  (hs:∀x,foldedSetIterable iter X.env x=pure x:=by intro _; rfl):PS X (.For tg iter body [] pos) (Zok wi g tb):=by
 intro pins s σ H D I h;refine wpAny_For (thn (hi pins s σ H _ I h) fun v s1 h1=>thn h1 fun itv s2 h2 => ?_) hs;obtain⟨it,fp,tn,J,H2,e,I2,T,st2,f2,W,⟨m0,w0⟩,turn⟩:=h2;subst e;have stat:∀{H':Hp},(∀b∈fp,H' b=none)->∀b∈fp,ZaF X pins H' b:=fun hn b hb=>⟨hn b hb,(f2 b hb).2⟩;refine codeAny_forLoop_any (fun n s' => ∃i σ' H',Inv X pins σ' H' s'/\tn i s'.heap/\(∀b∈fp,H' b=none)/\W i n σ' H') ?_ m0 ⟨0,σ,H2,I2,st2,fun b hb=>(f2 b hb).1,w0⟩;rintro n s3 ⟨i,σ3,H3,I3,st3,fr3,w3⟩;rcases turn i n σ3 H3 w3 with⟨stop,qn⟩ | ⟨go,N,hN,step⟩
 ·refine Qp hp (thn (T.done X rfl rfl rfl hc i pins s3 σ3 H3 X.xe I3 (stat fr3) st3 stop) fun r s4 ⟨hr,I4⟩ => ?_);subst hr;exact VU ⟨σ3,H3,I4,qn⟩
 ·refine Qp hp (thn (T.item X rfl rfl rfl hc i pins s3 σ3 H3 X.xe I3 (stat fr3) st3 go) fun r s4 ⟨u,hr,h4⟩ => ?_);subst hr;refine Qp hp (thn h4 fun _ s5 ⟨x,H5,I5,r5,y5,st5,fr5⟩ => ?_);have I5':=I5.pinned (stat fr5) (T.obj _ _ st5);refine Qp hp (thn (hg _ s5 σ3 H5 x u _ I5' r5 (step x H5 y5)) fun _ s6 ⟨σ6,H6,I6,q6⟩ => ?_);refine Qp hp (thn (hb _ s6 σ6 H6 _ I6 q6) fun f s7 q7 => ?_);have again:∀{σ7:St} {H7:Hp},Inv X (pins++ZaD fp s5.heap) σ7 H7 s7->N σ7 H7->∃m,m<n/\∃i σ' H',Inv X pins σ' H' s7/\tn i s7.heap/\(∀b∈fp,H' b=none)/\W i m σ' H':=fun {σ7 H7} I7 n7=>by
   obtain⟨m',hm,w7⟩:=hN σ7 H7 n7;refine⟨m',hm,i+1,σ7,H7,I7.unpinned,T.keep _ _ _ st5 fun b hb o e=>(I7.pin (b,o) (YK _ (YK _ (Zec hb e)))).1,fun b hb => ?_,w7⟩;obtain⟨o,e,d⟩:=T.obj _ _ st5 b hb;exact (I7.pin (b,o) (YK _ (YK _ (Zec hb e)))).2.1
  cases f with
  | next=>obtain⟨σ7,H7,I7,n7⟩:=q7; exact again I7 n7
  | cont=>obtain⟨σ7,H7,I7,n7⟩:=q7; exact again I7 n7
  | brk=>obtain⟨σ7,H7,I7,q7⟩:=q7; exact⟨σ7,H7,I7.unpinned,q7⟩
  | ret v=>obtain⟨x7,σ7,H7,I7,r7,q7⟩:=q7; exact⟨x7,σ7,H7,I7.unpinned,r7,q7⟩
end
noncomputable abbrev R2:=V->V->Hp->VK->Prop
def OpR(X:Cx)(f:P7->P7->Sem P7)(r:R2):Prop :=
 ∀(pins:List (Addr×Obj)) (s:P1) (σ:St) (H:Hp) (x y:V) (v u:P7) (Q:VK),Inv X pins σ H s->RelV x v->RelV y u->r x y H Q ->
  wpAny (model X.prog X.w) X.A (f v u) (EP X pins σ Q) X.xe s
def UnR(X:Cx)(f:P7->Sem P7)(r:V->Hp->VK->Prop):Prop :=
 ∀(pins:List (Addr×Obj)) (s:P1) (σ:St) (H:Hp) (x:V) (v:P7) (Q:VK),Inv X pins σ H s->RelV x v->r x H Q ->
  wpAny (model X.prog X.w) X.A (f v) (EP X pins σ Q) X.xe s
def Za4(X:Cx)(f:P7)(r:List V->Hp->VK->Prop):Prop :=
 ∀(pins:List (Addr×Obj)) (s:P1) (σ:St) (H:Hp) (xs:List V) (us:List P7) (Q:VK),Inv X pins σ H s->Vals xs us->r xs H Q ->
  wpAny (model X.prog X.w) X.A (call f us) (EP X pins σ Q) X.xe s
def tOp(r:R2)(ta tb:TE):TE:=fun σ H Q=>ta σ H fun x H1=>tb σ H1 fun y H2=>r x y H2 Q
def tUn(r:V->Hp->VK->Prop)(ta:TE):TE:=fun σ H Q=>ta σ H fun x H1=>r x H1 Q
def rI(C:Int->Int->Prop)(g:Int->Int->V):R2:=fun x y H Q => ∃i j,x = .int i/\y = .int j/\C i j/\Q (g i j) H
def rI0(g:Int->Int->V):R2:=fun x y H Q => ∃i j,x = .int i/\y = .int j/\Q (g i j) H
def rU(g:Int->V):V->Hp->VK->Prop:=fun x H Q => ∃i,x = .int i/\Q (g i) H
section
variable{X:Cx}{a b c:Expr}{ta tb tc:TE}{pos:Pos}
theorem Zfl(ha:PE X a ta)(hb:PE X b tb){pins:List (Addr×Obj)}{s:P1}{σ:St}{H:Hp}{R:V->V->Hp->Prop}(I:Inv X pins σ H s)
  (h:ta σ H fun x H1=>tb σ H1 fun y H2=>R x y H2) {Q:P7->P1->Prop} {f:P7->P7->Sem P7}
  (hf:∀v u s2 x y H2,Inv X pins σ H2 s2->RelV x v->RelV y u->R x y H2->wpAny (model X.prog X.w) X.A (f v u) Q X.xe s2) :
  wpAny (model X.prog X.w) X.A (eval a X.env) (fun v s₁=>wpAny (model X.prog X.w) X.A (eval b X.env) (fun u s₂=>wpAny (model X.prog X.w) X.A (f v u) Q X.xe s₂) X.xe s₁) X.xe s:=by
 refine thn (ha pins s σ H _ I h) fun v s1 ⟨x,H1,I1,r1,q1⟩ => ?_;refine thn (hb pins s1 σ H1 _ I1 q1) fun u s2 ⟨y,H2,I2,r2,q2⟩ => ?_;exact hf v u s2 x y H2 I2 r1 r2 q2
theorem Zio{op:Operator}{r:R2}(ho:OpR X (binaryOp op) r)(ha:PE X a ta)(hb:PE X b tb):PE X (.BinOp a op b pos) (tOp r ta tb):=by
 intro pins s σ H Q I h;exact wpAny_BinOp (Zfl ha hb I h fun v u s2 x y H2 I2 rx ry q=>ho pins s2 σ H2 x y v u Q I2 rx ry q)
theorem Zls{op:UnaryOp}{r:V->Hp->VK->Prop}(ho:UnR X (unaryOp op) r)(ha:PE X a ta):PE X (.UnaryOp op a pos) (tUn r ta):=by
 intro pins s σ H Q I h;exact UnaryOp_ (thn (ha pins s σ H _ I h) fun v s1 ⟨x,H1,I1,r1,q1⟩=>ho pins s1 σ H1 x v Q I1 r1 q1)
theorem opI{f:P7->P7->Sem P7}{C:Int->Int->Prop}{g:Int->Int->Int}
  (rule:∀(i j:Int) (t u:Tok) (s:P1) (Q:P7->P1->Prop) (E:P7->P1->Prop),C i j->Q (.int (g i j) s.toks) { s with toks:=s.toks+1 }->wpAny (model X.prog X.w) X.A (f (.int i t) (.int j u)) Q E s) :
  OpR X f (rI C fun i j => .int (g i j)):=by
 intro pins s σ H x y v u Q I rx ry h;obtain⟨i,j,rfl,rfl,hc,q⟩:=h;obtain⟨t,rfl⟩:=rx;obtain⟨t',rfl⟩:=ry;exact rule i j t t' s _ _ hc ⟨.int (g i j),H,I.tok _,⟨_,rfl⟩,q⟩
theorem Zi3{f:P7->P7->Sem P7}{g:Int->Int->Int}
  (rule:∀(i j:Int) (t u:Tok) (s:P1) (Q:P7->P1->Prop) (E:P7->P1->Prop),Q (.int (g i j) s.toks) { s with toks:=s.toks+1 }->wpAny (model X.prog X.w) X.A (f (.int i t) (.int j u)) Q E s) :
  OpR X f (rI0 fun i j => .int (g i j)):=by
 intro pins s σ H x y v u Q I rx ry h;obtain⟨i,j,rfl,rfl,q⟩:=h;obtain⟨t,rfl⟩:=rx;obtain⟨t',rfl⟩:=ry;exact rule i j t t' s _ _ ⟨.int (g i j),H,I.tok _,⟨_,rfl⟩,q⟩
theorem ZfB{f:P7->P7->Sem P7}{g:Int->Int->Bool}
  (rule:∀(i j:Int) (t u:Tok) (s:P1) (Q:P7->P1->Prop) (E:P7->P1->Prop),Q (.bool (g i j)) s->wpAny (model X.prog X.w) X.A (f (.int i t) (.int j u)) Q E s) :
  OpR X f (rI0 fun i j => .bl (g i j)):=by
 intro pins s σ H x y v u Q I rx ry h;obtain⟨i,j,rfl,rfl,q⟩:=h;obtain⟨t,rfl⟩:=rx;obtain⟨t',rfl⟩:=ry;exact rule i j t t' s _ _ ⟨.bl (g i j),H,I,rfl,q⟩
def Zk8(i j:Int):Prop:=0<j/\j<1073741824
def CMul(i j:Int):Prop:=(-(2 ^ 64)<i/\i<2 ^ 64)\/(-(2 ^ 64)<j/\j<2 ^ 64)
theorem CMul.ok{i j:Int}(h:CMul i j):IntMulOk i j:=by
 rcases h with⟨h1,h2⟩ | ⟨h1,h2⟩
 ·exact .of_left (intBits_le_64 h1 h2)
 ·exact .of_right (intBits_le_64 h1 h2)
theorem Zol:OpR X (binaryOp .Add) (rI0 fun i j => .int (i+j)):=Zi3 fun _ _ _ _ _ _ _ q=>add_int q
theorem ZrC:OpR X (binaryOp .Sub) (rI0 fun i j => .int (i - j)):=Zi3 fun _ _ _ _ _ _ _ q=>sub_int q
theorem ZnC:OpR X (binaryOp .Mult) (rI CMul fun i j => .int (i * j)):=opI fun _ _ _ _ _ _ _ hc q=>mul_int q hc.ok
theorem ZpJ:OpR X (binaryOp .FloorDiv) (rI Zk8 fun i j => .int (i / j)):=opI fun i j _ _ _ _ _ hc q=>by
 have h1:(0:Int)<j:=hc.1;have h2:j<1073741824:=hc.2;exact floordiv_int (by omega) (by rw[Int.fdiv_eq_ediv_of_nonneg i (by omega)]; exact q) (.inl (PyProof.noPylong_small (by omega)))
theorem ZpS:OpR X (binaryOp .Mod) (rI (fun _ j=>0<j) fun i j => .int (i % j)):=opI fun i j _ _ _ _ _ hc q=>by
 have h1:(0:Int)<j:=hc;exact mod_int' (by omega) (by rw[Int.fmod_eq_emod_of_nonneg i (by omega)]; exact q)
theorem unI{f:P7->Sem P7}{g:Int->Int}
  (rule:∀(i:Int) (t:Tok) (s:P1) (Q:P7->P1->Prop) (E:P7->P1->Prop),Q (.int (g i) s.toks) { s with toks:=s.toks+1 }->wpAny (model X.prog X.w) X.A (f (.int i t)) Q E s) :
  UnR X f (rU fun i => .int (g i)):=by
 intro pins s σ H x v Q I rx h;obtain⟨i,rfl,q⟩:=h;obtain⟨t,rfl⟩:=rx;exact rule i t s _ _ ⟨.int (g i),H,I.tok _,⟨_,rfl⟩,q⟩
theorem ZnO:UnR X (unaryOp .USub) (rU fun i => .int (-i)):=unI fun _ _ _ _ _ q=>neg_int q
end
section
variable{X:Cx}{a b c:Expr}{ta tb tc:TE}{pos:Pos}
theorem Zkr{pins:List (Addr×Obj)}{σ:St}{H:Hp}{s:P1}{Q:VK}{k k':Bool}(I:Inv X pins σ H s)(q:Q (.bl k) H)(e:k=k'):EP X pins σ Q (.bool k') s:=by
 subst e;exact⟨.bl k,H,I,rfl,q⟩
theorem Zlq:OpR X (compareOp .Lt) (rI0 fun i j => .bl (decide (i<j))):=ZfB fun _ _ _ _ _ _ _ q=>lt_int q
theorem Zpi:OpR X (compareOp .LtE) (rI0 fun i j => .bl (decide (i<=j))):=ZfB fun _ _ _ _ _ _ _ q=>le_int q
theorem ZqI:OpR X (compareOp .Gt) (rI0 fun i j => .bl (decide (j<i))):=ZfB fun _ _ _ _ _ _ _ q=>gt_int q
theorem Zo7:OpR X (compareOp .Is) (fun x y H Q=>y = .non/\Q (.bl (decide (x = .non))) H):=by
 intro pins s σ H x y v u Q I rx ry h;obtain⟨rfl,q⟩:=h;cases ry;refine is_none_gen (Zkr I q ?_);cases x <;> first
  | (cases rx; rfl)
  | (obtain⟨t,rfl⟩:=rx; rfl)
theorem ZpY:OpR X (compareOp .IsNot) (fun x y H Q=>y = .non/\Q (.bl (!decide (x = .non))) H):=by
 intro pins s σ H x y v u Q I rx ry h;obtain⟨rfl,q⟩:=h;cases ry;refine isnot_none_gen (Zkr I q ?_);cases x <;> first
  | (cases rx; rfl)
  | (obtain⟨t,rfl⟩:=rx; rfl)
theorem Zjf(b:Expr){op:CmpOp}(h:op≠.In:=by decide)(h2:op≠.NotIn:=by decide):behindInMarks op b=false:=by
 have e1:(op == CmpOp.In)=false:=by cases op <;> first | rfl | exact absurd rfl h
 have e2:(op == CmpOp.NotIn)=false:=by cases op <;> first | rfl | exact absurd rfl h2
 cases b <;> simp[behindInMarks,e1,e2]
theorem Zqb{op:CmpOp}{r:R2}(ho:OpR X (compareOp op) r)(ha:PE X a ta)(hb:PE X b tb)(hm:behindInMarks op b=false):PE X (.Compare a [op] [b] pos) (tOp r ta tb):=by
 intro pins s σ H Q I h;exact wpAny_Compare1 (Zfl ha hb I h fun v u s2 x y H2 I2 rx ry q=>ho pins s2 σ H2 x y v u Q I2 rx ry q) hm
def ZrN(t:TE):TT:=fun σ H Q=>t σ H fun x H' => ∃k,x = .bl k/\Q k H'
theorem Zqx{op:CmpOp}{r:R2}(ho:OpR X (compareOp op) r)(ha:PE X a ta)(hb:PE X b tb)(hm:behindInMarks op b=false):PT X (.Compare a [op] [b] pos) (ZrN (tOp r ta tb)):=by
 intro pins s σ H Q I h;refine wpAny_isTrue_Compare1 (thn (ha pins s σ H _ I h) fun v s1 ⟨x,H1,I1,r1,q1⟩=>thn (hb pins s1 σ H1 _ I1 q1) fun u s2 ⟨y,H2,I2,r2,q2⟩ =>
  thn (ho pins s2 σ H2 x y v u _ I2 r1 r2 q2) fun c s3 ⟨z,H3,I3,r3,k,e,q3⟩ => ?_) hm
 subst e;cases r3;exact Qw ⟨H3,I3,q3⟩
def ZkB(r r':R2)(ta tb tc:TE):TE:=fun σ H Q=>ta σ H fun x H1=>tb σ H1 fun y H2=>r x y H2 fun z H3 => ∃k,z = .bl k /\
 (if k=true then tc σ H3 fun w' H4=>r' y w' H4 Q else Q (.bl false) H3)
theorem Zrv{op op':CmpOp}{r r':R2}(ho:OpR X (compareOp op) r)(ho':OpR X (compareOp op') r')(ha:PE X a ta)(hb:PE X b tb)(hc:PE X c tc)
  (hm:lastMarks [op,op'] [b,c]=false:=by with_unfolding_all rfl):PE X (.Compare a [op,op'] [b,c] pos) (ZkB r r' ta tb tc):=by
 intro pins s σ H Q I h;refine Compare_chain (thn (ha pins s σ H _ I h) fun v s1 ⟨x,H1,I1,r1,q1⟩=>chain_link (thn (hb pins s1 σ H1 _ I1 q1) fun u s2 ⟨y,H2,I2,r2,q2⟩ =>
  thn (ho pins s2 σ H2 x y v u _ I2 r1 r2 q2) fun d s3 ⟨z,H3,I3,r3,k,e,q3⟩ => ?_)) hm
 subst e;cases r3;refine Qw ?_;cases k with
 | false=>exact ite_ff ⟨.bl false,H3,I3,rfl,q3⟩
 | true=>exact ite_tt (chain_last (thn (hc pins s3 σ H3 _ I3 q3) fun w' s4 ⟨z',H4,I4,r4,q4⟩=>ho' pins s4 σ H4 y z' u w' Q I4 r2 r4 q4))
theorem ZcO:(sizeLine:Nat)<2 ^ 63:=by rw[Wd]; decide
theorem ZkP:OpR X (binaryOp .Add) (fun x y H Q => ∃i j,x = .str i/\y = .str j/\i.length+j.length<=sizeLine/\Q (.str (i++j)) H):=by
 intro pins s σ H x y v u Q I rx ry h;obtain⟨i,j,rfl,rfl,hz,q⟩:=h;obtain⟨t,rfl⟩:=rx;obtain⟨t',rfl⟩:=ry;exact add_str (fun t' tk=>⟨.str (i++j),H,I.tok _,⟨_,rfl⟩,q⟩) hz
theorem vals1{x:V}{us:List P7}(r:Vals [x] us):∃u,us=[u]/\RelV x u:=by
 cases r with
 | cons r1 r2=>cases r2; exact⟨_,rfl,r1⟩
theorem Zh5:Za4 X (.type "int") (fun xs H Q=>(∃i,xs=[.int i]/\Q (.int i) H)\/∃k,xs=[.bl k]/\Q (.int (if k then 1 else 0)) H):=by
 intro pins s σ H xs us Q I r h;rcases h with⟨i,rfl,q⟩ | ⟨k,rfl,q⟩
 ·obtain⟨u,rfl,t,rfl⟩:=vals1 r;exact call_int_int ⟨.int i,H,I,⟨_,rfl⟩,q⟩
 ·obtain⟨u,rfl,r1⟩:=vals1 r;cases r1;exact call_int_bool ⟨.int (if k then 1 else 0),H,I.tok _,⟨_,rfl⟩,q⟩
end
structure ObjM(h:Heap)(x dx C:Addr)(mA:Str->Option P7):Prop where
 obj:h.get? x=some (PySem.W.instObj C dx)
 ns:h.Ns1 dx mA
 ne:dx≠x
theorem ZmU{h:Heap}{dx:Addr}{mA:Str->Option P7}(n:h.Ns1 dx mA):∃od,h.get? dx=some od/\∀name,PySem.W.lookIn name od=some (mA name):=by
 obtain⟨o,es,ep,ho,hd,hk,_,hm⟩:=n;refine⟨o,ho,fun name => ?_⟩;have e:=hm name;unfold nsFind findBy at e;rw[<-Array.find?_toList] at e;unfold PySem.W.lookIn;rw[hd];dsimp only;split
 ·rename_i y q;rw[q] at e;exact congrArg some e
 ·rename_i q;rw[q] at e;have a:es.toList.any (·.refKey)=false:=by
   rw[List.any_eq_false];intro y hy;obtain⟨z,t,hkey⟩:=hk y (Array.mem_toList_iff.mp hy);simp[DictEntry.refKey,hkey]
  have a':¬ es.toList.any (·.refKey)=true:=by rw[a]; exact QN
  rw[Yh a'];exact congrArg some e
theorem ObjM.look{h:Heap}{x dx C:Addr}{mA:Str->Option P7}(I:ObjM h x dx C mA):∃od,PySem.W.InstAt h x (PySem.W.instObj C dx) C (some od)/\∀name,PySem.W.lookIn name od=some (mA name) :=
 let ⟨od,ho,hl⟩:=ZmU I.ns
 ⟨od,⟨I.obj,rfl,rfl,ho⟩,hl⟩
section
variable{prog:P5}{w:World}{A:P4}{E:P7->P1->Prop}{s:P1}{K:P3}{x dx C f:Addr}{mA:Str->Option P7}{name:Str}{v:P7}
theorem get_map{expr:Bool}{Q:P7->P1->Prop}(X:K.In s.heap)(I:ObjM s.heap x dx C mA)(hg:PySem.W.plainGet K C name=true)(hh:PySem.W.hasDictIn K C=true)
  (ha:PySem.W.findIn K (.ref C) name=some none) (hv:mA name=some v) (hv':PySem.W.handedIn v=true) (h:Q v { s with toks:=s.toks+1 }) :
  wpAny (model prog w) A (getAttr (.ref x) name expr) Q E s:=by
 obtain⟨od,J,hl⟩:=I.look;exact PySem.W.get_value X J (V4 hg).1 (PySem.W.findObj_own hh ha rfl (by rw[hl,hv])) hv' h
theorem Zoj{pl:Sem Bool}{Q:P7×List P7->P1->Prop}(X:K.In s.heap)(I:ObjM s.heap x dx C mA)(hg:PySem.W.plainGet K C name=true)
  (hf:PySem.W.findIn K (.ref C) name=some (some (.ref f))) (ht:PySem.W.isFn K (.ref f)=true) (hv:mA name=none) (h:Q (.ref f,[.ref x]) s) :
  wpAny (model prog w) A (getMethod (.ref x) name pl) Q E s:=by
 obtain⟨od,J,hl⟩:=I.look;exact PySem.W.method_fn X J (V4 hg).1 (V4 hg).2 hf (Vj.mp ht) (by show (PySem.W.lookIn name od).map (·.isSome)=some false; rw[hl,hv]; rfl) h
theorem ZkT{ns:List Str}{Q:Unit->P1->Prop}(X:K.In s.heap)(I:ObjM s.heap x dx C mA)
  (hs:PySem.W.findIn K (.ref C) "__setattr__" = some (some (.builtin "object.__setattr__"))) (hp:PySem.W.plainOver K C=true) (ht:PySem.W.takerIn K C name=some none) (hh:PySem.W.hasDictIn K C=true)
  (hw:PySem.Within mA ns) (hsz:ns.length<=sizeLine)
  (h:∀h',ObjM h' x dx C (fun y=>if y=name then some v else mA y)->Heap.SameBut dx s.heap h'->Q () { s with heap:=h',toks:=s.toks+2 }) :
  wpAny (model prog w) A (setAttr (.ref x) name v) Q E s:=by
 obtain⟨od,J,hl⟩:=I.look;refine PySem.W.set_plain X J hs (PySem.W.osa_open (s:={ s with toks:=s.toks+1 }) (r:=none) X J hp ht fun b => ?_);obtain⟨cd,hc,hd'⟩:=PySem.W.any_some hh;have hx:s.heap.get? x=some ⟨.ref C,some dx,.plain,#[]⟩:=I.obj;refine Ya (Yb (Ya (Ya (wpAny_loadPart hx (Ya (PySem.W.Looks.here (s:={ s with toks:=s.toks+1 }) (PySem.W.looks_clsIn X hc) ?_))))));rw[hd'];refine Yb (a:=some dx) (Ya (Yb (Ya ?_)));refine wpAny_nsSet1 (s:={ s with toks:=s.toks+1 }) I.ns fun h' hn2 hs2 => ?_;obtain⟨oD,esD,epD,hoD,hdD,hcD⟩:=hn2.count (PySem.Within.cons name v hw);refine Ya (wpAny_lookBehind hoD (by rw[hdD]; exact pastItsLine_dict (YI hcD (by rw[YB]; omega))) ?_);exact Yb (h _ ⟨(hs2.2 _ (Y7 I.ne)).trans I.obj,hn2,I.ne⟩ hs2)
theorem Zk6{R:Result->P1->Prop}{vs:List P7}{kw:List (Str×P7)}(X:K.In s.heap)(hm:PySem.W.makesIn K C=true)
  (hi:PySem.W.findIn K (.ref C) "__init__" = some (some (.ref f))) (hf:PySem.W.typeIn K (.ref f)=some (.type "function"))
  (h:codeAny (model prog w) (A.under (.builtin "type.__call__" ⟨.ref C :: vs,kw⟩)) (.call (.ref f) ⟨.ref (s.heap.objs.size+1) :: vs,kw⟩) (PySem.W.InitBack (s.heap.objs.size+1) R)
   { s with heap:=(s.heap.push PySem.W.emptyDict).push (PySem.W.instObj C s.heap.objs.size) }) :
  codeAny (model prog w) A (.call (.ref C) ⟨vs,kw⟩) R s:=by
 obtain⟨hh,g,d,t,os⟩:=s;exact PySem.W.make_core (PySem.W.makes_of X hm) (PySem.W.looks_findIn X hi) (fun self=>PySem.W.bind_fn X self hf) (.inl rfl) h
end
def Z0(f:Str)(v:V):List (Str×V)->List (Str×V)
 | []=>[(f,v)]
 | (g,x) :: r=>if g=f then (g,v) :: r else (g,x) :: Z0 f v r
theorem ZiL(f g:Str)(v:V):∀fs:List (Str×V),(Z0 f v fs).lookup g=if g=f then some v else fs.lookup g
 | []=>by
  show List.lookup g [(f,v)]=_;by_cases h:g=f
  ·have hb:(g == f)=true:=Vj.mpr h;simp only[List.lookup,hb,Yg h]
  ·have hb:(g == f)=false:=Qf.mpr h;simp only[List.lookup,hb,Yh h]
 | (k,x) :: r=>by
  have ih:=ZiL f g v r;rw[show Z0 f v ((k,x) :: r)=(if k=f then (k,v) :: r else (k,x) :: Z0 f v r) from rfl];by_cases hk:k=f
  ·rw[Yg hk];by_cases h:g=k
   ·have hb:(g == k)=true:=Vj.mpr h;simp only[List.lookup,hb,Yg (h.trans hk)]
   ·have hb:(g == k)=false:=Qf.mpr h;simp only[List.lookup,hb,Yh (fun e:g=f=>h (e.trans hk.symm))]
  ·rw[Yh hk];by_cases h:g=k
   ·have hb:(g == k)=true:=Vj.mpr h;simp only[List.lookup,hb,Yh (fun e:g=f=>hk (h.symm.trans e))]
   ·have hb:(g == k)=false:=Qf.mpr h;simp only[List.lookup,hb];exact ih
theorem Zgs(f:Str)(v:V):∀fs:List (Str×V),f∈(Z0 f v fs).map (·.1)/\∀g,g∈fs.map (·.1)->g∈(Z0 f v fs).map (·.1)
 | []=>⟨by simp[Z0],fun g h=>by simp at h⟩
 | (k,x) :: r=>by
  obtain⟨i1,i2⟩:=Zgs f v r;rw[show Z0 f v ((k,x) :: r)=(if k=f then (k,v) :: r else (k,x) :: Z0 f v r) from rfl];by_cases hk:k=f
  ·rw[Yg hk];subst hk;exact⟨by simp,fun g h=>by simpa using h⟩
  ·rw[Yh hk];refine⟨?_,fun g h => ?_⟩
   ·rw[YF];exact Yl _ i1
   ·rw[YF] at h ⊢;rcases Yn.mp h with e | e
    ·exact Yn.mpr (.inl e)
    ·exact Yl _ (i2 g e)
theorem Zkx(f:Str)(v:V):∀fs:List (Str×V),(Z0 f v fs).length<=fs.length+1
 | []=>by simp[Z0]
 | (k,x) :: r=>by
  have ih:=Zkx f v r;rw[show Z0 f v ((k,x) :: r)=(if k=f then (k,v) :: r else (k,x) :: Z0 f v r) from rfl];by_cases hk:k=f
  ·rw[Yg hk,YB,YB]; omega
  ·rw[Yh hk,YB,YB]; omega
theorem RelO.some_of{v:V}{o:Option P7}(r:RelO (some v) o):∃u,o=some u/\RelV v u:=by
 cases o with
 | none=>exact (show False from r).elim
 | some u=>exact⟨u,rfl,r⟩
theorem RelO.none_of{o:Option P7}(r:RelO none o):o=none:=by
 cases o with
 | none=>rfl
 | some u=>exact (show False from r).elim
theorem Zl4{v:V}{u:P7}(r:RelV v u):PySem.W.handedIn u=true:=by
 cases v with
 | non=>cases (show u=Value.none from r); rfl
 | bl b=>cases (show u=Value.bool b from r); rfl
 | int i=>obtain⟨t,e⟩:=(show ∃t,u=Value.int i t from r); cases e; rfl
 | str x=>obtain⟨t,e⟩:=(show ∃t,u=Value.str x t from r); cases e; rfl
 | byt b=>obtain⟨t,e⟩:=(show ∃t,u=Value.bytes b t from r); cases e; rfl
 | flt b=>obtain⟨t,e⟩:=(show ∃t,u=Value.float b t from r); cases e; rfl
 | ref a=>cases (show u=Value.ref a from r); rfl
 | ty n=>cases (show u=Value.type n from r); rfl
section
variable{P:P5}{w:World}{H H':Hp}{h h':Heap}{a C dx:Addr}{fs fs':List (Str×V)}
theorem Zfo(hok:HOk P w H h)(e:H a=some (.ins C dx fs)):∃mA,ObjM h a dx C mA/\(∀f,RelO (fs.lookup f) (mA f))/\PySem.Within mA (fs.map (·.1))/\fs.length<=1000/\H dx=some (.own a):=by
 obtain⟨d,z,ne,ob,mA,n,r,q⟩:=(show ObjOk P w H h a (.ins C dx fs) from hok a _ e);exact⟨mA,⟨ob,n,ne⟩,r,q,z,d⟩
end
structure Cls(K:P3)(C:Addr):Prop where
 pg:PySem.W.plainGet K C Str.empty=true
 hd:PySem.W.hasDictIn K C=true
 po:PySem.W.plainOver K C=true
 sa:PySem.W.findIn K (.ref C) "__setattr__" = some (some (.builtin "object.__setattr__"))
theorem Cls.get{K:P3}{C:Addr}(c:Cls K C)(f:Str):PySem.W.plainGet K C f=true:=c.pg
def NoAttr(K:P3)(C:Addr)(f:Str):Prop:=PySem.W.findIn K (.ref C) f=some none
theorem NoAttr.taker{K:P3}{C:Addr}{f:Str}(n:NoAttr K C f):PySem.W.takerIn K C f=some none:=by
 unfold PySem.W.takerIn;rw[show PySem.W.findIn K (.ref C) f=some none from n];rfl
structure Con(K:P3)(C:Addr)(f:Str)(v:V)(u:P7):Prop where
 at_:PySem.W.findIn K (.ref C) f=some (some u)
 rel:RelV v u
 get:PySem.W.specialIn K u "__get__" = some none
 cp:PySem.W.copiedNames.contains f=false
structure Meth(K:P3)(C:Addr)(m:Str)(f:Addr):Prop where
 at_:PySem.W.findIn K (.ref C) m=some (some (.ref f))
 fn:PySem.W.isFn K (.ref f)=true
 kp:PySem.W.keepIn K (.ref f)=true
section
variable{X:Cx}{pins:List (Addr×Obj)}{σ:St}{H:Hp}{s:P1}{a C dx:Addr}{fs:List (Str×V)}{f:Str}{v:V}{A:P4}{E:P7->P1->Prop}
theorem Zg9{b:Bool}{Q:P7->P1->Prop}(I:Inv X pins σ H s)(e:H a=some (.ins C dx fs))(c:Cls X.K C)(n:NoAttr X.K C f)(l:fs.lookup f=some v)
  (h:∀u s',Inv X pins σ H s'->RelV v u->Q u s'):wpAny (model X.prog X.w) A (getAttr (.ref a) f b) Q E s:=by
 obtain⟨mA,O,r,_,_,_⟩:=Zfo I.hok e;obtain⟨u,hu,ru⟩:=RelO.some_of (v:=v) (o:=mA f) (by rw[<-l]; exact r f);exact get_map I.kIn O (c.get f) c.hd n hu (Zl4 ru) (h u _ (I.tok _) ru)
theorem ZiT{m:Str}{g:Addr}{pl:Sem Bool}{Q:P7×List P7->P1->Prop}(I:Inv X pins σ H s)(e:H a=some (.ins C dx fs))(c:Cls X.K C)(k:Meth X.K C m g)(l:fs.lookup m=none)
  (h:Q (.ref g,[.ref a]) s):wpAny (model X.prog X.w) A (getMethod (.ref a) m pl) Q E s:=by
 obtain⟨mA,O,r,_,_,_⟩:=Zfo I.hok e;have hn:mA m=none:=RelO.none_of (by rw[<-l]; exact r m);exact Zoj I.kIn O (c.get m) k.at_ k.fn hn h
theorem Zjx{y:V}{u:P7}{Q:Unit->P1->Prop}(I:Inv X pins σ H s)(e:H a=some (.ins C dx fs))(c:Cls X.K C)(n:NoAttr X.K C f)(hl:fs.length<1000)(ry:RelV y u)
  (h:∀s',Inv X pins σ (upd H a (.ins C dx (Z0 f y fs))) s'->Q () s'):wpAny (model X.prog X.w) A (setAttr (.ref a) f u) Q E s:=by
 obtain⟨mA,O,r,wi,_,ho⟩:=Zfo I.hok e;have hz:(fs.map (·.1)).length<=sizeLine:=by rw[Yr,Wd]; omega
 refine ZkT I.kIn O c.sa c.po n.taker c.hd wi hz fun h' O' sb=>h _ ?_;have hd:∃o,h'.get? dx=some o:=let ⟨o,_,_,e',_⟩:=O'.ns; ⟨o,e'⟩
 refine I.write (x:=a) (e:=dx) (by rw[e]; exact True.intro) (.inr ho) (fun b q hb z=>(sb.2 b hb).trans z) hd ?_;refine⟨by rw[Zp O.ne]; exact ho,?_,O.ne,O'.obj,_,O'.ns,fun g => ?_,fun g hg => ?_⟩
 ·have:=Zkx f y fs; omega
 ·show RelO ((Z0 f y fs).lookup g) (if g=f then some u else mA g);rw[ZiL];by_cases q:g=f
  ·rw[Yg q,Yg q]; exact ry
  ·rw[Yh q,Yh q]; exact r g
 ·by_cases q:g=f
  ·rw[q]; exact (Zgs f y fs).1
  ·refine (Zgs f y fs).2 g (wi g fun z=>hg ?_);show (if g=f then some u else mA g)=none;rw[Yh q]; exact z
theorem Inv.made(I:Inv X pins σ H s):Inv X pins σ (upd (upd H s.heap.objs.size (.own (s.heap.objs.size+1))) (s.heap.objs.size+1) (.ins C s.heap.objs.size []))
  { s with heap:=(s.heap.push PySem.W.emptyDict).push (PySem.W.instObj C s.heap.objs.size) }:=by
 have e1:(s.heap.push PySem.W.emptyDict).get? s.heap.objs.size=some PySem.W.emptyDict:=Yq s.heap rfl;have e2:((s.heap.push PySem.W.emptyDict).push (PySem.W.instObj C s.heap.objs.size)).get? (s.heap.objs.size+1)=some (PySem.W.instObj C s.heap.objs.size):=by
  have:=Yq (s.heap.push PySem.W.emptyDict) (o:=PySem.W.instObj C s.heap.objs.size) rfl;rwa[WM] at this
 have e3:(s.heap.push PySem.W.emptyDict).Ns s.heap.objs.size (fun _=>none):=⟨PySem.W.emptyDict,#[],_,e1,rfl,(fun e he=>absurd he (by simp)),fun _=>rfl⟩;have I1:=I.laid (a:=s.heap.objs.size) (o:=.own (s.heap.objs.size+1)) (h':=s.heap.push PySem.W.emptyDict) (t':=s.toks) (fun b u q=>Ye _ q) (Yi _) ⟨_,e1⟩;refine I1.laid (a:=s.heap.objs.size+1) (o:=.ins C s.heap.objs.size []) (t':=s.toks) (fun b u q=>Ye _ q) (Nat.le_of_eq (WM _ _)) ?_;have ne:s.heap.objs.size≠s.heap.objs.size+1:=Yx (Qg _);refine⟨by rw[Zp ne,Zai],YV _,ne,e2,fun _=>none,(Heap.Ns1.of_empty e3).at fun o q=>Ye _ q,fun _=>True.intro,fun y hy=>absurd rfl hy⟩
theorem ZrT{prog:P5}{w:World}{env:Env}{e:Expr}{f:Str}{pos:Pos}{s:P1}{Q:P7->P1->Prop}(hb:attributeBase e f env (eval e env)=eval e env)
  (h:wpAny (model prog w) A (eval e env) (fun o s₁=>wpAny (model prog w) A (getAttr o f true) Q E s₁) E s):wpAny (model prog w) A (eval (.Attribute e f pos) env) Q E s :=
 Attribute_any_ h (by rw[arm_eval_Attribute,hb])
end
def ZqE(K:P3)(ta:TE)(f:Str):TE:=fun σ H Q=>ta σ H fun x H1 => ∃a C dx fs v,x = .ref a/\H1 a=some (.ins C dx fs)/\Cls K C/\NoAttr K C f/\fs.lookup f=some v/\Q v H1
def Zm0(K:P3)(ta tv:TE)(f:Str):TS:=fun D σ H=>tv σ H fun y H1=>ta σ H1 fun x H2 => ∃a C dx fs,x = .ref a/\H2 a=some (.ins C dx fs)/\Cls K C/\NoAttr K C f/\fs.length<1000 /\
 D.nx σ (upd H2 a (.ins C dx (Z0 f y fs)))
def Zj1(X:Cx)(op:Operator)(rd:V->V->Hp->VK->Prop):Prop :=
 ∀(pins:List (Addr×Obj)) (s:P1) (σ:St) (H:Hp) (x y:V) (u v:P7) (Q:VK),Inv X pins σ H s->RelV x u->RelV y v->rd x y H Q->wpAny (model X.prog X.w) X.A (inplaceOp op u v) (EP X pins σ Q) X.xe s
def Zn2(K:P3)(ta tv:TE)(rd:V->V->Hp->VK->Prop)(f:Str):TS:=fun D σ H=>ta σ H fun x H1 => ∃a C dx fs v,x = .ref a/\H1 a=some (.ins C dx fs)/\Cls K C/\NoAttr K C f/\fs.lookup f=some v /\
 tv σ H1 fun y H2=>rd v y H2 fun z H3 => ∃dx' fs',H3 a=some (.ins C dx' fs')/\fs'.length<1000/\D.nx σ (upd H3 a (.ins C dx' (Z0 f z fs')))
section
variable{X:Cx}{o e value:Expr}{f:Str}{pos pos' tpos:Pos}{ta tv:TE}
theorem ZpZ(he:PE X e ta)(hb:attributeBase e f X.env (eval e X.env)=eval e X.env):PE X (.Attribute e f pos) (ZqE X.K ta f):=by
 intro pins s σ H Q I h;refine ZrT hb (thn (he pins s σ H _ I h) fun u s1 ⟨x,H1,I1,rx,a,C,dx,fs,v,ex,ea,c,n,l,q⟩ => ?_);subst ex;obtain rfl:u=Value.ref a:=rx;exact Zg9 I1 ea c n l fun u' s2 I2 ru=>⟨v,H1,I2,ru,q⟩
theorem Zhf(ha:PE X o ta)(hv:PE X value tv)(hs:swapsWith value (some (.Attribute o f pos')) pos.line X.env=pure false):PS X (.Assign [.Attribute o f pos'] value pos) (Zm0 X.K ta tv f):=by
 intro pins s σ H D I h;refine plainObj_wpAny_Assign_Attribute (thn (hv pins s σ H _ I h) fun u s1 ⟨y,H1,I1,ry,q⟩=>thn (ha pins s1 σ H1 _ I1 q) fun ov s2 ⟨x,H2,I2,rx,a,C,dx,fs,ex,ea,c,n,l,q2⟩ => ?_) hs;subst ex;obtain rfl:ov=Value.ref a:=rx;exact Zjx I2 ea c n l ry fun s3 I3=>⟨σ,_,I3,q2⟩
theorem ZqT{op:Operator}{rd:V->V->Hp->VK->Prop}(ha:PE X o ta)(hv:PE X value tv)(hop:Zj1 X op rd):PS X (.AugAssign (.Attribute o f tpos) op value pos) (Zn2 X.K ta tv rd f):=by
 intro pins s σ H D I h;refine wpAny_AugAssign_AttributeAny (thn (ha pins s σ H _ I h) fun ov s1 ⟨x,H1,I1,rx,a,C,dx,fs,v,ex,ea,c,n,l,q⟩ => ?_);subst ex;obtain rfl:ov=Value.ref a:=rx;refine Zg9 I1 ea c n l fun u s2 I2 ru=>thn (hv pins s2 σ H1 _ I2 q) fun w3 s3 ⟨y,H2,I3,ry,q3⟩=>thn (hop pins s3 σ H2 v y u w3 _ I3 ru ry q3) fun w4 s4 ⟨z,H3,I4,rz,dx',fs',ea',l',q4⟩ => ?_;exact Zjx I4 ea' c n l' rz fun s5 I5=>⟨σ,_,I5,q4⟩
def ZmC:V->V->Hp->VK->Prop:=fun x y H Q => ∃i j,x = .int i/\y = .int j/\Q (.int (i+j)) H
theorem Zl2:Zj1 X .Add ZmC:=by
 rintro pins s σ H x y u v Q I rx ry ⟨i,j,rfl,rfl,q⟩;obtain⟨t,rfl⟩:=(show ∃t,u=Value.int i t from rx);obtain⟨t',rfl⟩:=(show ∃t',v=Value.int j t' from ry);exact PyProof.Rows.iadd_int ⟨.int (i+j),H,I.tok _,⟨_,rfl⟩,q⟩
end
section
variable{X:Cx}{pins:List (Addr×Obj)}{σ:St}{H:Hp}{s:P1}{A:P4}{E:P7->P1->Prop}{Q:P7->P1->Prop}{c:P7}{b:Bool}
inductive TyOf(K:P3)(H:Hp):V->P7->Prop where
 | non:TyOf K H .non (.type "NoneType")
 | bl (x:Bool):TyOf K H (.bl x) (.type "bool")
 | int (i:Int):TyOf K H (.int i) (.type "int")
 | str (x:Str):TyOf K H (.str x) (.type "str")
 | flt (x:UInt64):TyOf K H (.flt x) (.type "float")
 | lst {a:Addr} {xs:List V} (e:H a=some (.lst xs)):TyOf K H (.ref a) (.type "list")
 | frz {a:Addr} {o:Obj} {xs:List V} (e:H a=some (.frz o (.lst xs))):TyOf K H (.ref a) (.type "list")
 | tup {a:Addr} {xs:List V} (e:H a=some (.tup xs)):TyOf K H (.ref a) (.type "tuple")
 | dK {a:Addr} {kvs:List (Key×V)} (e:H a=some (.dK kvs)):TyOf K H (.ref a) (.type "dict")
 | dT {a:Addr} {kvs:List (List Key×V)} (e:H a=some (.dT kvs)):TyOf K H (.ref a) (.type "dict")
 | ins {a C dx:Addr} {fs:List (Str×V)} (e:H a=some (.ins C dx fs)) (cl:Cls K C) (ha:PySem.W.findIn K (.ref C) "__class__" = some (some (.builtin "object.__class__")))
   (hn:PySem.W.specialIn K (.builtin "object.__class__") "__get__" = some (some (.builtin "getset_descriptor.__get__"))) (htk:PySem.W.takesIn K (.builtin "object.__class__")=some true)
   (hm:PySem.W.mroIn K C (.type "object")=some true):TyOf K H (.ref a) (.ref C)
end
structure Room(k:Nat)(A:P4):Prop where
 hd:A.handled=none
 dp:A.depth+3 * k+5<recursionLimit
 un:A.units+16 * k+200<cLine
theorem Room.mono{j k:Nat}{A:P4}(r:Room k A)(h:j<=k):Room j A:=⟨r.hd,by have:=r.dp; omega,by have:=r.un; omega⟩
theorem Room.deeper{k:Nat}{A:P4}(r:Room (k+1) A)(env:Env):Room k (A.deeper env) :=
 ⟨r.hd,by have:=r.dp; show A.depth+1+3 * k+5<_; omega,by have:=r.un; show A.units+3+16 * k+200<_; omega⟩
theorem Zp2{A:P4}{C:Addr}{us:List P7}{kw:List (Str×P7)}:(A.under (.builtin "type.__call__" ⟨.ref C :: us,kw⟩)).depth=A.depth+1:=by
 first | rfl | simp[Around.under,Code.weight,Code.isCreation,Code.isGuard,Code.isCaller,Code.frames,Code.isFrame,guardIds]
theorem Zof{A:P4}{C:Addr}{us:List P7}{kw:List (Str×P7)}:(A.under (.builtin "type.__call__" ⟨.ref C :: us,kw⟩)).units=A.units+1:=by
 first | rfl | simp[Around.under,Code.cUnits,Code.frames,Code.isFrame]
theorem Room.make{k:Nat}{A:P4}(r:Room (k+1) A)(C:Addr)(us:List P7)(kw:List (Str×P7)):Room k (A.under (.builtin "type.__call__" ⟨.ref C :: us,kw⟩)) :=
 ⟨r.hd,by have:=r.dp; rw[Zp2]; omega,by have:=r.un; rw[Zof]; omega⟩
theorem Room.depth{k:Nat}{A:P4}(r:Room k A):A.depth<recursionLimit:=by have:=r.dp; omega
theorem Room.units{k:Nat}{A:P4}(r:Room k A):A.units+64<cLine:=by have:=r.un; omega
def ZhG:TA:=fun _ H Q=>Q [] H
def Zsm(ta:TE)(tr:TA):TA:=fun σ H Q=>ta σ H fun x H1=>tr σ H1 fun xs H2=>Q (x :: xs) H2
section
variable{X:Cx}{e:Expr}{es:List Expr}{te:TE}{t:TA}{pos:Pos}
theorem ZnU:PA X [] ZhG:=fun _ _ _ _ H Q I h=>QX ⟨[],H,I,.nil,h⟩
theorem ZpA(ha:PE X e te)(hr:PA X es t)(hs:starEach (e :: es) X.env=(false,eval e X.env) :: starEach es X.env:=by rfl):PA X (e :: es) (Zsm te t):=by
 intro pos pins s σ H Q I h;rw[hs];show wpAny _ _ (spliced ((false,eval e X.env) :: backTo pos (starEach es X.env))) _ _ s;refine QP (thn (ha pins s σ H _ I h) fun u s1 ⟨x,H1,I1,r1,q1⟩ => ?_);exact thn (hr pos pins s1 σ H1 _ I1 q1) fun us s2 ⟨xs,H2,I2,r2,q2⟩=>⟨x :: xs,H2,I2,.cons r1 r2,q2⟩
def Zlb(t:TA):TE:=fun σ H Q=>t σ H fun xs H1=>xs.length<=sizeLine/\∀p,H1 p=none->Q (.ref p) (upd H1 p (.tup xs))
def Zmd(t:TA):TE:=fun σ H Q=>t σ H fun xs H1=>xs.length<=sizeLine/\∀p,H1 p=none->Q (.ref p) (upd H1 p (.lst xs))
theorem ZoX{x1}(h:PA X es t):PE X (.Tuple es x1 pos) (Zlb t):=by
 intro pins s σ H Q I hq;refine wpAny_Tuple_spliced (thn (h pos pins s σ H _ I hq) fun us s1 ⟨xs,H1,I1,r,z,q⟩=>⟨by rw[<-r.length]; exact z,?_⟩);have hf:H1 s1.heap.objs.size=none:=I1.hok.fresh (Yi _);refine⟨.ref s1.heap.objs.size,upd H1 s1.heap.objs.size (.tup xs),I1.laid (t':=s1.toks) (fun b u e=>Ye _ e) (Yi _) ?_,rfl,q _ hf⟩;exact⟨z,us,r,⟨_,Yq _ rfl,rfl,_,rfl⟩,fun o2 e2=>by rw[Yq _ rfl] at e2; cases e2; rfl⟩
theorem ZoY(h:PA X es t):PE X (.List es pos) (Zmd t):=by
 intro pins s σ H Q I hq;refine wpAny_List_spliced (thn (h pos pins s σ H _ I hq) fun us s1 ⟨xs,H1,I1,r,z,q⟩=>⟨by rw[<-r.length]; exact z,?_⟩);have hf:H1 s1.heap.objs.size=none:=I1.hok.fresh (Yi _);refine⟨.ref s1.heap.objs.size,upd H1 s1.heap.objs.size (.lst xs),I1.laid (t':=s1.toks) (fun b u e=>Ye _ e) (Yi _) ?_,rfl,q _ hf⟩;exact⟨z,us,0,r,Yq _ rfl⟩
end
noncomputable abbrev Sp:=List V->Hp->VK->XK->Prop
noncomputable abbrev CXT:=List Env->Hp->P1->XK->P7->P1->Prop
structure Env0(P:P5)(w:World)(K:P3)(mg:Str->Option P7)(base:Heap)(A:P4)(outer:List Env)(s:P1)(H:Hp):Prop where
 frames:A.frames=some outer
 mod:Mod K mg base
 bs:∀b o,base.get? b=some o->s.heap.get? b=some o/\H b=none
 bsz:base.objs.size<=s.heap.objs.size
 funs:s.heap.FunFrames base outer
 frf:∀b∈frs outer,H b=none
 hok:HOk P w H s.heap
 bare:AllBare s.gens
def CE(outer:List Env)(P:P5)(w:World)(H:Hp)(s:P1)(Q:VK)(u:P7)(s':P1):Prop :=
 ∃v H',s'.os=s.os/\AllBare s'.gens/\Un (frs outer) [] H H' s.heap s'.heap/\HOk P w H' s'.heap/\RelV v u/\Q v H'
def CR(CX:CXT)(outer:List Env)(P:P5)(w:World)(H:Hp)(s:P1)(Q:VK)(E:XK)(r:Result)(s':P1):Prop :=
 match r with
 | .ok (.ret u)=>CE outer P w H s Q u s'
 | .ok _=>False
 | .error e=>CX outer H s E e s'
structure FnOk(P:P5)(w:World)(K:P3)(mg:Str->Option P7)(base:Heap)(CX:CXT)(k:Nat)(f:Addr)(fd:P6)(ps:List Str)(sp:Sp):Prop where
 len:∀vs H Q E,sp vs H Q E->vs.length=ps.length
 run:∀(A:P4) (outer:List Env) (s:P1) (H:Hp) (args:Args) (us:List P7) (vs:List V) (Q:VK) (E:XK),Room k A->Env0 P w K mg base A outer s H->BindsTo s fd args (ps.zip us)->Vals vs us->sp vs H Q E ->
  codeAny (model P w) A (.call (.ref f) args) (CR CX outer P w H s Q E) s
theorem FnOk.imp{P:P5}{w:World}{K:P3}{mg:Str->Option P7}{base:Heap}{CX:CXT}{k:Nat}{f:Addr}{fd:P6}{ps:List Str}{sp sp':Sp}(F:FnOk P w K mg base CX k f fd ps sp)
  (h:∀vs H Q E,sp' vs H Q E->sp vs H Q E):FnOk P w K mg base CX k f fd ps sp' :=
 ⟨fun vs H Q E q=>F.len vs H Q E (h _ _ _ _ q),fun A outer s H args us vs Q E hr he hb hv hs=>F.run A outer s H args us vs Q E hr he hb hv (h _ _ _ _ hs)⟩
theorem Env0.make{P:P5}{w:World}{K:P3}{mg:Str->Option P7}{base:Heap}{A:P4}{outer:List Env}{s:P1}{H:Hp}(e:Env0 P w K mg base A outer s H)(C:Addr)(us:List P7)(kw:List (Str×P7)) :
  Env0 P w K mg base (A.under (.builtin "type.__call__" ⟨.ref C :: us,kw⟩)) outer s H:=⟨by first | exact e.frames | (simpa[Around.under,Code.envs,Code.isFrame,pushEnvs] using e.frames),e.mod,e.bs,e.bsz,e.funs,e.frf,e.hok,e.bare⟩
section
variable{X:Cx}{pins:List (Addr×Obj)}{σ:St}{H:Hp}{s s':P1}
theorem Inv.env0(I:Inv X pins σ H s):Env0 X.prog X.w X.K X.mg X.base X.A X.stack s H :=
 ⟨I.ok.frames,I.ok.mod,I.bs,YI I.ok.bsz I.sz,I.stack,I.stkFree,I.hok,I.bare⟩
theorem Inv.after{Q:VK}{u:P7}(I:Inv X pins σ H s)(h:CE X.stack X.prog X.w H s Q u s'):EP X pins σ Q u s':=by
 obtain⟨v,H',os,bare,un,hok,r,q⟩:=h;obtain⟨hh,g,d,t,os'⟩:=s';obtain rfl:os'=s.os:=os;exact⟨v,H',I.call (h':=hh) (g':=g) (d':=d) (t':=t) (ch:=[]) un hok bare (fun b z=>absurd z (by simp)),r,q⟩
end
def ZkN(sp:Sp)(dvs:List V)(E:XK)(t:TA):TE:=fun σ H Q=>t σ H fun vs H1=>sp (vs++dvs) H1 Q E
def ZgE(C:Addr)(m:Str)(sp:Sp)(dvs:List V)(E:XK)(ta:TE)(t:TA):TE:=fun σ H Q=>ta σ H fun x H1 => ∃a dx fs,x = .ref a/\H1 a=some (.ins C dx fs)/\fs.lookup m=none /\
 t σ H1 fun vs H2=>sp (x :: (vs++dvs)) H2 Q E
def Zg8(C:Addr)(sp:Sp)(dvs:List V)(E:XK)(t:TA):TE:=fun σ H Q=>t σ H fun vs H1 => ∀x dx,H1 x=none->H1 dx=none->dx≠x ->
 sp (.ref x :: (vs++dvs)) (upd (upd H1 dx (.own x)) x (.ins C dx [])) (fun v H2=>v = .non/\Q (.ref x) H2) E
def Binds(K:P3)(fd:P6)(ps:List Str)(ds:List P7):Prop :=
 ∀(s:P1) (us:List P7),K.In s.heap->(us++ds).length=ps.length->BindsTo s fd ⟨us,[]⟩ (ps.zip (us++ds))
theorem Binds.all{K:P3}{fd:P6}{ps:List Str}(h:∀us:List P7,us.length=ps.length->bindArgs fd ⟨us,[]⟩=pure (ps.zip us)):Binds K fd ps []:=fun s us _ hl=>by
 rw[Wo] at hl ⊢;exact .of_eq (h us hl)
def Passes(CX:CXT)(X:Cx)(E:XK):Prop:=∀(pins:List (Addr×Obj)) (σ:St) (H:Hp) (s:P1) (e:P7) (s':P1),Inv X pins σ H s->CX X.stack H s E e s'->X.xe e s'
section
variable{X:Cx}{CX:CXT}{k:Nat}{f C:Addr}{fd:P6}{ps:List Str}{sp:Sp}{dvs:List V}{ds:List P7}{E:XK}{x m:Str}{p pos apos:Pos}{e o:Expr}{es:List Expr}{ta:TE}{t:TA}
theorem ZeU{pins:List (Addr×Obj)}{σ:St}{H:Hp}{s:P1}{Q:VK}{us:List P7}{vs:List V}(F:FnOk X.prog X.w X.K X.mg X.base CX k f fd ps sp)(hr:Room k X.A)(hb:Binds X.K fd ps ds)(hd:Vals dvs ds)(hx:Passes CX X E)
  (I:Inv X pins σ H s) (r:Vals vs us) (h:sp (vs++dvs) H Q E):wpAny (model X.prog X.w) X.A (call (.ref f) us) (EP X pins σ Q) X.xe s:=by
 have r2:Vals (vs++dvs) (us++ds):=r.append hd;have hl:(us++ds).length=ps.length:=by rw[<-r2.length]; exact F.len _ _ _ _ h
 refine wpAny_call (QE (F.run X.A X.stack s H ⟨us,[]⟩ (us++ds) (vs++dvs) Q E hr I.env0 (hb s us I.kIn hl) r2 h) fun r s' hq => ?_);cases r with
 | error e=>exact hx pins σ H s e s' I hq
 | ok fl =>
  cases fl with
  | ret u=>exact I.after hq
  | next=>exact False.elim hq
  | brk=>exact False.elim hq
  | cont=>exact False.elim hq
theorem Zqh(F:FnOk X.prog X.w X.K X.mg X.base CX k f fd ps sp)(hr:Room k X.A)(hg:Gl X x)(hm:X.mg x=some (.ref f))(hk:PySem.W.keepIn X.K (.ref f)=true)(hb:Binds X.K fd ps ds)(hd:Vals dvs ds)(hx:Passes CX X E)
  (ha:PA X (e :: es) t) (hdb:(x == ("__debug__" : Str))=false:=by decide) (he:starEach (e :: es) X.env=(false,eval e X.env) :: starEach es X.env:=by rfl) (hpl:(backTo pos (starEach es X.env)).any (·.1)=false:=by rfl) :
  PE X (.Call (.Name x p) (e :: es) [] pos) (ZkN sp dvs E t):=by
 intro pins s σ H Q I h;refine Wp (Zgl I hg hm ?_ hdb);refine Ve (h₀:=X.base) I.ok.mod.kin hk (thn (ha pos pins s σ H _ I h) fun us s1 ⟨vs,H1,I1,r,q⟩=>⟨I1.kIn,?_⟩) he hpl;exact ZeU F hr hb hd hx I1 r q
theorem Zs2{pl:Sem Bool}(he:PE X o ta)(c:Cls X.K C)(hm:Meth X.K C m f)(F:FnOk X.prog X.w X.K X.mg X.base CX k f fd ps sp)(hr:Room k X.A)(hb:Binds X.K fd ps ds)(hd:Vals dvs ds)(hx:Passes CX X E)(ha:PA X (e :: es) t)
  (hst:starEach (e :: es) X.env=(false,eval e X.env) :: starEach es X.env:=by rfl) (hpl:(backTo pos (starEach es X.env)).any (·.1)=false:=by rfl)
  (ht:eval (.Call (.Attribute o m apos) (e :: es) [] pos) X.env=(do
   let ov <-eval o X.env
   standAt apos.atName
   let (f,first) <-holding [ov] (getMethod ov m pl)
   callWith pos f first (backTo pos (starEach (e :: es) X.env)) (backToKw pos (keywordEach [] X.env))):=by rfl) :
  PE X (.Call (.Attribute o m apos) (e :: es) [] pos) (ZgE C m sp dvs E ta t):=by
 intro pins s σ H Q I h;refine VJ (pl:=pl) (thn (he pins s σ H _ I h) fun u s1 ⟨x,H1,I1,rx,a,dx,fs,ex,ea,l,q⟩ => ?_) ht;subst ex;obtain rfl:u=Value.ref a:=rx;refine ZiT I1 ea c hm l ?_;refine Ve (first:=[.ref a]) (h₀:=X.base) I.ok.mod.kin hm.kp (thn (ha pos pins s1 σ H1 _ I1 q) fun us s2 ⟨vs,H2,I2,r,q2⟩=>⟨I2.kIn,?_⟩) hst hpl;exact ZeU (us:=.ref a :: us) (vs:=.ref a :: vs) F hr hb hd hx I2 (.cons rfl r) q2
theorem ZkZ{pl:Sem Bool}(he:PE X o ta)(c:Cls X.K C)(hm:Meth X.K C m f)(F:FnOk X.prog X.w X.K X.mg X.base CX k f fd ps sp)(hr:Room k X.A)(hb:Binds X.K fd ps ds)(hd:Vals dvs ds)(hx:Passes CX X E)
  (ht:eval (.Call (.Attribute o m apos) [] [] pos) X.env=(do
   let ov <-eval o X.env
   standAt apos.atName
   let (f,first) <-holding [ov] (getMethod ov m pl)
   callWith pos f first (backTo pos (starEach [] X.env)) (backToKw pos (keywordEach [] X.env))):=by rfl) :
  PE X (.Call (.Attribute o m apos) [] [] pos) (ZgE C m sp dvs E ta ZhG):=by
 intro pins s σ H Q I h;refine VJ (pl:=pl) (thn (he pins s σ H _ I h) fun u s1 ⟨x,H1,I1,rx,a,dx,fs,ex,ea,l,q⟩ => ?_) ht;subst ex;obtain rfl:u=Value.ref a:=rx;refine ZiT I1 ea c hm l ?_;exact PySem.W.callWith_K0 (first:=[.ref a]) I1.kIn hm.kp (ZeU (us:=[.ref a]) (vs:=[.ref a]) F hr hb hd hx I1 (.cons rfl .nil) q)
structure Mk(K:P3)(C f:Addr):Prop where
 makes:PySem.W.makesIn K C=true
 init:PySem.W.findIn K (.ref C) "__init__" = some (some (.ref f))
 fn:PySem.W.isFn K (.ref f)=true
 kp:PySem.W.keepIn K (.ref C)=true
theorem ZmH{pins:List (Addr×Obj)}{σ:St}{H:Hp}{s:P1}{Q:VK}{us:List P7}{vs:List V}(M:Mk X.K C f)(F:FnOk X.prog X.w X.K X.mg X.base CX k f fd ps sp)(hr:Room (k+1) X.A)(hb:Binds X.K fd ps ds)(hd:Vals dvs ds)
  (hx:Passes CX X E) (I:Inv X pins σ H s) (r:Vals vs us)
  (h:∀x dx,H x=none->H dx=none->dx≠x->sp (.ref x :: (vs++dvs)) (upd (upd H dx (.own x)) x (.ins C dx [])) (fun v H2=>v = .non/\Q (.ref x) H2) E) :
  wpAny (model X.prog X.w) X.A (call (.ref C) us) (EP X pins σ Q) X.xe s:=by
 have hq:=h (s.heap.objs.size+1) s.heap.objs.size (I.hok.fresh (QT _)) (I.hok.fresh (Yi _)) (Yx (Qg _));have I2:=Inv.made (C:=C) I;have r2:Vals (V.ref (s.heap.objs.size+1) :: (vs++dvs)) (Value.ref (s.heap.objs.size+1) :: (us++ds)):=.cons rfl (r.append hd);have hl:(Value.ref (s.heap.objs.size+1) :: us++ds).length=ps.length:=by
  have e:=r2.length;rw[F.len _ _ _ _ hq] at e;exact e.symm
 refine wpAny_call (Zk6 (f:=f) I.kIn M.makes M.init (Vj.mp M.fn) (QE (F.run _ X.stack _ _ ⟨Value.ref (s.heap.objs.size+1) :: us,[]⟩ (Value.ref (s.heap.objs.size+1) :: (us++ds)) _ _ E (hr.make C us [])
  (I2.env0.make C us []) (hb _ (Value.ref (s.heap.objs.size+1) :: us) I2.kIn hl) r2 hq) fun r s' hq' => ?_))
 cases r with
 | error e=>exact hx pins σ _ _ e s' I2 hq'
 | ok fl =>
  cases fl with
  | ret u =>
   obtain⟨v,H',I3,rv,ev,q3⟩:=I2.after hq';subst ev;exact⟨rv,⟨V.ref (s.heap.objs.size+1),H',I3,rfl,q3⟩⟩
  | next=>exact False.elim hq'
  | brk=>exact False.elim hq'
  | cont=>exact False.elim hq'
theorem ZrD(M:Mk X.K C f)(F:FnOk X.prog X.w X.K X.mg X.base CX k f fd ps sp)(hr:Room (k+1) X.A)(hg:Gl X x)(hm:X.mg x=some (.ref C))(hb:Binds X.K fd ps ds)(hd:Vals dvs ds)(hx:Passes CX X E)
  (ha:PA X (e :: es) t) (hdb:(x == ("__debug__" : Str))=false:=by decide) (he:starEach (e :: es) X.env=(false,eval e X.env) :: starEach es X.env:=by rfl) (hpl:(backTo pos (starEach es X.env)).any (·.1)=false:=by rfl) :
  PE X (.Call (.Name x p) (e :: es) [] pos) (Zg8 C sp dvs E t):=by
 intro pins s σ H Q I h;refine Wp (Zgl I hg hm ?_ hdb);refine Ve (h₀:=X.base) I.ok.mod.kin M.kp (thn (ha pos pins s σ H _ I h) fun us s1 ⟨vs,H1,I1,r,q⟩=>⟨I1.kIn,?_⟩) he hpl;exact ZmH M F hr hb hd hx I1 r q
end
section
variable{X:Cx}{CX:CXT}{k:Nat}{f C:Addr}{fd:P6}{ps ks:List Str}{sp:Sp}{E:XK}{x m:Str}{p pos apos kpos:Pos}{e o:Expr}{es:List Expr}{kws:List Keyword}{te ta:TE}{t tk:TA}{nm:Option Str}
structure KBinds(K:P3)(fd:P6)(ps ks:List Str)(g:List P7->List P7->List P7)(gV:List V->List V->List V):Prop where
 to:∀(s:P1) (us ws:List P7),K.In s.heap->(g us ws).length=ps.length->BindsTo s fd ⟨us,ks.zip ws⟩ (ps.zip (g us ws))
 rel:∀{vs:List V} {us:List P7} {zs:List V} {ws:List P7},Vals vs us->Vals zs ws->Vals (gV vs zs) (g us ws)
variable{g:List P7->List P7->List P7}{gV:List V->List V->List V}
end
structure FnScope(N P:List Str)(sc:Scope):Prop where
 kind:sc.kind = .function
 co:sc.isCoroutine=false
 gen:sc.isGenerator=false
 nd:N.Nodup
 pre:N.take P.length=P
 par:∀x∈P,sc.names.lookup x=some .local\/sc.names.lookup x=some .cell
 nofree:∀y∈sc.names,y.2≠.free
theorem ZhY{kindOf:Str->Option NameKind}{x:Str}:∀{binds:List (Str×P7)} {m:Str->Option P7},(∀v,(x,v) ∉ binds)->bindL kindOf binds m x=m x
 | [],_,_=>rfl
 | (n,v) :: r,m,h=>by
  unfold bindL;rw[ZhY fun w hw=>h w (Yl _ hw)];split
  ·have:x≠n:=by rintro rfl; exact h v Yt
   simp[this]
  ·rfl
theorem Zkg{kindOf:Str->Option NameKind}{x:Str}:∀{binds:List (Str×P7)} {m:Str->Option P7},(∀v,(x,v) ∉ binds)->bindC kindOf binds m x=m x
 | [],_,_=>rfl
 | (n,v) :: r,m,h=>by
  unfold bindC;rw[Zkg fun w hw=>h w (Yl _ hw)];split
  ·rfl
  ·have:x≠n:=by rintro rfl; exact h v Yt
   simp[this]
theorem ZhO{kindOf:Str->Option NameKind}{x:Str}{v:P7}:∀{P:List Str} {vs:List P7} {i:Nat} {m:Str->Option P7},P.Nodup->P[i]?=some x->vs[i]?=some v->kindOf x=some .local ->
  bindL kindOf (P.zip vs) m x=some v
 | [],_,_,_,_,h,_,_=>by simp at h
 | _ :: _,[],_,_,_,_,h,_=>by simp at h
 | p :: P,w :: vs,0,m,nd,h1,h2,hk=>by
  simp at h1 h2; subst h1; subst h2;show bindL kindOf ((p,w) :: P.zip vs) m p=_;unfold bindL;rw[ZhY fun v hv=>(W7.mp nd).1 (UC hv).1,Yg hk];simp
 | p :: P,w :: vs,i+1,m,nd,h1,h2,hk=>by
  show bindL kindOf ((p,w) :: P.zip vs) m x=_;unfold bindL;exact ZhO (i:=i) (W7.mp nd).2 (by simpa using h1) (by simpa using h2) hk
theorem Zjj{kindOf:Str->Option NameKind}{x:Str}{v:P7}:∀{P:List Str} {vs:List P7} {i:Nat} {m:Str->Option P7},P.Nodup->P[i]?=some x->vs[i]?=some v->kindOf x≠some .local ->
  bindC kindOf (P.zip vs) m x=some v
 | [],_,_,_,_,h,_,_=>by simp at h
 | _ :: _,[],_,_,_,_,h,_=>by simp at h
 | p :: P,w :: vs,0,m,nd,h1,h2,hk=>by
  simp at h1 h2; subst h1; subst h2;show bindC kindOf ((p,w) :: P.zip vs) m p=_;unfold bindC;rw[Zkg fun v hv=>(W7.mp nd).1 (UC hv).1,Yh hk];simp
 | p :: P,w :: vs,i+1,m,nd,h1,h2,hk=>by
  show bindC kindOf ((p,w) :: P.zip vs) m x=_;unfold bindC;exact Zjj (i:=i) (W7.mp nd).2 (by simpa using h1) (by simpa using h2) hk
def start(N:List Str)(vs:List V):St:=vs.map some++List.replicate (N.length - vs.length) none
def ZP(CX:CXT)(P:P5)(w:World)(K:P3)(mg:Str->Option P7)(base:Heap)(N:List Str)(qual:Str)(scope:Scope)(f:Addr)(cd:P7)(A:P4)(outer:List Env)(s:P1)(H:Hp)(E:XK):Cx where
 prog:=P
 w:=w
 K:=K
 mg:=mg
 base:=base
 A:=A.deeper (envOfC qual scope s.heap.objs.size f cd)
 N:=N
 s₀:=s
 H₀:=H
 env:=envOfC qual scope s.heap.objs.size f cd
 outer:=outer
 stack:=envOfC qual scope s.heap.objs.size f cd :: outer
 ex:=[]
 calm:=true
 fn:=fun _=>true
 pn:=[]
 xe:=fun e s'=>wpAny (model P w) (A.deeper (envOfC qual scope s.heap.objs.size f cd)) (leaving (envOfC qual scope s.heap.objs.size f cd) e) (fun _ s''=>CX outer H s E e s'') (fun e' s''=>CX outer H s E e' s'') s'
theorem Zil{sc:Scope}{n:Nat}{x:Str}(h:sc.names.lookup x=some .cell):∃c,(cellsFrom n sc.names []).lookup x=some c:=by
 have q:=PySem.W.cellsFrom_some sc.names n [] (.inl h);exact Option.isSome_iff_exists.mp q
theorem ZmI{CX:CXT}{P:P5}{w:World}{K:P3}{mg:Str->Option P7}{base:Heap}{N ps:List Str}{qual:Str}{scope:Scope}{f:Addr}{cd:P7}{A:P4}{outer:List Env}{s s1:P1}{H:Hp}{E:XK}{us:List P7}{vs:List V}
  (S:FnScope N ps scope) (hd:A.handled=none) (e0:Env0 P w K mg base A outer s H) (hl:vs.length=ps.length) (r:Vals vs us)
  (x:InCallC s s.heap.objs.size (bindL (envOfC qual scope s.heap.objs.size f cd).kindOf (ps.zip us) fun _=>none) (cellsFrom (s.heap.objs.size+1) scope.names []) (bindC (envOfC qual scope s.heap.objs.size f cd).kindOf (ps.zip us) fun _=>none) s1) :
  Inv (ZP CX P w K mg base N qual scope f cd A outer s H E) [] (start N vs) H s1:=by
 have hpl:ps.length<=N.length:=by have:=congrArg List.length S.pre; rw[Y1] at this; omega
 obtain⟨h1,tk,rfl,hk⟩:=x.done;have noA:∀b:Addr,b ∉ (ZP CX P w K mg base N qual scope f cd A outer s H E).ex:=fun b z=>absurd (show b∈([]:List Addr) from z) (by simp);refine⟨⟨e0.mod,S.kind,rfl,rfl,Yi _,fun y z c h1 h2 => ?_,fun y hy => ?_,fun y c _ h => ?_,fun _=>hd,Around.frames_deeper e0.frames,.inr ⟨rfl,rfl⟩,fun b z=>absurd z (noA b),e0.bs,e0.bsz,fun b _ _=>noA b,fun b z=>absurd z (noA b),e0.funs,e0.frf⟩,
  rfl,e0.bare,Un.kept hk,⟨_,x.toInCall.ns,fun i y v h1 h2 h3 => ?_⟩,fun y c h=>⟨_,x.cell y c h⟩,e0.hok.fresh (Yi _),fun y c h => ?_,fun p hp=>absurd (show p∈([]:List (Addr×Obj)) from hp) (by simp),e0.hok.kept hk,?_⟩
 ·exact name_of_addr x.apart (QJ h1) (QJ h2)
 ·have hy:scope.names.lookup y=some .cell\/scope.names.lookup y=some .free:=hy;rcases hy with hy | hy
  ·exact Zil hy
  ·exact absurd rfl (S.nofree _ (QJ hy))
 ·exact VT (x.above y c (QJ h))
 ·have hi:i<vs.length:=by
   unfold start at h2;by_cases hi:i<vs.length
   ·exact hi
   ·rw[YZ (by simpa using hi)] at h2;rw[QM] at h2;split at h2 <;> cases h2
  have ha:vs[i]?=some v:=by
   unfold start at h2;rw[YD (by simpa using hi),YO] at h2;cases e:vs[i]? with
   | none=>rw[e] at h2; cases h2
   | some a=>rw[e] at h2; cases h2; rfl
  obtain⟨u,hu,rv⟩:=r.get ha;have hp:ps[i]?=some y:=by
   rw[<-S.pre,List.getElem?_take_of_lt (by omega)]; exact h1
  have ndP:ps.Nodup:=by rw[<-S.pre]; exact S.nd.sublist (Qx _ _)
  refine⟨u,rv,?_⟩;rcases S.par y (Wx hp) with k | k
  ·exact .inl ⟨k,ZhO ndP hp hu k⟩
  ·obtain⟨c,e⟩:=Zil (n:=s.heap.objs.size+1) k;refine .inr ⟨.inl k,c,e,?_⟩;have q:=x.cell y c e;rw[Zjj ndP hp hu (by show scope.names.lookup y≠_; rw[k]; decide)] at q;exact q
 ·exact e0.hok.fresh (VT (x.above y c (QJ h)))
 ·unfold start;show _=N.length;rw[Yy,Yr,VL];omega
theorem Zlw{CX:CXT}{P:P5}{w:World}{K:P3}{mg:Str->Option P7}{base:Heap}{k:Nat}{f:Addr}{name qual:Str}{params:Arguments}{body:List Stmt}{scope:Scope}{dV kV doc pm cdv ct oc:P7}{an od:Option Addr}
  {osl:Array (Option P7)} {N ps:List Str} {sp:Sp} (lk:K.lookup f=some ⟨oc,od,.func (PySem.W.fnOf name qual params body scope dV kV doc pm an cdv ct),osl⟩) (hcd:PySem.W.codeIn K cdv qual=true) (S:FnScope N ps scope)
  (len:∀vs H Q E,sp vs H Q E->vs.length=ps.length)
  (hbody:∀(A:P4) (outer:List Env) (s:P1) (H:Hp) (vs:List V) (Q:VK) (E:XK),Room k (A.deeper (envOfC qual scope s.heap.objs.size f cdv))->sp vs H Q E ->
   ∃t,PSs (ZP CX P w K mg base N qual scope f cdv A outer s H E) body t/\t { nx:=fun _ H'=>Q .non H',rt:=Q } (start N vs) H) :
  FnOk P w K mg base CX (k+1) f (PySem.W.fnOf name qual params body scope dV kV doc pm an cdv ct) ps sp:=by
 refine⟨len,fun A outer s H args us vs Q E hr e0 hb r hsp => ?_⟩;have hl:=len _ _ _ _ hsp;have KX:K.In s.heap:=e0.mod.kin.keeps fun b o e=>(e0.bs b o e).1;have lim:s.heap.NoLimit:=e0.mod.nolimit.keeps fun b o e=>(e0.bs b o e).1;have hkind:∀y∈ps.zip us,scope.names.lookup y.1=some .local\/(scope.names.lookup y.1=some .cell/\((cellsFrom (s.heap.objs.size+1) scope.names []).lookup y.1).isSome=true):=fun⟨n,v⟩ hy=>by
  rcases S.par n (UC hy).1 with q | q
  ·exact .inl q
  ·exact .inr ⟨q,PySem.W.cellsFrom_some _ _ _ (.inl q)⟩
 refine codeAny_call_function hr.depth (KX _ _ lk) rfl S.co S.gen rfl (PySem.W.codeRec_of KX hcd) (hb _ _ _ _ ?_);refine wpAny_newFunctionEnv_cells S.kind hkind fun env he s1 x => ?_;subst he;refine⟨lim.keeps x.toInCall.keep,codeAny_func ?_⟩;obtain⟨t,ht,hq⟩:=hbody A outer s H vs Q E (hr.deeper _) hsp;have I:Inv (ZP CX P w K mg base N qual scope f cdv A outer s H E) [] (start N vs) H s1:=ZmI S hr.hd e0 hl r x;refine YW (ht [] s1 (start N vs) H _ I hq) (fun fl s' hs => ?_) fun e s' hs=>hs;have fin:∀{σ':St} {H':Hp} {v:V} {u:P7},Inv (ZP CX P w K mg base N qual scope f cdv A outer s H E) [] σ' H' s'->RelV v u->Q v H'->CE outer P w H s Q u s' :=
  fun {σ' H' v u} J rv q=>⟨v,H',J.os,J.bare,J.base,J.hok,rv,q⟩
 cases fl with
 | ret u =>
  obtain⟨v,σ',H',J,rv,q⟩:=hs;exact fin J rv q
 | next =>
  obtain⟨σ',H',J,q⟩:=hs;exact fin (v:=V.non) (u:=Value.none) J rfl q
 | brk =>
  obtain⟨_,_,_,q⟩:=hs;exact False.elim q
 | cont =>
  obtain⟨_,_,_,q⟩:=hs;exact False.elim q
section
variable{X:Cx}{x:Str}{p pos:Pos}{e:Expr}{es:List Expr}{t:TA}{id T:String}{r:List V->Hp->VK->Prop}
def tCB(r:List V->Hp->VK->Prop)(t:TA):TE:=fun σ H Q=>t σ H fun vs H1=>r vs H1 Q
theorem Zjz(hc:Za4 X (.builtin id) r)(hg:Gl X x)(hm:X.mg x=none)(hv:bootBuiltins x=some (.builtin id))(ha:PA X (e :: es) t)(hn:x≠"__name__":=by decide)(hdb:(x == ("__debug__" : Str))=false:=by decide)
  (he:starEach (e :: es) X.env=(false,eval e X.env) :: starEach es X.env:=by rfl) (hpl:(backTo pos (starEach es X.env)).any (·.1)=false:=by rfl):PE X (.Call (.Name x p) (e :: es) [] pos) (tCB r t):=by
 intro pins s σ H Q I h;refine Wp (Zbi I hg hm hv ?_ hn hdb);exact W8 (thn (ha pos pins s σ H _ I h) fun us s1 ⟨vs,H1,I1,r1,q1⟩=>hc pins s1 σ H1 vs us Q I1 r1 q1) he hpl
theorem Zif(hc:Za4 X (.type T) r)(hg:Gl X x)(hm:X.mg x=none)(hv:bootBuiltins x=some (.type T))(ha:PA X (e :: es) t)(hn:x≠"__name__":=by decide)(hdb:(x == ("__debug__" : Str))=false:=by decide)
  (he:starEach (e :: es) X.env=(false,eval e X.env) :: starEach es X.env:=by rfl) (hpl:(backTo pos (starEach es X.env)).any (·.1)=false:=by rfl):PE X (.Call (.Name x p) (e :: es) [] pos) (tCB r t):=by
 intro pins s σ H Q I h;refine Wp (Zbi I hg hm hv ?_ hn hdb);exact Ww (thn (ha pos pins s σ H _ I h) fun us s1 ⟨vs,H1,I1,r1,q1⟩=>hc pins s1 σ H1 vs us Q I1 r1 q1) he hpl
end
end L2
namespace HT
open PySem PyProof.Rows
section
variable{prog:P5}{w:World}{A:P4}{E:P7->P1->Prop}{s:P1}
theorem cat_tup{t b:Addr}{vs ws:List P7}{Q:P7->P1->Prop}(ht:IsTup s.heap t vs.toArray)(hb:IsTup s.heap b ws.toArray)(hv:vs≠[])
  (h1:ws=[]->Q (.ref t) s) (h2:ws≠[]->Q (.ref s.heap.objs.size) { s with heap:=s.heap.push { cls:=.type "tuple",data:=.seq (vs++ws).toArray } })
  (hsz:vs.length+ws.length<=sizeLine):wpAny (model prog w) A (binaryOp .Add (.ref t) (.ref b)) Q E s:=by
 obtain⟨⟨cls,dd,data,sl⟩,ho,hc,n,hd⟩:=id ht;obtain⟨⟨cls2,dd2,data2,sl2⟩,ho2,hc2,n2,hd2⟩:=id hb;simp only at hc hd hc2 hd2;subst hc hd hc2 hd2;have e:vs.toArray++ws.toArray=(vs++ws).toArray:=by simp
 by_cases hw:ws=[]
 ·exact concat_meets ⟨_,ho,rfl⟩ ⟨_,ho2,rfl⟩ Up seq_tuple_add Vv Vn (Vf _ _)
   (tuple_addW1 t b vs.toArray ws.toArray n n2 dd dd2 sl sl2 (by simpa using hv) (by simp[hw])) ⟨ho,ho2,h1 hw⟩
 ·refine concat_meets ⟨_,ho,rfl⟩ ⟨_,ho2,rfl⟩ Up seq_tuple_add Vv Vn (Vf _ _)
   (tuple_addW2 t b vs.toArray ws.toArray n n2 dd dd2 sl sl2 (by simpa using hv) (by simpa using hw) (by rw[Yu,Yu]; exact hsz)) ⟨ho,ho2,?_⟩
  rw[e];exact h2 hw
def sIx(n d:Nat):Option Int->Nat
 | none=>d
 | some v=>if v<0 then (v+(n:Int)).toNat else min v.toNat n
theorem sIx_none(n d:Nat):sIx n d none=d:=rfl
theorem sIx_nat(n d k:Nat):sIx n d (some (k:Int))=min k n:=by
 show (if (k:Int)<0 then ((k:Int)+(n:Int)).toNat else min (k:Int).toNat n)=min k n;rw[Yh (by omega),Wq]
theorem Zlu(n d:Nat)(hd:d<=n)(o:Option Int):sIx n d o<=n:=by
 cases o with
 | none=>exact hd
 | some v =>
  show (if v<0 then (v+(n:Int)).toNat else min v.toNat n)<=n;by_cases hv:v<0
  ·rw[Yg hv]; omega
  ·rw[Yh hv]; exact Nat.min_le_right _ _
theorem Zko(v:Int)(n d:Nat):(if v<0 then max (v+(n:Int)) 0 else min v (n:Int))=((sIx n d (some v):Nat):Int):=by
 show (if v<0 then max (v+(n:Int)) 0 else min v (n:Int))=(((if v<0 then (v+(n:Int)).toNat else min v.toNat n):Nat):Int);by_cases hv:v<0
 ·simp only[Yg hv]; omega
 ·simp only[Yh hv]; omega
theorem Zmf(lo hi:Option Int)(n:Nat):Builtin.Slice.sliceAdjust lo hi 1 (n:Int)=(((sIx n 0 lo:Nat):Int),((sIx n n hi:Nat):Int)):=by
 have h1:¬ ((1:Int)<0):=by omega
 unfold Builtin.Slice.sliceAdjust;simp only[h1,Wz];refine Prod.ext ?_ ?_
 ·cases lo with
  | none=>rfl
  | some v=>exact Zko v n 0
 ·cases hi with
  | none=>rfl
  | some v=>exact Zko v n n
theorem ZpU(i j:Nat):Builtin.Slice.slicePlaces (i:Int) (j:Int) 1=j - i:=by
 unfold Builtin.Slice.slicePlaces;have h1:(1:Int) > 0:=by omega
 simp only[h1,Qb,Int.ediv_one];split <;> omega
theorem ZiI{v:P7}{o:Option Int}{Q:Option Int->P1->Prop}(p:IsPart v o)(h:Q o s):wpAny (model prog w) A (Builtin.Slice.slicePartIndex v) Q E s:=by
 cases p with
 | none=>exact slicePart_none h
 | int i t=>exact slicePart_int h
theorem Zir{sl:Addr}{vl vu:P7}{lo hi:Option Int}{n:Nat}{Q:Int×Int×Nat->P1->Prop}(hs:s.heap.IsSliceOf sl vl vu .none)(pl:IsPart vl lo)(pu:IsPart vu hi)
  (h:Q (((sIx n 0 lo:Nat):Int),1,sIx n n hi - sIx n 0 lo) s):wpAny (model prog w) A (Builtin.Slice.sliceApplied (.ref sl) (pure (n:Int))) Q E s:=by
 obtain⟨os,hos,hcs,hds⟩:=id hs;unfold Builtin.Slice.sliceApplied Builtin.Slice.sliceFields;refine Ya (Ya (Q8 hos hds (x:=vl) rfl (Ya (Q8 hos hds (x:=vu) rfl (Ya (Q8 hos hds (x:=.none) rfl (Yb ?_)))))));refine Ya (slicePart_none ?_);show wpAny _ _ (if ((1:Int) == 0)=true then _ else _) _ _ s;rw[Yh (by decide)];refine Ya (ZiI pl (Ya (ZiI pu (Ya (Yb ?_)))));show wpAny _ _ (match Builtin.Slice.sliceAdjust lo hi 1 (n:Int) with | (lo,hi)=>pure (lo,(1:Int),Builtin.Slice.slicePlaces lo hi 1)) _ _ s;rw[Zmf lo hi n];show wpAny _ _ (pure (((sIx n 0 lo:Nat):Int),(1:Int),Builtin.Slice.slicePlaces ((sIx n 0 lo:Nat):Int) ((sIx n n hi:Nat):Int) 1)) _ _ s;rw[ZpU];exact Yb h
theorem Zm4(xs:Array P7)(i k:Nat):((List.range k).filterMap fun (m:Nat)=>xs[((i:Int)+(m:Int) * 1).toNat]?).toArray=((xs.toList.drop i).take k).toArray:=by
 have e:(fun (m:Nat)=>xs[((i:Int)+(m:Int) * 1).toNat]?)=fun m=>xs[i+m]?:=by
  funext m;have:((i:Int)+(m:Int) * 1).toNat=i+m:=by omega
  rw[this]
 rw[e];have:=pick_run xs i k;rw[Ua] at this;have e2:((fun x=>xs[x]?) ∘ fun x=>i+x)=fun m=>xs[i+m]?:=rfl;rw[e2] at this;rw[this]
theorem getItem_tuple_cut{t sl:Addr}{items:Array P7}{vl vu:P7}{lo hi:Option Int}{Q:P7->P1->Prop}(ht:IsTup s.heap t items)(hs:s.heap.IsSliceOf sl vl vu .none)(pl:IsPart vl lo)(pu:IsPart vu hi)
  (hw:¬ (sIx items.size 0 lo=0/\sIx items.size items.size hi=items.size))
  (h:Q (.ref s.heap.objs.size) { s with heap:=s.heap.push { cls:=.type "tuple",data:=.seq ((items.toList.drop (sIx items.size 0 lo)).take (sIx items.size items.size hi - sIx items.size 0 lo)).toArray } })
  (hsz:items.size<=sizeLine):wpAny (model prog w) A (getItem (.ref t) (.ref sl)) Q E s:=by
 have htake:sizeOk (.seq ((items.toList.drop (sIx items.size 0 lo)).take (sIx items.size items.size hi - sIx items.size 0 lo)).toArray):=by
  show ((items.toList.drop (sIx items.size 0 lo)).take (sIx items.size items.size hi - sIx items.size 0 lo)).toArray.size<=sizeLine;rw[Yu,Y1,WA,Yo];omega
 have hj:sIx items.size items.size hi<=items.size:=Zlu _ _ (Yi _) hi;obtain⟨os,hos,hcs,hds⟩:=id hs;have hTs:s.TypeIs (.ref sl) "slice":=⟨os,hos,hcs⟩;unfold getItem
 try with_reducible refine YM ?_
 first | refine Ya (Yb ?_) | skip
 refine Ya (wpAny_sequenceKey ht.typeIs (by decide) ?_);refine Ya (Wl (name:=Str.ofString "__getitem__") ht.typeIs Wj
  (YU Wj ht.typeIs entry_tuple_getitem ?_ (args_tuple_getitem _ _)))
 show wpAny _ _ (Builtin.Tuple.tupleItemsOf (.ref t) >>= _) _ _ s;refine Ya (tupleItemsOf_ ht ?_);refine Ya (Qj hTs ?_);rw[Yg (by decide)];refine Ya (Zir hs pl pu ?_);have hno:¬ ((((sIx items.size 0 lo:Nat):Int) == 0 && (1:Int) == 1 && (sIx items.size items.size hi - sIx items.size 0 lo) == items.size)=true):=by
  intro q;rw[Y2,Y2] at q;have q1:((sIx items.size 0 lo:Nat):Int)=0:=eq_of_beq q.1.1;have q2:sIx items.size items.size hi - sIx items.size 0 lo=items.size:=eq_of_beq q.2;exact hw ⟨by omega,by omega⟩
 show wpAny _ _ (if (((sIx items.size 0 lo:Nat):Int) == 0 && (1:Int) == 1 && (sIx items.size items.size hi - sIx items.size 0 lo) == items.size)=true then _ else _) _ _ s;rw[Yh hno,Zm4]
 first
  | exact Ya (m:=Builtin.Tuple.tupleExact _) (Y3 (Yb ⟨_,rfl,Yb h⟩) htake)
  | exact Ya (m:=Builtin.Tuple.tupleExact _) (Y3 (Ya (Yb (Yb ⟨_,rfl,Yb h⟩))) htake)
  | exact Ya (Ya (m:=Builtin.Tuple.tupleExact _) (Y3 (Yb (Yb ⟨_,rfl,Yb h⟩)) htake))
  | exact Ya (Ya (m:=Builtin.Tuple.tupleExact _) (Y3 (Yb ⟨_,rfl,Yb h⟩) htake))
end
end HT
namespace L2
open PySem PySem.Spec PyProof.Rows
noncomputable abbrev TO:=St->Hp->(Option Int->Hp->Prop)->Prop
def PO(X:Cx)(e:Option Expr)(t:TO):Prop :=
 ∀(pins:List (Addr×Obj)) (s:P1) (σ:St) (H:Hp) (Q:Option Int->Hp->Prop),Inv X pins σ H s->t σ H Q ->
  wpAny (model X.prog X.w) X.A (evalPart e X.env) (fun u s' => ∃o H',Inv X pins σ H' s'/\IsPart u o/\Q o H') X.xe s
def Zsz:TO:=fun _ H Q=>Q none H
def Znz(t:TE):TO:=fun σ H Q=>t σ H fun x H1 => ∃i,x = .int i/\Q (some i) H1
section
variable{X:Cx}{e:Expr}{te:TE}{lo hi:Option Expr}{tl th:TO}{pos p2:Pos}
theorem ZlS:PO X none Zsz:=by
 intro pins s σ H Q I h;rw[evalPart_none];exact Yb ⟨none,H,I,.none,h⟩
theorem Zp7(h:PE X e te):PO X (some e) (Znz te):=by
 intro pins s σ H Q I hw;rw[evalPart_some];refine thn (h pins s σ H _ I hw) fun u s1 ⟨x,H1,I1,r1,q1⟩ => ?_;obtain⟨i,rfl,q⟩:=q1;obtain⟨t,rfl⟩:=r1;exact⟨some i,H1,I1,.int i t,q⟩
def SlR(X:Cx)(r:V->Option Int->Option Int->Hp->VK->Prop):Prop :=
 ∀(pins:List (Addr×Obj)) (s:P1) (σ:St) (H:Hp) (x:V) (v vl vu:P7) (lo hi:Option Int) (sl:Addr) (Q:VK),Inv X pins σ H s->RelV x v->s.heap.IsSliceOf sl vl vu .none->IsPart vl lo->IsPart vu hi->r x lo hi H Q ->
  ∃T id,typeLookup (.type T) "__getitem__" = pure (some (.builtin id))/\s.TypeIs v T/\wpAny (model X.prog X.w) X.A (getItem v (.ref sl)) (EP X pins σ Q) X.xe s
def tSl(r:V->Option Int->Option Int->Hp->VK->Prop)(te:TE)(tl th:TO):TE:=fun σ H Q=>te σ H fun x H1=>tl σ H1 fun l H2=>th σ H2 fun u H3=>r x l u H3 Q
theorem ZjT{r:V->Option Int->Option Int->Hp->VK->Prop}(hr:SlR X r)(he:PE X e te)(hl:PO X lo tl)(hu:PO X hi th):PE X (.Subscript e (.Slice lo hi none p2) pos) (tSl r te tl th):=by
 intro pins s σ H Q I h;refine Subscript_ (thn (he pins s σ H _ I h) fun v s1 ⟨x,H1,I1,r1,q1⟩ => ?_);refine wpAny_Slice (thn (hl pins s1 σ H1 _ I1 q1) fun vl s2 ⟨l,H2,I2,pl,q2⟩=>thn (hu pins s2 σ H2 _ I2 q2) fun vu s3 ⟨u,H3,I3,pu,q3⟩ => ?_);rw[evalPart_none];refine Yb ?_;have I4:Inv X pins σ H3 { s3 with heap:=s3.heap.push { cls:=.type "slice",data:=.fields #[vl,vu,.none] } }:=I3.kept (t':=s3.toks) fun b ob q=>Ye _ q;obtain⟨T,id,hT,ht,hg⟩:=hr pins { s3 with heap:=s3.heap.push { cls:=.type "slice",data:=.fields #[vl,vu,.none] } } σ H3 x v vl vu l u s3.heap.objs.size Q I4 r1 (Heap.IsSliceOf.new ..) pl pu q3;show wpAny (model X.prog X.w) X.A (subscriptTail e (.Slice lo hi none p2) v (.ref s3.heap.objs.size)) (EP X pins σ Q) X.xe { s3 with heap:=s3.heap.push { cls:=.type "slice",data:=.fields #[vl,vu,.none] } };exact tail_any (ops:=[.ref s3.heap.objs.size,v]) ht hT hg (by with_unfolding_all rfl)
def ZbZ(xs:List V)(lo hi:Option Int):List V:=(xs.drop (HT.sIx xs.length 0 lo)).take (HT.sIx xs.length xs.length hi - HT.sIx xs.length 0 lo)
theorem ZhI(xs:List V)(lo hi:Option Int):(ZbZ xs lo hi).length<=xs.length:=by
 unfold ZbZ;rw[Y1,WA];omega
def Zlv(K:P3):V->Option Int->Option Int->Hp->VK->Prop:=fun x lo hi H Q => ∃a xs,x = .ref a/\SqT K H a xs /\
 ¬ (HT.sIx xs.length 0 lo=0/\HT.sIx xs.length xs.length hi=xs.length)/\∀p,H p=none->Q (.ref p) (upd H p (.tup (ZbZ xs lo hi)))
theorem ZrL:SlR X (Zlv X.K):=by
 intro pins s σ H x v vl vu lo hi sl Q I rx hs pl pu h;obtain⟨a,xs,rfl,hx,hw,q⟩:=h;cases rx;obtain⟨its,r,ht,hz⟩:=I.tuple hx;have hlen:its.toArray.size=xs.length:=by rw[Yu]; exact r.length.symm
 refine⟨"tuple",_,Wj.lookup,ht.typeIs,?_⟩;refine HT.getItem_tuple_cut ht hs pl pu (by rw[hlen]; exact hw) ?_ (by rw[hlen]; exact hz);rw[hlen];refine⟨.ref s.heap.objs.size,_,I.laid (t':=s.toks) (o:=.tup (ZbZ xs lo hi)) (fun b ob q=>Ye _ q) (Yi _) ?_,rfl,q _ (I.hok.fresh (Yi _))⟩;exact⟨YI (ZhI xs lo hi) hz,_,(r.drop (HT.sIx xs.length 0 lo)).take (HT.sIx xs.length xs.length hi - HT.sIx xs.length 0 lo),IsTup.new _ _,fun o2 e2=>by rw[Yq _ rfl] at e2; cases e2; rfl⟩
def Zov(K:P3):R2:=fun x y H Q => ∃a b xs ys,x = .ref a/\y = .ref b/\SqT K H a xs/\SqT K H b ys/\xs≠[]/\xs.length+ys.length<=sizeLine /\
 (ys=[]->Q (.ref a) H)/\(ys≠[]->∀p,H p=none->Q (.ref p) (upd H p (.tup (xs++ys))))
theorem Vals.nil_iff{xs:List V}{us:List P7}(r:Vals xs us):us=[] ↔ xs=[]:=by
 cases r with
 | nil=>simp
 | cons _ _=>simp
theorem ZsY:OpR X (binaryOp .Add) (Zov X.K):=by
 intro pins s σ H x y v u Q I rx ry h;obtain⟨a,b,xs,ys,rfl,rfl,ha,hb,hx,hz,q1,q2⟩:=h;cases rx;cases ry;obtain⟨its,r1,p1,_⟩:=I.tuple ha;obtain⟨its2,r2,p2,_⟩:=I.tuple hb;refine HT.cat_tup p1 p2 (fun z=>hx (r1.nil_iff.mp z)) (fun z=>⟨.ref a,H,I,rfl,q1 (r2.nil_iff.mp z)⟩) (fun z => ?_) (by rw[<-r1.length,<-r2.length]; exact hz);refine⟨.ref s.heap.objs.size,_,I.laid (t':=s.toks) (o:=.tup (xs++ys)) (fun b ob q=>Ye _ q) (Yi _) ?_,rfl,q2 (fun w=>z (r2.nil_iff.mpr w)) _ (I.hok.fresh (Yi _))⟩;exact⟨by rw[Yy]; exact hz,_,r1.append r2,IsTup.new _ _,fun o2 e2=>by rw[Yq _ rfl] at e2; cases e2; rfl⟩
end
def ixN(n:Nat)(i:Int):Option Nat:=if 0<=i then (if i<n then some i.toNat else none) else if -(n:Int)<=i then some (i+n).toNat else none
def atI{α:Type}(xs:List α)(i:Int):Option α:=(ixN xs.length i).bind fun j=>xs[j]?
theorem ZhR{n:Nat}{i:Int}{j:Nat}(h:ixN n i=some j):seqIndex? i n=some j/\j<n/\-(n:Int)<=i/\i<n:=by
 unfold ixN at h;by_cases h0:0<=i
 ·rw[Yg h0] at h;by_cases h1:i<n
  ·rw[Yg h1] at h;have e:i.toNat=j:=Option.some.inj h;exact⟨by rw[seqIndex_of h0 h1,e],by omega,by omega,h1⟩
  ·rw[Yh h1] at h; cases h
 ·rw[Yh h0] at h;by_cases h1 : -(n:Int)<=i
  ·rw[Yg h1] at h;have e:(i+n).toNat=j:=Option.some.inj h;exact⟨by rw[seqIndex_neg (by omega) h1,e],by omega,h1,by omega⟩
  ·rw[Yh h1] at h; cases h
theorem ZfL{α:Type}{xs:List α}{i:Int}{v:α}(h:atI xs i=some v):∃j,seqIndex? i xs.length=some j/\xs[j]?=some v/\j<xs.length/\-(xs.length:Int)<=i/\i<xs.length:=by
 unfold atI at h;cases e:ixN xs.length i with
 | none=>rw[e] at h; cases h
 | some j =>
  rw[e] at h;obtain⟨h1,h2,h3,h4⟩:=ZhR e;exact⟨j,h1,h,h2,h3,h4⟩
theorem ZlF{α:Type}{xs:List α}{j:Nat}{v:α}(h:xs[j]?=some v):atI xs (j:Int)=some v:=by
 have hj:j<xs.length:=(Yc.mp h).1;have e:ixN xs.length (j:Int)=some j:=by
  unfold ixN;rw[Yg (by omega),Yg (by omega)]; simp
 unfold atI; rw[e]; exact h
def Zkh(b:Expr):Prop:=∀o i,subscripted b false o i=operate [o,i] (getItem o i)
def IxR(X:Cx)(r:R2):Prop :=
 ∀(value slice:Expr) (pins:List (Addr×Obj)) (s:P1) (σ:St) (H:Hp) (x y:V) (v u:P7) (Q:VK),Inv X pins σ H s->RelV x v->RelV y u->r x y H Q ->
  subscripted slice false v u=operate [v,u] (getItem v u)->wpAny (model X.prog X.w) X.A (subscriptTail value slice v u) (EP X pins σ Q) X.xe s
def MtR(X:Cx)(id:String)(r:V->List V->Hp->VK->Prop):Prop :=
 ∀(pins:List (Addr×Obj)) (s:P1) (σ:St) (H:Hp) (x:V) (xs:List V) (v:P7) (us:List P7) (Q:VK),Inv X pins σ H s->RelV x v->Vals xs us->r x xs H Q ->
  wpAny (model X.prog X.w) X.A (call (.builtin id) (v :: us)) (EP X pins σ Q) X.xe s
section
variable{X:Cx}{a b:Expr}{ta tb:TE}{pos:Pos}
theorem Zr7{r:R2}(hr:IxR X r)(ha:PE X a ta)(hb:PE X b tb)(hs:Zkh b):PE X (.Subscript a b pos) (tOp r ta tb):=by
 intro pins s σ H Q I h;exact Subscript_ (Zfl ha hb I h fun v u s2 x y H2 I2 rx ry q=>hr a b pins s2 σ H2 x y v u Q I2 rx ry q (hs _ _))
def Znk(K:P3):R2:=fun x y H Q => ∃p xs i v,x = .ref p/\y = .int i/\SqL K H p xs/\atI xs i=some v/\Q v H
def Zll(K:P3):R2:=fun x y H Q => ∃p xs i v,x = .ref p/\y = .int i/\SqT K H p xs/\atI xs i=some v/\Q v H
def Zrd:R2:=fun x y H Q => ∃z i c,x = .str z/\y = .int i/\z.length<=sizeLine/\atI z.cps.toList i=some c/\Q (.str ⟨#[c]⟩) H
theorem ZrJ:IxR X (Znk X.K):=by
 intro value slice pins s σ H x y v u Q I rx ry h hs;obtain⟨p,xs,i,z,rfl,rfl,hq,he,q⟩:=h;cases rx;obtain⟨t,rfl⟩:=ry;obtain⟨its,r,pl,hz⟩:=I.list hq;obtain⟨j,h1,h2,h3,h4,h5⟩:=ZfL he;obtain⟨w,ew,rw'⟩:=r.get h2;have hl:=r.length;have hn:=ZcO;have fin:EP X pins σ Q w s:=⟨z,H,I,rw',q⟩;by_cases h0:0<=i
 ·have hj:i.toNat=j:=by
   rw[seqIndex_of h0 h5] at h1;exact Option.some.inj h1
  exact item_listR pl.isList h0 (by omega) (by rw[hj]; simpa using ew) fin hs
 ·have hj:(i+(its.toArray.size:Int)).toNat=j:=by
   rw[seqIndex_neg (by omega) h4] at h1;rw[Yu,<-hl];exact Option.some.inj h1
  exact subscriptTail_builtinR (x:=w) pl.isList.typeIs slot_list_getitem.lookup
   (wpAny_getItem_list_neg (Q:=fun r s'=>r=w/\EP X pins σ Q r s') pl.isList (by omega) (by rw[Yu] <;> omega) (by omega) (by rw[hj]; simpa using ew) ⟨rfl,fin⟩) hs
theorem ZnP:IxR X (Zll X.K):=by
 intro value slice pins s σ H x y v u Q I rx ry h hs;obtain⟨p,xs,i,z,rfl,rfl,hq,he,q⟩:=h;cases rx;obtain⟨t,rfl⟩:=ry;obtain⟨its,r,pl,hz⟩:=I.tuple hq;obtain⟨j,h1,h2,h3,h4,h5⟩:=ZfL he;obtain⟨w,ew,rw'⟩:=r.get h2;have hl:=r.length;have hn:=ZcO;have fin:EP X pins σ Q w s:=⟨z,H,I,rw',q⟩;exact subscriptTail_builtinR (x:=w) pl.typeIs slot_tuple_getitem.lookup
  (getItem_tuple (j:=j) (Q:=fun r s'=>r=w/\EP X pins σ Q r s') pl (by omega) (by omega) (by rw[Yu,<-hl]; exact h1) (by simpa using ew) ⟨rfl,fin⟩) hs
theorem Zp8:IxR X Zrd:=by
 intro value slice pins s σ H x y v u Q I rx ry h hs;obtain⟨z,i,c,rfl,rfl,hz,he,q⟩:=h;obtain⟨t,rfl⟩:=rx;obtain⟨t',rfl⟩:=ry;obtain⟨j,h1,h2,h3,h4,h5⟩:=ZfL he;have hl:z.cps.toList.length=z.length:=by simp[Str.length]
 rw[hl] at h1 h4 h5;have hn:=ZcO;exact tail_any (typeIs_str s z t) slot_str_getitem.lookup (getItem_str (c:=c) (by
  have e1:decide (i < -(2 ^ 63:Int))=false:=YA (by omega);have e2:decide (i ≥ 2 ^ 63)=false:=YA (by omega);rw[e1,e2,Bool.or_false]) (by rw[h1]; simpa using h2) ⟨.str ⟨#[c]⟩,H,I.tok _,⟨_,rfl⟩,q⟩) hs
theorem Zla(its:List P7)(n j:Nat)(u:P7):Obj.mapSeq (·.setIfInBounds j u) { cls:=.type "list",data:=.seq its.toArray n } = { cls:=.type "list",data:=.seq (its.set j u).toArray n }:=by
 simp[Obj.mapSeq]
theorem Inv.lst{pins:List (Addr×Obj)}{σ:St}{H:Hp}{s:P1}{p:Addr}{xs:List V}(I:Inv X pins σ H s)(h:H p=some (.lst xs)) :
  ∃(its:List P7) (n:Nat),Vals xs its/\s.heap.get? p=some { cls:=.type "list",data:=.seq its.toArray n }/\xs.length<=sizeLine:=by
 obtain⟨z,its,n,r,e⟩:=I.hok p _ h;exact⟨its,n,r,e,z⟩
theorem Inv.lstUpd{pins:List (Addr×Obj)}{σ:St}{H:Hp}{s:P1}{p:Addr}{xs ys:List V}{its its':List P7}{n n':Nat}{f:Obj->Obj}(I:Inv X pins σ H s)(h:H p=some (.lst xs))
  (ho:s.heap.get? p=some { cls:=.type "list",data:=.seq its.toArray n }) (hf:f { cls:=.type "list",data:=.seq its.toArray n } = { cls:=.type "list",data:=.seq its'.toArray n' }) (r:Vals ys its') (hz:ys.length<=sizeLine) (t:Nat) :
  Inv X pins σ (upd H p (.lst ys)) { s with heap:=s.heap.update p f,toks:=t }:=by
 have e:(s.heap.update p f).get? p=some { cls:=.type "list",data:=.seq its'.toArray n' }:=by
  rw[YL f ho (by rw[hf] <;> rfl),hf]
 refine I.write (x:=p) (e:=p) (by rw[h]; trivial) (.inl rfl) (fun b u hb q=>(QU _ _ (Y7 hb)).trans q) ⟨_,e⟩ ?_;exact⟨hz,its',n',r,e⟩
def ZqW:V->V->V->Hp->(Hp->Prop)->Prop:=fun o i v H Q => ∃p xs k j,o = .ref p/\i = .int k/\H p=some (.lst xs)/\ixN xs.length k=some j/\Q (upd H p (.lst (xs.set j v)))
theorem set_list:Zjk X ZqW:=by
 intro pins s σ H o i v ov iv u Q I ro ri rv h;obtain⟨p,xs,k,j,rfl,rfl,hp,hj,q⟩:=h;cases ro;obtain⟨t,rfl⟩:=ri;obtain⟨its,n,r,ho,hz⟩:=I.lst hp;obtain⟨h1,h2,h3,h4⟩:=ZhR hj;have hl:=r.length;have hn:=ZcO;have I':Inv X pins σ (upd H p (.lst (xs.set j v))) { s with heap:=s.heap.update p (Obj.mapSeq (·.setIfInBounds j u)) } :=
  I.lstUpd hp ho (Zla its n j u) (r.set rv j) (by rw[WT]; exact hz) s.toks
 by_cases h0:0<=k
 ·have hk:k.toNat=j:=by
   rw[seqIndex_of h0 h4] at h1;exact Option.some.inj h1
  exact PySem.W.ki_setAt ho h0 (by omega) (by rw[Yu,<-hl]; exact h4) (by rw[hk]; exact⟨_,I',q⟩)
 ·have hk:(k+(its.toArray.size:Int)).toNat=j:=by
   rw[seqIndex_neg (by omega) h3] at h1;rw[Yu,<-hl];exact Option.some.inj h1
  exact PySem.W.ki_setBack ho (by omega) (by rw[Yu,<-hl]; exact h3) (by omega) (by rw[hk]; exact⟨_,I',q⟩)
theorem Zlk(lo hi:Option Int)(n:Nat):(sliceBounds lo hi none n).1=((HT.sIx n 0 lo:Nat):Int)/\(sliceBounds lo hi none n).2.1=((HT.sIx n n hi:Nat):Int)/\(sliceBounds lo hi none n).2.2=1:=by
 refine⟨?_,?_,rfl⟩
 ·cases lo with
  | none=>simp[sliceBounds,HT.sIx]
  | some i =>
   simp only[sliceBounds,HT.sIx,Option.getD_none,show (1:Int) > 0 by decide,Qb];by_cases h:i<0
   ·simp only[h,Qb] <;> omega
   ·simp only[h,Wz] <;> omega
 ·cases hi with
  | none=>simp[sliceBounds,HT.sIx]
  | some i =>
   simp only[sliceBounds,HT.sIx,Option.getD_none,show (1:Int) > 0 by decide,Qb];by_cases h:i<0
   ·simp only[h,Qb] <;> omega
   ·simp only[h,Wz] <;> omega
theorem Zmi(its:List P7)(lo hi:Option Int):slicePick its.toArray lo hi none=((its.drop (HT.sIx its.length 0 lo)).take (HT.sIx its.length its.length hi - HT.sIx its.length 0 lo)).toArray:=by
 obtain⟨h1,h2,h3⟩:=Zlk lo hi its.toArray.size;unfold slicePick;rw[h1,h2,h3];simp only[sliceRange_one,pick_run,Yu] <;> rfl
def ZsI(K:P3):V->Option Int->Option Int->Hp->VK->Prop:=fun x lo hi H Q => ∃a xs,x = .ref a/\SqL K H a xs/\∀p,H p=none->Q (.ref p) (upd H p (.lst (ZbZ xs lo hi)))
theorem Zqf:SlR X (ZsI X.K):=by
 intro pins s σ H x v vl vu lo hi sl Q I rx hs pl pu h;obtain⟨a,xs,rfl,hx,q⟩:=h;cases rx;obtain⟨its,r,ht,hz⟩:=I.list hx;have hlen:=r.length;refine⟨"list",_,slot_list_getitem.lookup,ht.isList.typeIs,?_⟩;refine wpAny_getItem_list_slice ht.isList hs pl pu .none (by simp) ?_ (by rw[Yu] <;> omega);rw[Zmi,<-hlen];refine⟨.ref s.heap.objs.size,_,I.laid (t':=s.toks) (o:=.lst (ZbZ xs lo hi)) (fun b ob q=>Ye _ q) (Yi _) ?_,rfl,q _ (I.hok.fresh (Yi _))⟩;exact⟨YI (ZhI xs lo hi) hz,_,0,(r.drop (HT.sIx xs.length 0 lo)).take (HT.sIx xs.length xs.length hi - HT.sIx xs.length 0 lo),Yq _ rfl⟩
theorem Zpx:Za4 X (.builtin "len") (fun xs H Q => ∃p ys,xs=[.ref p]/\(SqL X.K H p ys\/SqT X.K H p ys)/\Q (.int ys.length) H):=by
 intro pins s σ H xs us Q I r h;obtain⟨p,ys,rfl,hq,q⟩:=h;obtain⟨u,rfl,rx⟩:=vals1 r;cases rx;have hn:=ZcO;rcases hq with hq | hq
 ·obtain⟨its,r',pl,hz⟩:=I.list hq;have hlen:=r'.length;exact Calls.call_len_list pl.isList (by simp only[Yu] <;> omega) ⟨.int ys.length,H,I.tok _,⟨s.toks+1,by rw[Yu,hlen]⟩,q⟩
 ·obtain⟨its,r',pl,hz⟩:=I.tuple hq;have hlen:=r'.length;exact len_tuple pl (by simp only[Yu] <;> omega) ⟨.int ys.length,H,I.tok _,⟨s.toks+1,by rw[Yu,hlen]⟩,q⟩
theorem ZqY:Za4 X (.builtin "len") (fun xs H Q => ∃z,xs=[.str z]/\z.length<=sizeLine/\Q (.int z.length) H):=by
 intro pins s σ H xs us Q I r h;obtain⟨z,rfl,hz,q⟩:=h;obtain⟨u,rfl,t,rfl⟩:=vals1 r;have hn:=ZcO;exact len_str (by omega) ⟨.int z.length,H,I.tok _,⟨_,rfl⟩,q⟩
theorem ZmX:Za4 X (.type "list") (fun xs H Q => ∃p ys,xs=[.ref p]/\(SqL X.K H p ys\/SqT X.K H p ys)/\∀l,H l=none->Q (.ref l) (upd H l (.lst ys))):=by
 intro pins s σ H xs us Q I r h;obtain⟨p,ys,rfl,hq,q⟩:=h;obtain⟨u,rfl,rx⟩:=vals1 r;cases rx;have fin:∀(its:List P7),Vals ys its->ys.length<=sizeLine->∀(h':Heap) (c':Nat),(∀b o',s.heap.get? b=some o'->h'.get? b=some o') ->
   h'.get? s.heap.objs.size=some { cls:=.type "list",dict:=none,data:=.seq its.toArray c',slots:=#[] }->EP X pins σ Q (.ref s.heap.objs.size) { s with heap:=h' }:=fun its r' hz h' c' kp e =>
  ⟨.ref s.heap.objs.size,_,I.laid (t':=s.toks) kp (Yi _) (show ObjOk X.prog X.w _ h' _ (.lst ys) from⟨hz,its,c',r',e⟩),rfl,q _ (I.hok.fresh (Yi _))⟩
 rcases hq with hq | hq
 ·obtain⟨its,r',pl,hz⟩:=I.list hq;have hlen:=r'.length;obtain⟨o,ho,hc,n,hd⟩:=pl.isList;exact call_list_seq p (.inl rfl) ho hc hd (fun h' c' kp e=>fin its r' hz h' c' kp e) (by simp only[Yu] <;> omega)
 ·obtain⟨its,r',pl,hz⟩:=I.tuple hq;have hlen:=r'.length;obtain⟨o,ho,hc,n,hd⟩:=pl;exact call_list_seq p (.inr rfl) ho hc hd (fun h' c' kp e=>fin its r' hz h' c' kp e) (by simp only[Yu] <;> omega)
theorem Zh0:Za4 X (.type "tuple") (fun xs H Q => ∃p ys,xs=[.ref p]/\((SqL X.K H p ys/\∀l,H l=none->Q (.ref l) (upd H l (.tup ys)))\/(SqT X.K H p ys/\Q (.ref p) H))):=by
 intro pins s σ H xs us Q I r h;obtain⟨p,ys,rfl,h⟩:=h;obtain⟨u,rfl,rx⟩:=vals1 r;cases rx;rcases h with⟨hq,q⟩ | ⟨hq,q⟩
 ·obtain⟨its,r',pl,hz⟩:=I.list hq;have hlen:=r'.length;refine call_tuple_list pl.isList (fun h' kp => ?_) (by simp only[Yu] <;> omega);have I1:Inv X pins σ H { s with heap:=h' }:=I.kept (t':=s.toks) kp;have I2:Inv X pins σ (upd H h'.objs.size (.tup ys)) { s with heap:=h'.push { cls:=.type "tuple",data:=.seq its.toArray } } :=
   I1.laid (t':=s.toks) (fun b o e=>Ye _ e) (Yi _) (show ObjOk X.prog X.w _ _ _ (.tup ys) from⟨hz,its,r',IsTup.new _ _,fun o2 e2=>by rw[Yq _ rfl] at e2; cases e2; rfl⟩)
  exact⟨.ref h'.objs.size,_,I2,rfl,q _ (I1.hok.fresh (Yi _))⟩
 ·obtain⟨its,r',pl,hz⟩:=I.tuple hq;exact call_tuple_same pl ⟨.ref p,H,I,rfl,q⟩
def tyV(K:P3)(T:String)(x:V)(H:Hp):Prop:=match x with
 | .str _=>T = "str"
 | .int _=>T = "int"
 | .ref p=>(T = "list"/\∃xs,SqL K H p xs)\/(T = "tuple"/\∃o,K.lookup p=some o/\o.cls = .type "tuple"/\o.dict=none) \/
   (T = "dict"/\((∃kvs,H p=some (.dK kvs))\/∃kvs,H p=some (.dT kvs)))\/(T = "set"/\∃S n,H p=some (.set S n))
 | _=>False
theorem Zha{pins:List (Addr×Obj)}{σ:St}{H:Hp}{s:P1}{T:String}{x:V}{v:P7}(I:Inv X pins σ H s)(r:RelV x v)(ty:tyV X.K T x H) :
  s.TypeIs v T/\∀a,v = .ref a->∃ob,s.heap.get? a=some ob/\ob.dict=none:=by
 cases x with
 | str z =>
  obtain⟨t,rfl⟩:=r;cases (show T = "str" from ty);exact⟨typeIs_str s z t,fun _ e=>nomatch e⟩
 | int i =>
  obtain⟨t,rfl⟩:=r;cases (show T = "int" from ty);exact⟨typeIs_int s i t,fun _ e=>nomatch e⟩
 | ref p =>
  cases r;rcases ty with⟨rfl,xs,hq⟩ | ⟨rfl,o,hk,hc,hd⟩ | ⟨rfl,hk⟩ | ⟨rfl,S,n,hk⟩
  ·obtain⟨its,_,pl,_⟩:=I.list hq;refine⟨pl.isList.typeIs,fun a e => ?_⟩;cases e;obtain⟨o,n,e,c,hd,_⟩:=pl;exact⟨o,e,hd⟩
  ·refine⟨⟨o,I.kIn p o hk,hc⟩,fun a e => ?_⟩;cases e;exact⟨o,I.kIn _ o hk,hd⟩
  ·have z:∃o,s.heap.get? p=some o/\o.ExactDict:=by
    rcases hk with⟨kvs,hk⟩ | ⟨kvs,hk⟩
    ·obtain⟨_,_,_,_,o,_,_,e,ex,_⟩:=I.hok p _ hk;exact⟨o,e,ex⟩
    ·obtain⟨_,_,_,_,o,_,_,e,ex,_⟩:=I.hok p _ hk;exact⟨o,e,ex⟩
   obtain⟨o,e,ex⟩:=z;refine⟨⟨o,e,ex.1⟩,fun a e2 => ?_⟩;cases e2;exact⟨o,e,ex.2.1⟩
  ·obtain⟨o,_,_,_,e,ex,_⟩:=I.hok p _ hk;refine⟨⟨o,e,ex.1⟩,fun a e2 => ?_⟩;cases e2;exact⟨o,e,ex.2.1⟩
 | _=>exact False.elim ty
def Zpo(K:P3)(T:String)(r:V->List V->Hp->VK->Prop)(to:TE):TE:=fun σ H Q=>to σ H fun x H1=>tyV K T x H1/\r x [] H1 Q
def tBM(K:P3)(T:String)(r:V->List V->Hp->VK->Prop)(to:TE)(t:TA):TE:=fun σ H Q=>to σ H fun x H1=>tyV K T x H1/\t σ H1 fun xs H2=>r x xs H2 Q
variable{o e:Expr}{es:List Expr}{to:TE}{t:TA}{name:Str}{apos cpos:Pos}{T id:String}{r:V->List V->Hp->VK->Prop}
theorem Zmv(pa:PlainAttrs T)(slot:Slot T name id)(hty:typeOf (.builtin id)=pure (.type "method_descriptor"))(hm:MtR X id r)(ho:PE X o to)
  (hbase:attributeBase o name X.env (eval o X.env)=eval o X.env:=by rfl) (hline:(apos.endLine == cpos.line)=true:=by rfl):PE X (.Call (.Attribute o name apos) [] [] cpos) (Zpo X.K T r to):=by
 intro pins s σ H Q I h;refine wpAny_Call_method0_late hbase hline (thn (ho pins s σ H _ I h) fun v s1 ⟨x,H1,I1,r1,ty,q1⟩ => ?_);obtain⟨h1,h2⟩:=Zha I1 r1 ty;exact⟨T,id,pa,slot,hty,h1,h2,Vw rfl (PySem.evalArgs_none (hm pins s1 σ H1 x [] v [] Q I1 r1 .nil q1))⟩
theorem ZpI(pa:PlainAttrs T)(slot:Slot T name id)(hty:typeOf (.builtin id)=pure (.type "method_descriptor"))(hm:MtR X id r)(ho:PE X o to)(ha:PA X (e :: es) t)
  (hbase:attributeBase o name X.env (eval o X.env)=eval o X.env:=by rfl)
  (hfew:((backTo cpos (starEach (e :: es) X.env)).all (fun x => !x.1) && (backToKw cpos (keywordEach [] X.env)).all (fun x=>x.1.isSome)
   && decide ((e :: es).length+([]:List Keyword).length+(if ([]:List Keyword).isEmpty then 0 else 1)<30))=true:=by rfl)
  (hline:(apos.endLine == cpos.line)=true:=by rfl) (hs:starEach (e :: es) X.env=(false,eval e X.env) :: starEach es X.env:=by rfl) (hplain:(backTo cpos (starEach es X.env)).any (·.1)=false:=by rfl) :
  PE X (.Call (.Attribute o name apos) (e :: es) [] cpos) (tBM X.K T r to t):=by
 intro pins s σ H Q I h;refine wpAny_Call_method_late hbase hfew hline rfl (thn (ho pins s σ H _ I h) fun v s1 ⟨x,H1,I1,r1,ty,q1⟩ => ?_);obtain⟨h1,h2⟩:=Zha I1 r1 ty;refine⟨T,id,pa,slot,hty,h1,h2,?_⟩;have hA:=ha cpos pins s1 σ H1 _ I1 q1;rw[hs] at hA ⊢;refine Vw (by show (false || (backTo cpos (starEach es X.env)).any (·.1))=false; rw[hplain] <;> rfl) (Calls.evalArgs_plain ?_);exact thn hA fun us s2 ⟨vs,H2,I2,r2,q2⟩=>hm pins s2 σ H2 x vs v us Q I2 r1 r2 q2
/- xs.append(e), list.index on a module's tuple .. are MtR facts of 06m -/
end
def MtM(X:Cx)(id:String)(r:V->List V->Hp->VK->Prop):Prop :=
 ∀(pins:List (Addr×Obj)) (s:P1) (σ:St) (H:Hp) (x:V) (xs:List V) (v:P7) (us:List P7) (Q:VK),Inv X pins σ H s->RelV x v->Vals xs us->r x xs H Q ->
  wpAny (model X.prog X.w) X.A (call (.builtin id) (v :: us)) (EP X pins σ Q) X.xe s
theorem Vals.one:∀{x:V} {us:List P7},Vals [x] us->∃u,us=[u]/\RelV x u
 | _,_,.cons r .nil=>⟨_,rfl,r⟩
theorem Vals.zero:∀{us:List P7},Vals [] us->us=[]
 | _,.nil=>rfl
theorem Vals.dropLast{xs:List V}{us:List P7}(h:Vals xs us):Vals xs.dropLast us.dropLast:=by
 induction h with
 | nil=>exact .nil
 | cons r t ih =>
  cases t with
  | nil=>exact .nil
  | cons q t'=>exact .cons r ih
theorem Zss{α:Type}(l:List α):l.eraseIdx (l.length - 1)=l.dropLast:=by
 induction l with
 | nil=>rfl
 | cons a r ih =>
  cases r with
  | nil=>rfl
  | cons b r =>
   have e:(a :: b :: r).length - 1=((b :: r).length - 1)+1:=by
    have h1:(a :: b :: r).length=r.length+2:=rfl;have h2:(b :: r).length=r.length+1:=rfl;omega
   rw[e,List.eraseIdx_cons_succ,ih]
   all_goals rfl
section
variable{X:Cx}{pins:List (Addr×Obj)}{σ:St}{H:Hp}{s:P1}{l b:Addr}{xs ys zs:List V}
theorem Inv.lset{its its':List P7}{n:Nat}{f:Array P7->Array P7}{t':Nat}(I:Inv X pins σ H s)(hH:H l=some (.lst xs))
  (e:s.heap.get? l=some { cls:=.type "list",data:=.seq its.toArray n }) (hf:f its.toArray=its'.toArray) (hv:Vals ys its') (hz:ys.length<=sizeLine) :
  Inv X pins σ (upd H l (.lst ys)) { s with heap:=s.heap.update l (Obj.mapSeq f),toks:=t' }:=by
 have q:=PySem.IsL.update e f;rw[hf] at q;refine I.write (x:=l) (e:=l) (by rw[hH]; exact trivial) (.inl rfl) (fun b' u hb hu=>(QU s.heap (Obj.mapSeq f) (Y7 hb)).trans hu) ⟨_,q⟩ ?_;exact⟨hz,its',_,hv,q⟩
theorem Inv.lnew{its:List P7}{t':Nat}(I:Inv X pins σ H s)(hv:Vals ys its)(hz:ys.length<=sizeLine) :
  Inv X pins σ (upd H s.heap.objs.size (.lst ys)) { s with heap:=s.heap.push { cls:=.type "list",data:=.seq its.toArray },toks:=t' } :=
 I.laid (fun _ _ q=>Ye _ q) (Yi _) ⟨hz,its,0,hv,Yq _ rfl⟩
theorem Inv.fresh(I:Inv X pins σ H s):H s.heap.objs.size=none:=I.hok.fresh (Yi _)
theorem Inv.lstM(I:Inv X pins σ H s)(hH:H l=some (.lst xs)):xs.length<=sizeLine/\∃(its:List P7) (n:Nat),Vals xs its/\xs.length=its.length/\s.heap.get? l=some { cls:=.type "list",data:=.seq its.toArray n }:=by
 obtain⟨z,its,n,r,e⟩:=I.hok l _ hH;exact⟨z,its,n,r,r.length,e⟩
end
section
variable{X:Cx}
def ZmE:V->List V->Hp->VK->Prop:=fun x vs H Q => ∃l xs y,x = .ref l/\vs=[y]/\H l=some (.lst xs)/\xs.length<sizeLine/\Q .non (upd H l (.lst (xs++[y])))
theorem Zqt:MtM X "list.append" ZmE:=by
 intro pins s σ H x vs v us Q I rx rv h;obtain⟨l,xs,y,rfl,rfl,hH,hz,q⟩:=h;cases rx;obtain⟨u,rfl,ru⟩:=rv.one;obtain⟨z,its,n,r,hl,e⟩:=I.lstM hH;refine call_meets F.slot_list_append ⟨_,e,rfl⟩ F.entry_list_append (F.args_list_append_2 _ _) (PySem.list_append l its.toArray n u (by rw[Yu]; omega)) ⟨e,?_⟩;refine⟨.non,_,I.lset (its':=its++[u]) hH e (by simp) (r.append (.cons ru .nil)) ?_,rfl,q⟩;rw[Yy,List.length_singleton];omega
def Znq:V->List V->Hp->VK->Prop:=fun x vs H Q => ∃l xs y,x = .ref l/\vs=[]/\H l=some (.lst xs)/\xs[xs.length - 1]?=some y/\Q y (upd H l (.lst xs.dropLast))
theorem ZqJ:MtM X "list.pop" Znq:=by
 intro pins s σ H x vs v us Q I rx rv h;obtain⟨l,xs,y,rfl,rfl,hH,hy,q⟩:=h;cases rx;have hus:=rv.zero;subst hus;obtain⟨z,its,n,r,hl,e⟩:=I.lstM hH;obtain⟨u,hu,ru⟩:=r.get hy;have hy':its.toArray[its.toArray.size - 1]?=some u:=by
  show its.toArray[its.length - 1]?=some u;rw[<-YG,<-hl];exact hu
 refine call_meets F.slot_list_pop ⟨_,e,rfl⟩ F.entry_list_pop (F.args_list_pop_1 _) (MeetsSeq.list_pop_last l its.toArray n u hy' (by rw[Yu]; omega)) ⟨e,?_⟩;refine⟨y,_,I.lset (its':=its.dropLast) hH e ?_ r.dropLast ?_,ru,q⟩
 ·show its.toArray.eraseIdxIfInBounds (its.toArray.size - 1)=its.dropLast.toArray;rw[Yu,List.eraseIdxIfInBounds_toArray,Zss]
 ·rw[VV];omega
def ZpQ:R2:=fun x y H Q => ∃l b xs zs,x = .ref l/\y = .ref b/\H l=some (.lst xs)/\H b=some (.lst zs)/\xs.length+zs.length<=sizeLine/\∀p,H p=none->Q (.ref p) (upd H p (.lst (xs++zs)))
theorem Zpf:OpR X (binaryOp .Add) ZpQ:=by
 intro pins s σ H x y v u Q I rx ry h;obtain⟨l,b,xs,zs,rfl,rfl,hH,hB,hz,q⟩:=h;cases rx;cases ry;obtain⟨z,its,n,r,hl,e⟩:=I.lstM hH;obtain⟨z2,its2,n2,r2,hl2,e2⟩:=I.lstM hB;refine PySem.P.add_list e e2 ?_ (by rw[Yu,Yu]; omega);have ea:its.toArray++its2.toArray=(its++its2).toArray:=by simp
 rw[ea];exact⟨.ref _,_,I.lnew (t':=s.toks) (r.append r2) (by rw[Yy]; omega),rfl,q _ I.fresh⟩
end
end L2
namespace Att
open PySem PySem.W PySem.Calls PyProof.Rows
theorem Zra{P:Params}{h:Heap}:∀(ns:List Int) (vs:List P7),WellAll P h vs (ns.map WData.int)->IntsAre vs ns:=by
 intro ns
 induction ns with
 | nil =>
  intro vs w;rw[Uq] at w;cases w;exact .nil
 | cons n ns ih =>
  intro vs w;rw[YF] at w;cases w with
  | cons a b =>
   cases a;exact .cons _ _ (ih _ b)
theorem ZlX{l:OpenLaw}{n:Nat}(hn:l.most=some n){P:Params}{h:Heap}{args:List WData}{vals:List P7}
  (hpre:l.row.toRowW.claim.pre args=true) (hwl:WellAll P h vals args) :
  ∃a vs ns,vals=[Value.ref a]/\args=[WData.list (ns.map WData.int)]/\h.get? a=some { cls:=.type "list",data:=.seq vs.toArray }/\IntsAre vs ns/\ns.length<=n:=by
 have hsh:WShape.hasAll [] args [.list .int]=true:=(pre_splitW hpre).1;have hc:l.pre.holds [] { args:=args }=true:=(pre_splitW hpre).2;obtain⟨d,r,rfl,h1,h2⟩:=hasAllW_cons hsh;obtain rfl:=hasAllW_nil h2;obtain⟨xs,rfl,h3⟩:=hasW_list h1;obtain⟨ns,rfl⟩:=items_int h3;have hlen:ns.length<=n:=by
  unfold OpenLaw.pre at hc;have h4:(WTm.not (.lt (.lit (.int (n:Int))) (.len (.arg 0)))).holds [] { args:=[.list (ns.map .int)] }=true:=by
   have h4:=(holds_andW hc).1;rw[hn] at h4;exact h4
  have h5:=condW_of h4 (w_not (w_lt w_lit (w_len_list (w_arg rfl))));rw[Yr] at h5;refine Nat.le_of_not_lt fun q => ?_;have q':(n:Int)<((ns.length:Nat):Int):=by omega
  first
   | (rw[Yv q'] at h5; exact absurd h5 (by decide))
   | (simp at h5; omega)
 cases hwl with
 | cons w1 w2 =>
  cases w2;cases w1 with
  | list ho hall=>exact⟨_,_,ns,rfl,rfl,ho,Zra ns _ hall,hlen⟩
theorem ZmZ(l:OpenLaw)(args:List WData):l.row.toRowW.claim.post args (.bool true) args=true :=
 postW_of (r:=l.row.toRowW) (X:=(true == true))
  (show WShape.has [] (.bool true) .bool=true by first | rfl | decide | simp[WShape.has,WShape.arms,WShape.armsAll])
  (show (WTm.eq .res (.lit (.bool true))).value [] { args:=args,res:=some (.bool true),after:=args }=some (.bool (true == true)) from w_eq_bool (w_res rfl) w_lit) rfl
theorem attach_call{l:OpenLaw}{n:Nat}{q:P5}{loose:List Str}{XP:(Str->Option P7)->Heap->Prop}{YP:World->Heap->Prop}{d:DefRec}
  (hn:l.most=some n) (hdf:d.params.defaults=[])
  (call:∀(w:World) (s₀ s₁:P1) (mg mb:Str->Option P7) (fa:Addr) (o:Obj) (pm cd doc:P7) (a:Addr) (vs:List P7) (ns:List Int),
   Ground q loose [] XP w s₀ mg mb s₁.heap->YP w s₁.heap ->
   s₁.heap.get? fa=some o->o.data = .func (docDef d.name d.params d.body d.scope pm cd doc)->s₁.heap.CodeRec cd d.name->mg d.name=some (.ref fa) ->
   s₁.heap.get? a=some { cls:=.type "list",data:=.seq vs.toArray }->IntsAre vs ns->ns.length<=n->s₁.gens = #[] ->
   codeAny (model l.prog w) callerA (.call (.ref fa) ⟨[.ref a],[]⟩) (fun r s'=>r = .ok (.ret (.bool true))/\OldK s₁.heap s'.heap/\s'.os=s₁.os/\AllBare s'.gens) s₁) :
  WalkO q loose XP YP l.row.toRowW d [] (fun f vs=>PySem.call f vs):=by
 intro w s₀ s₁ mg mb G Y fa o pm cd doc dV kV ho hd hcd hD hmg hg args vals as hpre hlay hrd hwl hlo;obtain rfl:dV = .none:=Dflts.none hD hdf;obtain rfl:kV = .none:=Dflts.noKw hD;obtain⟨a,vs,ns,rfl,rfl,hobj,hints,hlen⟩:=ZlX hn hpre hwl;refine enter_call (QE (call w s₀ s₁ mg mb fa o pm cd doc a vs ns G Y ho (fd_plain hd) hcd hmg hobj hints hlen hg) fun r s' hq => ?_);obtain⟨rfl,h2,h3,h4⟩:=hq;exact⟨.inl ⟨.bool true,.bool true,[],rfl,fun _=>rfl,.bool true,ZmZ l _,fun _=>⟨List.Pairwise.nil,fun _ hm=>(nomatch hm)⟩⟩,h2,h3,h4⟩
end Att
namespace L2
open PySem PySem.Spec PyProof.Rows
theorem Zia:∀{vs:List P7} {ns:List Int},IntsAre vs ns->Vals (ns.map V.int) vs
 | _,_,.nil => .nil
 | _,_,.cons n t h => .cons ⟨t,rfl⟩ (Zia h)
def Zef(H:Hp):Prop:=∀b,H b=none\/∃o xs,H b=some (.frz o (.lst xs))
theorem Zq8{P:P5}{w:World}{K:P3}{mg mb:Str->Option P7}{CX:CXT}{k:Nat}{fa a:Addr}{fd:P6}{x:Str}{sp:Sp}{s₁:P1}{vs:List P7}{ns:List Int}
  (KX:K.In s₁.heap) (hns:s₁.heap.Ns mainGlobals mg) (hb:s₁.heap.Ns builtinsNs mb) (hbb:∀x:Str,x≠"__name__"->mb x=bootBuiltins x) (hlim:s₁.heap.NoLimit) (hg:s₁.gens = #[])
  (ha:s₁.heap.get? a=some { cls:=.type "list",data:=.seq vs.toArray }) (hi:IntsAre vs ns) (hl:ns.length<=sizeLine) (hr:Room k callerA)
  (F:∀base:Heap,K.In base->base.Ns mainGlobals mg->FnOk P w K mg base CX k fa fd [x] sp) (hbind:∀(s:P1) (u:P7),BindsTo s fd ⟨[u],[]⟩ [(x,u)])
  (hsp:∀H:Hp,Zef H->SqL K H a (ns.map V.int)->sp [.ref a] H (fun v _=>v = .bl true) fun _ _ _=>False)
  (hCX:∀H e s',CX [] H s₁ (fun _ _ _=>False) e s'->False) :
  codeAny (model P w) callerA (.call (.ref fa) ⟨[.ref a],[]⟩) (fun r s'=>r = .ok (.ret (.bool true))/\OldK s₁.heap s'.heap/\s'.os=s₁.os/\AllBare s'.gens) s₁:=by
 have rv:=Zia hi;have lenV:=hi.length;have core:∀H:Hp,Zef H->SqL K H a (ns.map V.int)->HOk P w H s₁.heap->(∀b,H b≠none->b=a)->(H a≠none->K.lookup a=none) ->
   codeAny (model P w) callerA (.call (.ref fa) ⟨[.ref a],[]⟩) (fun r s'=>r = .ok (.ret (.bool true))/\OldK s₁.heap s'.heap/\s'.os=s₁.os/\AllBare s'.gens) s₁:=by
  intro H hO hS hok hA hK;have base_of:∀{b:Addr} {o:Obj},s₁.heap.get? b=some o->H b=none->(ZbB s₁.heap H).get? b=some o:=fun e n=>ZsU e n;have noA:∀{b:Addr} {o:Obj} {es:Array DictEntry} {ep:Nat},s₁.heap.get? b=some o->o.data = .dict es ep->H b=none:=fun {b o es ep} e d=>by
   cases q:H b with
   | none=>rfl
   | some u =>
    have e':b=a:=hA b (by rw[q]; simp);subst e';rw[ha] at e; cases e;have d':Data.seq vs.toArray _=Data.dict es ep:=d;cases d'
  have nsK:∀{b:Addr} {m:Str->Option P7},s₁.heap.Ns b m->(ZbB s₁.heap H).Ns b m:=fun {b m} ⟨o,es,ep,e,d,r⟩=>⟨o,es,ep,base_of e (noA e d),d,r⟩;have hKb:K.In (ZbB s₁.heap H):=fun b o e=>base_of (KX b o e) (by
   cases q:H b with
   | none=>rfl
   | some u =>
    have e':b=a:=hA b (by rw[q]; simp);subst e';rw[hK (by rw[q]; simp)] at e; cases e)
  have hM:Mod K mg (ZbB s₁.heap H):=⟨hKb,nsK hns,⟨mb,nsK hb,hbb⟩,let ⟨mc,h1,h2⟩:=hlim; ⟨mc,nsK h1,h2⟩⟩;have e0:Env0 P w K mg (ZbB s₁.heap H) callerA [] s₁ H:=⟨rfl,hM,fun b o e=>Zlz e,Nat.le_of_eq (ZmK _ _),trivial,fun b hb=>absurd (show b∈([]:List Addr) from hb) (by simp),hok,.of_eq hg⟩;refine QE ((F _ hKb (nsK hns)).run callerA [] s₁ H ⟨[.ref a],[]⟩ [.ref a] [.ref a] _ _ hr e0 (hbind s₁ (.ref a)) (.cons rfl .nil) (hsp H hO hS)) fun r s' h => ?_;cases r with
  | error e=>exact (hCX H e s' h).elim
  | ok fl =>
   cases fl with
   | next=>exact False.elim h
   | brk=>exact False.elim h
   | cont=>exact False.elim h
   | ret u =>
    obtain⟨v,H',os,bare,un,hok',r',q⟩:=h;have q':v = .bl true:=q;subst q';obtain rfl:u=Value.bool true:=r';refine⟨rfl,OldK.of_keep fun b o e => ?_,os,bare⟩;cases q:H b with
    | none=>exact un.keep b o e q (by intro z; exact absurd (show b∈([]:List Addr) from z) (by simp)) (by simp)
    | some u =>
     rcases hO b with z | ⟨ob,xs,z⟩
     ·rw[q] at z; cases z
     ·have z2:=un.frzs b ob _ z;obtain⟨e1,_⟩:=hok b _ z;obtain⟨e2,_⟩:=hok' b _ z2;rw[e] at e1; cases e1;exact e2
 cases hk:K.lookup a with
 | some o =>
  have e:=KX a o hk;rw[ha] at e;cases e;refine core (fun _=>none) (fun _ => .inl rfl) (.inr ⟨_,vs.toArray,_,hk,rfl,rfl,rfl,by rw[Yu,lenV]; exact hl,by simpa using rv⟩) (fun b u z=>by have z':(none:Option HO)=some u:=z; cases z') (fun b z=>absurd rfl z) fun z=>absurd rfl z
 | none =>
  refine core (fun b=>if b=a then some (.frz { cls:=.type "list",data:=.seq vs.toArray } (.lst (ns.map V.int))) else none) (fun b => ?_) (.inl (.inr ⟨{ cls:=.type "list",data:=.seq vs.toArray },Yg rfl⟩)) (fun b u z => ?_) (fun b z => ?_) fun _=>hk
  ·by_cases hb:b=a
   ·exact .inr ⟨_,_,Yg hb⟩
   ·exact .inl (Yh hb)
  ·by_cases hb:b=a
   ·have z':=(Yg hb).symm.trans z;cases z';subst hb;exact⟨ha,by rw[Yr]; exact hl,vs,_,rv,ha⟩
   ·have z':=(Yh hb).symm.trans z;cases z'
  ·by_cases hb:b=a
   ·exact hb
   ·exact absurd (Yh hb) z
theorem walk_of{l:PySem.W.OpenLaw}{n k:Nat}{q:P5}{loose:List Str}{XP:(Str->Option P7)->Heap->Prop}{YP:World->Heap->Prop}{d:DefRec}{K:Params->P3}{CX:World->CXT}{sp:World->Sp}{x:Str}
  (hn:l.most=some n) (hn2:n<=sizeLine) (hdf:d.params.defaults=[]) (hr:Room k callerA)
  (hY:∀(w:World) (h:Heap),YP w h->(K w.params).In h)
  (F:∀(w:World) (mg:Str->Option P7) (fa:Addr) (h:Heap),(K w.params).In h->h.Ns mainGlobals mg->mg d.name=some (.ref fa) ->
   ∃fd:P6,(∀(s:P1) (u:P7),BindsTo s fd ⟨[u],[]⟩ [(x,u)]) /\
    ∀base:Heap,(K w.params).In base->base.Ns mainGlobals mg->FnOk l.prog w (K w.params) mg base (CX w) k fa fd [x] (sp w))
  (hsp:∀(w:World) (H:Hp) (a:Addr) (ns:List Int),ns.length<=n->Zef H->SqL (K w.params) H a (ns.map V.int)->sp w [.ref a] H (fun v _=>v = .bl true) fun _ _ _=>False)
  (hCX:∀(w:World) (H:Hp) (s:P1) (e:P7) (s':P1),CX w [] H s (fun _ _ _=>False) e s'->False) :
  PySem.W.WalkO q loose XP YP l.row.toRowW d [] (fun f vs=>PySem.call f vs):=by
 refine Att.attach_call hn hdf fun w s₀ s₁ mg mb fa o pm cd doc a vs ns G Y ho hd hcd hmg hobj hints hlen hg => ?_;have KX:=hY w _ Y;obtain⟨fd,hb,hF⟩:=F w mg fa _ KX G.T.g hmg;exact Zq8 KX G.T.g G.T.b G.T.builtins G.T.nolimit hg hobj hints (YI hlen hn2) hr hF hb (fun H hO hS=>hsp w H a ns hlen hO hS) fun H e s'=>hCX w H s₁ e s'
end L2
/- THE LAST THEOREM (shape; LID, My.* are yours):
   My.Adr: a structure of the addresses that your layer names (classes,functions); My.Txt K t: a structure (Prop) of the equations over K;
   My.txt_mk:{K} {implicit addresses ..} (e1:nsIn K mainGlobals "law" = some (some (.ref f))) (e2:K.lookup f=some ⟨oc,od,.func (fnOf "law" "law" params body scope dV kV doc pm an cdv ct),sl⟩) (e3:codeIn K cdv "law" = true) .. : ∃t,My.Txt K t
set_option maxRecDepth 100000 in
theorem PySem.Challenge.cw_LID_holds : PySem.Challenge.rw_LID.Holds := by
 w_on; o_law; k_head; (case hw=>w_witness2)
 k_fill
 refine L2.walk_of (l:=PySem.Challenge.rw_LID) (n:=63) (k:=40) (x:="script") (CX:=fun w => ..) (sp:=fun _=>My.sp_law) rfl (by decide) rfl ⟨rfl,by decide,by decide⟩ (fun w h Y=>PySem.W.kIn_of Y) ?F ?S ?C
 case F =>
  intro w mg fa h KX G hmg;have T:∃t,My.Txt (L2.KOf KX) t:=by
   dsimp only [L2.KOf]                          -- K must stand as «<heap const> w.params» for k_is
   refine' My.txt_mk ?e1 ?e2 ?e3 ..
   (case e1 => PySem.W.k_is)                    -- in the order: a name -> its address -> its object -> its parts
   (case e2=>PySem.W.k_is)
   ..
  obtain ⟨t,T⟩:=T;have e0:=hmg.symm.trans (PySem.W.mg_of KX G T.law);cases e0                                       -- fa is the law's own address
  exact ⟨_, fun s u => .of_eq rfl, fun base kb nb => My.law_fn T kb nb⟩     -- if «.of_eq rfl» comes too early: refine' ⟨_, ?b, fun base kb nb => My.law_fn T kb nb⟩; exact fun s u => .of_eq rfl
 case S=>exact fun w H a ns hl hO hS => ..
 case C=>exact ..
(the tactic k_is has no namespace: write k_is) -/
namespace L2
open PySem PySem.Spec PyProof.Rows
def inClass(s:Stmt)(j:Nat):Stmt:=match s with
 | .ClassDef _ _ _ body _ _ _ _ _ _ _=>body.getD j (.Pass ⟨0,0,0,0⟩)
 | _ => .Pass ⟨0,0,0,0⟩
def ZC(s:Stmt):Arguments:=match s with
 | .FunctionDef _ a _ _ _ _ _ _ _ _=>a
 | _ => { posonlyargs:=[],args:=[],vararg:=none,kwonlyargs:=[],kw_defaults:=[],kwarg:=none,defaults:=[] }
def Zr(s:Stmt):List Stmt:=match s with
 | .FunctionDef _ _ b _ _ _ _ _ _ _=>b
 | _=>[]
def Zf(s:Stmt):Scope:=match s with
 | .FunctionDef _ _ _ _ _ _ sc _ _ _=>sc
 | _ => { kind:=.function,names:=[],isGenerator:=false,isCoroutine:=false }
noncomputable abbrev CX0:CXT:=fun _ _ _ _ _ _=>False
structure Fun(K:P3)(x qual:Str)(st:Stmt)(f:Addr)(fd:P6):Prop where
 ex:∃(oc:P7) (od:Option Addr) (kV doc pm:P7) (an:Option Addr) (cdv ct:P7) (osl:Array (Option P7)),
  fd=PySem.W.fnOf x qual (ZC st) (Zr st) (Zf st) .none kV doc pm an cdv ct/\K.lookup f=some ⟨oc,od,.func fd,osl⟩/\PySem.W.codeIn K cdv qual=true
 kp:PySem.W.keepIn K (.ref f)=true
section
variable{P:P5}{w:World}{K:P3}{mg:Str->Option P7}{base:Heap}
theorem Fun.ok{x qual:Str}{st:Stmt}{f:Addr}{fd:P6}{N ps:List Str}{k:Nat}{sp:Sp}(F:Fun K x qual st f fd)(S:FnScope N ps (Zf st))(len:∀vs H Q E,sp vs H Q E->vs.length=ps.length)
  (hbody:∀(cdv:P7) (A:P4) (outer:List Env) (s:P1) (H:Hp) (vs:List V) (Q:VK) (E:XK),Room k (A.deeper (envOfC qual (Zf st) s.heap.objs.size f cdv))->sp vs H Q E ->
   ∃t,PSs (ZP CX0 P w K mg base N qual (Zf st) f cdv A outer s H E).nox (Zr st) t/\t { nx:=fun _ H'=>Q .non H',rt:=Q } (start N vs) H):FnOk P w K mg base CX0 (k+1) f fd ps sp:=by
 obtain⟨oc,od,kV,doc,pm,an,cdv,ct,osl,rfl,lk,hcd⟩:=F.ex;refine Zlw lk hcd S len fun A outer s H vs Q E hr hsp => ?_;obtain⟨t,h,q⟩:=hbody cdv A outer s H vs Q E hr hsp;exact⟨t,h.nox,q⟩
theorem Fun.binds{x qual:Str}{st:Stmt}{f:Addr}{fd:P6}{ps:List Str}(F:Fun K x qual st f fd)
  (h:∀(kV doc pm:P7) (an:Option Addr) (cdv ct:P7) (us:List P7),us.length=ps.length->bindArgs (PySem.W.fnOf x qual (ZC st) (Zr st) (Zf st) .none kV doc pm an cdv ct) ⟨us,[]⟩=pure (ps.zip us)):Binds K fd ps []:=by
 obtain⟨oc,od,kV,doc,pm,an,cdv,ct,osl,rfl,lk,hcd⟩:=F.ex;exact .all (h kV doc pm an cdv ct)
theorem ZJ{x qual:Str}{st:Stmt}{f:Addr}{oc:P7}{od an:Option Addr}{osl:Array (Option P7)}{kV doc pm cdv ct:P7}(l:K.lookup f=some ⟨oc,od,.func (PySem.W.fnOf x qual (ZC st) (Zr st) (Zf st) .none kV doc pm an cdv ct),osl⟩)
  (c:PySem.W.codeIn K cdv qual=true) (k:PySem.W.keepIn K (.ref f)=true):Fun K x qual st f (PySem.W.fnOf x qual (ZC st) (Zr st) (Zf st) .none kV doc pm an cdv ct):=⟨⟨oc,od,kV,doc,pm,an,cdv,ct,osl,rfl,l,c⟩,k⟩
end
end L2
section
namespace DL
open PySem PySem.Spec PyProof.Rows L2
inductive D where
 | non | bl (b:Bool) | int (i:Int) | str (x:Str) | tup (xs:List D) | lst (xs:List D) | scr (xs:List D) | res (i:Nat) | exv (C:Addr)
inductive S where
 | lst (xs:List D)
 | ins (C:Addr) (fs:List (Str×D))
 | dct (kvs:List (D×D))
 | dtt (kvs:List (D×D))
 | fdc (kvs:List (D×D))
noncomputable abbrev Sto:=List S
noncomputable abbrev Ev:=List (Option D)
inductive Out(α:Type) where
 | ok (a:α) (st:Sto)
 | exc (c:Addr) (st:Sto)
 | bad
def Out.bind{α β:Type}(r:Out α)(k:α->Sto->Out β):Out β:=match r with
 | .ok a st=>k a st
 | .exc c st => .exc c st
 | .bad => .bad
theorem ZkM{α:Type}{l:List α}(hl:l.Nodup){i j:Nat}{x:α}(a:l[i]?=some x)(b:l[j]?=some x):i=j:=by
 obtain⟨h1,e1⟩:=Yc.mp a;obtain⟨h2,e2⟩:=Yc.mp b;have hp:=Wa.mp hl;rcases Nat.lt_trichotomy i j with h | h | h
 ·exact absurd (e1.trans e2.symm) (hp i j h1 h2 h)
 ·exact h
 ·exact absurd (e2.trans e1.symm) (hp j i h2 h1 h)
def ExcO(a C:Addr):Heap->Prop:=fun h => ∃o vs,h.get? a=some o/\o.cls = .ref C/\o.data = .fields vs
theorem ExcO.inj{a C C':Addr}{h:Heap}(x:ExcO a C h)(y:ExcO a C' h):C=C':=by
 obtain⟨o,_,e,c,_⟩:=x;obtain⟨o',_,e',c',_⟩:=y;rw[e] at e';cases e';rw[c] at c';exact Value.ref.inj c'
section
variable(K:P3)
def SqF(H:Hp)(a:Addr)(vs:List V):Prop :=
 (∃o,H a=some (.frz o (.lst vs)))\/∃(o:Obj) (its:Array P7) (n:Nat),K.lookup a=some o/\o.cls = .type "list"/\o.dict=none/\o.data = .seq its n/\its.size<=sizeLine/\Vals vs its.toList
mutual
def Rep(O:List Addr)(H:Hp):D->V->Prop
 | .non,v=>v = .non
 | .bl b,v=>v = .bl b
 | .int i,v=>v = .int i
 | .str x,v=>v = .str x
 | .tup ds,v => ∃a vs,v = .ref a/\H a=some (.tup vs)/\Reps O H ds vs
 | .lst ds,v => ∃a vs,v = .ref a/\a ∉ O/\H a=some (.lst vs)/\Reps O H ds vs
 | .scr ds,v => ∃a vs,v = .ref a/\SqF K H a vs/\Reps O H ds vs
 | .res i,v => ∃a,v = .ref a/\O[i]?=some a
 | .exv C,v => ∃a,v = .ref a/\H a=some (.ext (ExcO a C))
def Reps(O:List Addr)(H:Hp):List D->List V->Prop
 | [],vs=>vs=[]
 | d :: ds,vs => ∃v r,vs=v :: r/\Rep O H d v/\Reps O H ds r
end
def Flds(O:List Addr)(H:Hp):List (Str×D)->List (Str×V)->Prop
 | [],vs=>vs=[]
 | (x,d) :: ds,vs => ∃v r,vs=(x,v) :: r/\Rep K O H d v/\Flds O H ds r
def Zaq:D->Option Key
 | .int i=>some (.inl i)
 | .str x=>some (.inr x)
 | _=>none
def Zbe:List D->Option (List Key)
 | []=>some []
 | d :: ds=>match Zaq d,Zbe ds with
  | some k,some ks=>some (k :: ks)
  | _,_=>none
def ZM:D->Option (List Key)
 | .tup ds=>Zbe ds
 | _=>none
def Kvs{κ:Type}(f:D->Option κ)(O:List Addr)(H:Hp):List (D×D)->List (κ×V)->Prop
 | [],vs=>vs=[]
 | (k,d) :: ds,vs => ∃q v r,vs=(q,v) :: r/\f k=some q/\Rep K O H d v/\Kvs f O H ds r
def RepS(O:List Addr)(H:Hp)(a:Addr):S->Prop
 | .dct ds => ∃vs,H a=some (.dK vs)/\Kvs K Zaq O H ds vs
 | .dtt ds => ∃vs,H a=some (.dT vs)/\Kvs K ZM O H ds vs
 | .fdc ds => ∃o vs,H a=some (.frz o (.dK vs))/\Kvs K Zaq O H ds vs
 | .lst ds => ∃vs,H a=some (.lst vs)/\Reps K O H ds vs
 | .ins C fs => ∃dx vfs,H a=some (.ins C dx vfs)/\Flds K O H fs vfs
structure WR(O:List Addr)(H:Hp)(st:Sto):Prop where
 len:O.length=st.length
 nd:O.Nodup
 at_:∀(i:Nat) (a:Addr) (s:S),O[i]?=some a->st[i]?=some s->RepS K O H a s
structure Keep(O:List Addr)(H:Hp)(O':List Addr)(H':Hp):Prop where
 tup:∀a vs,H a=some (.tup vs)->H' a=some (.tup vs)
 lst:∀a vs,a ∉ O->H a=some (.lst vs)->a ∉ O'/\H' a=some (.lst vs)
 frz:∀a vs,SqF K H a vs->SqF K H' a vs
 pre:∀(i:Nat) (a:Addr),O[i]?=some a->O'[i]?=some a
 exv:∀a C,H a=some (.ext (ExcO a C))->H' a=some (.ext (ExcO a C))
end
section
variable{K:P3}{O O1 O2 O':List Addr}{H H1 H2 H':Hp}{st st':Sto}
theorem SqF.sq{a:Addr}{vs:List V}(h:SqF K H a vs):SqL K H a vs:=by
 rcases h with⟨o,h⟩ | h
 ·exact .inl (.inr ⟨o,h⟩)
 ·exact .inr h
theorem SqF.of{a:Addr}{vs:List V}(h:SqL K H a vs)(hn:H a≠some (.lst vs)):SqF K H a vs:=by
 rcases h with (h | ⟨o,h⟩) | h
 ·exact absurd h hn
 ·exact .inl ⟨o,h⟩
 ·exact .inr h
theorem Keep.refl:Keep K O H O H:=⟨fun _ _ h=>h,fun _ _ n h=>⟨n,h⟩,fun _ _ h=>h,fun _ _ h=>h,fun _ _ h=>h⟩
theorem Keep.trans(a:Keep K O H O1 H1)(b:Keep K O1 H1 O2 H2):Keep K O H O2 H2 :=
 ⟨fun x vs h=>b.tup x vs (a.tup x vs h),fun x vs n h=>let ⟨n1,h1⟩:=a.lst x vs n h; b.lst x vs n1 h1,fun x vs h=>b.frz x vs (a.frz x vs h),fun i x h=>b.pre i x (a.pre i x h),fun x C h=>b.exv x C (a.exv x C h)⟩
mutual
theorem Rep.mono(k:Keep K O H O' H'):∀(d:D) (v:V),Rep K O H d v->Rep K O' H' d v
 | .non,_,h=>by unfold Rep at h ⊢; exact h
 | .bl _,_,h=>by unfold Rep at h ⊢; exact h
 | .int _,_,h=>by unfold Rep at h ⊢; exact h
 | .str _,_,h=>by unfold Rep at h ⊢; exact h
 | .tup ds,v,h=>by
  unfold Rep at h ⊢;obtain⟨a,vs,e,q,r⟩:=h;exact⟨a,vs,e,k.tup _ _ q,Reps.mono k ds vs r⟩
 | .lst ds,v,h=>by
  unfold Rep at h ⊢;obtain⟨a,vs,e,n,q,r⟩:=h;exact⟨a,vs,e,(k.lst _ _ n q).1,(k.lst _ _ n q).2,Reps.mono k ds vs r⟩
 | .scr ds,v,h=>by
  unfold Rep at h ⊢;obtain⟨a,vs,e,q,r⟩:=h;exact⟨a,vs,e,k.frz _ _ q,Reps.mono k ds vs r⟩
 | .res i,v,h=>by
  unfold Rep at h ⊢;obtain⟨a,e,q⟩:=h;exact⟨a,e,k.pre _ _ q⟩
 | .exv C,v,h=>by
  unfold Rep at h ⊢;obtain⟨a,e,q⟩:=h;exact⟨a,e,k.exv _ _ q⟩
theorem Reps.mono(k:Keep K O H O' H'):∀(ds:List D) (vs:List V),Reps K O H ds vs->Reps K O' H' ds vs
 | [],_,h=>by unfold Reps at h ⊢; exact h
 | d :: ds,vs,h=>by
  unfold Reps at h ⊢;obtain⟨v,r,e,q,t⟩:=h;exact⟨v,r,e,Rep.mono k d v q,Reps.mono k ds r t⟩
end
theorem Kvs.mono{κ:Type}{f:D->Option κ}(k:Keep K O H O' H'):∀(ds:List (D×D)) (vs:List (κ×V)),Kvs K f O H ds vs->Kvs K f O' H' ds vs
 | [],_,h=>by unfold Kvs at h ⊢; exact h
 | (x,d) :: ds,vs,h=>by
  unfold Kvs at h ⊢;obtain⟨q,v,r,e,z,y,t⟩:=h;exact⟨q,v,r,e,z,Rep.mono k d v y,Kvs.mono k ds r t⟩
theorem Flds.mono(k:Keep K O H O' H'):∀(ds:List (Str×D)) (vs:List (Str×V)),Flds K O H ds vs->Flds K O' H' ds vs
 | [],_,h=>by unfold Flds at h ⊢; exact h
 | (x,d) :: ds,vs,h=>by
  unfold Flds at h ⊢;obtain⟨v,r,e,q,t⟩:=h;exact⟨v,r,e,Rep.mono k d v q,Flds.mono k ds r t⟩
theorem Rep.non_i{v:V}:Rep K O H .non v ↔ v = .non:=by unfold Rep; exact Iff.rfl
theorem Rep.bl_i{b:Bool}{v:V}:Rep K O H (.bl b) v ↔ v = .bl b:=by unfold Rep; exact Iff.rfl
theorem Rep.int_i{i:Int}{v:V}:Rep K O H (.int i) v ↔ v = .int i:=by unfold Rep; exact Iff.rfl
theorem Rep.str_i{x:Str}{v:V}:Rep K O H (.str x) v ↔ v = .str x:=by unfold Rep; exact Iff.rfl
theorem Rep.tup_i{ds:List D}{v:V}:Rep K O H (.tup ds) v ↔ ∃a vs,v = .ref a/\H a=some (.tup vs)/\Reps K O H ds vs:=by unfold Rep; exact Iff.rfl
theorem Rep.lst_i{ds:List D}{v:V}:Rep K O H (.lst ds) v ↔ ∃a vs,v = .ref a/\a ∉ O/\H a=some (.lst vs)/\Reps K O H ds vs:=by unfold Rep; exact Iff.rfl
theorem Rep.scr_i{ds:List D}{v:V}:Rep K O H (.scr ds) v ↔ ∃a vs,v = .ref a/\SqF K H a vs/\Reps K O H ds vs:=by unfold Rep; exact Iff.rfl
theorem Rep.res_i{i:Nat}{v:V}:Rep K O H (.res i) v ↔ ∃a,v = .ref a/\O[i]?=some a:=by unfold Rep; exact Iff.rfl
theorem Rep.exv_i{C:Addr}{v:V}:Rep K O H (.exv C) v ↔ ∃a,v = .ref a/\H a=some (.ext (ExcO a C)):=by unfold Rep; exact Iff.rfl
theorem Reps.nil_i{vs:List V}:Reps K O H [] vs ↔ vs=[]:=by unfold Reps; exact Iff.rfl
theorem Reps.cons_i{d:D}{ds:List D}{vs:List V}:Reps K O H (d :: ds) vs ↔ ∃v r,vs=v :: r/\Rep K O H d v/\Reps K O H ds r:=by
 constructor
 ·intro h; unfold Reps at h; exact h
 ·intro h; unfold Reps; exact h
theorem Reps.length:∀{ds:List D} {vs:List V},Reps K O H ds vs->ds.length=vs.length
 | [],_,h=>by rw[Reps.nil_i] at h; subst h; rfl
 | d :: ds,vs,h=>by
  obtain⟨v,r,rfl,_,t⟩:=Reps.cons_i.mp h;rw[YB,YB,Reps.length t]
theorem Reps.get:∀{ds:List D} {vs:List V} {i:Nat} {d:D},Reps K O H ds vs->ds[i]?=some d->∃v,vs[i]?=some v/\Rep K O H d v
 | [],_,i,d,_,e=>by simp at e
 | x :: ds,vs,0,d,h,e=>by
  obtain⟨v,r,rfl,q,_⟩:=Reps.cons_i.mp h;simp at e; subst e;exact⟨v,rfl,q⟩
 | x :: ds,vs,i+1,d,h,e=>by
  obtain⟨v,r,rfl,_,t⟩:=Reps.cons_i.mp h;obtain⟨u,e1,q⟩:=Reps.get (i:=i) (d:=d) t (by simpa using e);exact⟨u,by simpa using e1,q⟩
theorem Reps.append:∀{ds es:List D} {vs us:List V},Reps K O H ds vs->Reps K O H es us->Reps K O H (ds++es) (vs++us)
 | [],_,_,_,h,k=>by rw[Reps.nil_i] at h; subst h; exact k
 | d :: ds,es,vs,us,h,k=>by
  obtain⟨v,r,rfl,q,t⟩:=Reps.cons_i.mp h;exact Reps.cons_i.mpr ⟨v,r++us,rfl,q,Reps.append t k⟩
theorem Reps.take:∀{ds:List D} {vs:List V} (n:Nat),Reps K O H ds vs->Reps K O H (ds.take n) (vs.take n)
 | ds,vs,0,_=>by rw[Vk,Vk]; exact Reps.nil_i.mpr rfl
 | [],vs,n+1,h=>by rw[Reps.nil_i] at h; subst h; exact Reps.nil_i.mpr rfl
 | d :: ds,vs,n+1,h=>by
  obtain⟨v,r,rfl,q,t⟩:=Reps.cons_i.mp h;exact Reps.cons_i.mpr ⟨v,r.take n,rfl,q,Reps.take n t⟩
theorem Reps.drop:∀{ds:List D} {vs:List V} (n:Nat),Reps K O H ds vs->Reps K O H (ds.drop n) (vs.drop n)
 | ds,vs,0,h=>by rw[Vl,Vl]; exact h
 | [],vs,n+1,h=>by rw[Reps.nil_i] at h; subst h; exact Reps.nil_i.mpr rfl
 | d :: ds,vs,n+1,h=>by
  obtain⟨v,r,rfl,q,t⟩:=Reps.cons_i.mp h;exact Reps.drop n t
theorem Reps.set{d:D}{v:V}(q:Rep K O H d v):∀{ds:List D} {vs:List V} (n:Nat),Reps K O H ds vs->Reps K O H (ds.set n d) (vs.set n v)
 | [],vs,n,h=>by rw[Reps.nil_i] at h; subst h; exact Reps.nil_i.mpr rfl
 | x :: ds,vs,0,h=>by
  obtain⟨u,r,rfl,_,t⟩:=Reps.cons_i.mp h;exact Reps.cons_i.mpr ⟨v,r,rfl,q,t⟩
 | x :: ds,vs,n+1,h=>by
  obtain⟨u,r,rfl,q',t⟩:=Reps.cons_i.mp h;exact Reps.cons_i.mpr ⟨u,r.set n v,rfl,q',Reps.set q n t⟩
theorem Reps.one{d:D}{v:V}(q:Rep K O H d v):Reps K O H [d] [v]:=Reps.cons_i.mpr ⟨v,[],rfl,q,Reps.nil_i.mpr rfl⟩
def isS:HO->Bool
 | .lst _=>true
 | .ins _ _ _=>true
 | .dK _=>true
 | .dT _=>true
 | .frz _ (.dK _)=>true
 | _=>false
theorem ZgK{a p:Addr}{o:HO}{vs:List V}(h:H a=some (.tup vs))(hp:H p=none\/∃o,H p=some o/\isS o=true):upd H p o a=some (.tup vs):=by
 rw[Zp]
 ·exact h
 ·rintro rfl;rcases hp with q | ⟨u,q,z⟩
  ·rw[q] at h; cases h
  ·rw[q] at h; cases h; cases z
theorem Zgi{a p:Addr}{o:HO}{vs:List V}(h:SqF K H a vs)(hp:H p=none\/∃o,H p=some o/\isS o=true):SqF K (upd H p o) a vs:=by
 rcases h with⟨ob,h⟩ | h
 ·refine .inl ⟨ob,?_⟩;rw[Zp]
  ·exact h
  ·rintro rfl;rcases hp with q | ⟨u,q,z⟩
   ·rw[q] at h; cases h
   ·rw[q] at h; cases h; cases z
 ·exact .inr h
theorem Keep.laid{p:Addr}{o:HO}(hp:H p=none):Keep K O H O (upd H p o) :=
 ⟨fun _ _ h=>ZgK h (.inl hp),fun a vs n h=>⟨n,by rw[Zp (Z5 h hp)]; exact h⟩,fun _ _ h=>Zgi h (.inl hp),fun _ _ h=>h,fun a C h=>by rw[Zp (Z5 h hp)]; exact h⟩
theorem RepS.mono'(k:Keep K O H O' H'){a:Addr}(e:H' a=H a):∀{s:S},RepS K O H a s->RepS K O' H' a s
 | .lst ds,h=>by
  obtain⟨vs,q,r⟩:=h;exact⟨vs,by rw[e]; exact q,Reps.mono k _ _ r⟩
 | .ins C fs,h=>by
  obtain⟨dx,vs,q,r⟩:=h;exact⟨dx,vs,by rw[e]; exact q,Flds.mono k _ _ r⟩
 | .dct ds,h=>by
  obtain⟨vs,q,r⟩:=h;exact⟨vs,by rw[e]; exact q,Kvs.mono k _ _ r⟩
 | .dtt ds,h=>by
  obtain⟨vs,q,r⟩:=h;exact⟨vs,by rw[e]; exact q,Kvs.mono k _ _ r⟩
 | .fdc ds,h=>by
  obtain⟨o,vs,q,r⟩:=h;exact⟨o,vs,by rw[e]; exact q,Kvs.mono k _ _ r⟩
theorem RepS.some_of{a:Addr}:∀{s:S},RepS K O H a s->∃o,H a=some o/\isS o=true
 | .lst ds,⟨vs,q,_⟩=>⟨_,q,rfl⟩
 | .ins C fs,⟨dx,vs,q,_⟩=>⟨_,q,rfl⟩
 | .dct ds,⟨vs,q,_⟩=>⟨_,q,rfl⟩
 | .dtt ds,⟨vs,q,_⟩=>⟨_,q,rfl⟩
 | .fdc ds,⟨_,vs,q,_⟩=>⟨_,q,rfl⟩
theorem WR.some_of(W:WR K O H st){i:Nat}{a:Addr}(h:O[i]?=some a):∃o,H a=some o/\isS o=true:=by
 have hi:i<st.length:=by rw[<-W.len]; exact (Yc.mp h).1
 exact (W.at_ i a st[i] h (Yj hi)).some_of
theorem WR.ne(W:WR K O H st){i:Nat}{a p:Addr}(h:O[i]?=some a)(hp:H p=none):a≠p:=by
 rintro rfl;obtain⟨_,q,_⟩:=W.some_of h;rw[hp] at q;cases q
theorem WR.laid(W:WR K O H st){p:Addr}{o:HO}(hp:H p=none):WR K O (upd H p o) st :=
 ⟨W.len,W.nd,fun i a s h1 h2=>(W.at_ i a s h1 h2).mono' (Keep.laid hp) (by rw[Zp (W.ne h1 hp)])⟩
theorem Keep.push{p:Addr}{o:HO}(hp:H p=none):Keep K O H (O++[p]) (upd H p o) :=
 ⟨fun _ _ h=>ZgK h (.inl hp),fun a vs n h=>⟨fun hm=>by
   rcases YJ.mp hm with q | q
   ·exact n q
   ·rw[Ys] at q; exact Z5 h hp q,by rw[Zp (Z5 h hp)]; exact h⟩,
  fun _ _ h=>Zgi h (.inl hp),fun i a h=>by rw[YD (Yc.mp h).1]; exact h,fun a C h=>by rw[Zp (Z5 h hp)]; exact h⟩
theorem WR.push'(W:WR K O H st){p:Addr}{o:HO}{s:S}(hp:H p=none)(hs:RepS K (O++[p]) (upd H p o) p s):WR K (O++[p]) (upd H p o) (st++[s]):=by
 refine⟨by simp[W.len],?_,fun i a s' h1 h2 => ?_⟩
 ·refine Qy.mpr ⟨W.nd,by simp,fun a ha b hb => ?_⟩;rw[Ys] at hb;subst hb;obtain⟨i,hi⟩:=WZ.mp ha;exact W.ne hi hp
 ·by_cases hi:i<O.length
  ·rw[YD hi] at h1;rw[YD (by rw[<-W.len]; exact hi)] at h2;exact (W.at_ i a s' h1 h2).mono' (Keep.push hp) (by rw[Zp (W.ne h1 hp)])
  ·rw[YZ (by omega)] at h1;rw[YZ (by rw[<-W.len]; omega)] at h2;rw[<-W.len] at h2;have e0:i - O.length=0:=by
    have:=(Yc.mp h1).1;simp at this;omega
   rw[e0] at h1 h2;simp at h1 h2;subst h1 h2;exact hs
theorem WR.push(W:WR K O H st){p:Addr}{ds:List D}{vs:List V}(hp:H p=none)(r:Reps K O H ds vs):WR K (O++[p]) (upd H p (.lst vs)) (st++[.lst ds]) :=
 W.push' hp ⟨vs,Zai,Reps.mono (Keep.push hp) _ _ r⟩
theorem ZeE{p:Addr}{st:Sto}(e:O.length=st.length):Rep K (O++[p]) H' (.res st.length) (.ref p):=by
 rw[Rep.res_i];exact⟨p,rfl,by rw[<-e,YZ (Yi _)]; simp⟩
theorem Keep.write(W:WR K O H st){i:Nat}{a:Addr}{o:HO}(h:O[i]?=some a):Keep K O H O (upd H a o):=by
 have q:=W.some_of h;refine⟨fun _ _ z=>ZgK z (.inr q),fun b vs n z=>⟨n,?_⟩,fun _ _ z=>Zgi z (.inr q),fun _ _ z=>z,fun b C z => ?_⟩
 ·rw[Zp]
  ·exact z
  ·rintro rfl;exact n (Wx h)
 ·rw[Zp]
  ·exact z
  ·rintro rfl;obtain⟨_,q,y⟩:=q;rw[z] at q;cases q;cases y
theorem WR.write(W:WR K O H st){i:Nat}{a:Addr}{o:HO}{s:S}(h:O[i]?=some a)(hs:RepS K O (upd H a o) a s):WR K O (upd H a o) (st.set i s):=by
 refine⟨by rw[WT]; exact W.len,W.nd,fun j b s' h1 h2 => ?_⟩;by_cases hj:i=j
 ·subst hj;rw[h] at h1;cases h1;have hi:i<st.length:=by rw[<-W.len]; exact (Yc.mp h).1
  rw[YT hi] at h2;cases h2;exact hs
 ·rw[YC hj] at h2;refine (W.at_ j b s' h1 h2).mono' (Keep.write W h) ?_;rw[Zp];rintro rfl;exact hj (ZkM W.nd h h1)
theorem WR.writeL(W:WR K O H st){i:Nat}{a:Addr}{ds:List D}{vs:List V}(h:O[i]?=some a)(r:Reps K O H ds vs):WR K O (upd H a (.lst vs)) (st.set i (.lst ds)) :=
 W.write h ⟨vs,Zai,Reps.mono (Keep.write W h) _ _ r⟩
def ZN(st:Sto):D->Option (List D)
 | .lst xs=>some xs
 | .scr xs=>some xs
 | .res i=>match st[i]? with
  | some (.lst xs)=>some xs
  | _=>none
 | _=>none
def Za8(st:Sto):D->Option (List D)
 | .lst xs=>some xs
 | .res i=>match st[i]? with
  | some (.lst xs)=>some xs
  | _=>none
 | _=>none
theorem rdO(W:WR K O H st){d:D}{v:V}{ds:List D}(r:Rep K O H d v)(e:Za8 st d=some ds):∃a vs,v = .ref a/\H a=some (.lst vs)/\Reps K O H ds vs:=by
 cases d with
 | lst xs =>
  rw[Rep.lst_i] at r;obtain⟨a,vs,rfl,_,q,t⟩:=r;simp only[Za8,YE] at e;subst e;exact⟨a,vs,rfl,q,t⟩
 | res i =>
  rw[Rep.res_i] at r;obtain⟨a,rfl,q⟩:=r;have hi:i<st.length:=by rw[<-W.len]; exact (Yc.mp q).1
  have z:=W.at_ i a st[i] q (Yj hi);simp only[Za8,Yj hi] at e;cases hs:st[i] with
  | lst xs =>
   rw[hs] at e z;simp only[YE] at e;subst e;obtain⟨vs,z1,z2⟩:=z;exact⟨a,vs,rfl,z1,z2⟩
  | _=>rw[hs] at e; cases e
 | _=>cases e
theorem rdL(W:WR K O H st){d:D}{v:V}{ds:List D}(r:Rep K O H d v)(e:ZN st d=some ds):∃a vs,v = .ref a/\SqL K H a vs/\Reps K O H ds vs:=by
 cases d with
 | scr xs =>
  rw[Rep.scr_i] at r;obtain⟨a,vs,rfl,q,t⟩:=r;simp only[ZN,YE] at e;subst e;exact⟨a,vs,rfl,q.sq,t⟩
 | lst xs =>
  obtain⟨a,vs,h1,h2,h3⟩:=rdO W r (show Za8 st (.lst xs)=some ds from e);exact⟨a,vs,h1,SqL.of h2,h3⟩
 | res i =>
  obtain⟨a,vs,h1,h2,h3⟩:=rdO W r (show Za8 st (.res i)=some ds from e);exact⟨a,vs,h1,SqL.of h2,h3⟩
 | _=>cases e
section
variable{X:Cx}{pins:List (Addr×Obj)}{σ:L2.St}{s:P1}
theorem Zbn(I:Inv X pins σ H s){a:Addr}{o:Obj}(h:X.K.lookup a=some o):H a=none:=(I.bs a o (I.ok.mod.kin a o h)).2
end
end
end DL
end
section
namespace DL
open PySem PySem.Spec PyProof.Rows L2
def Ans(A:P4)(s:P1)(u w:P7)(k:Bool):Prop:=SeqAt.EqAt A s u w k/\SeqAt.RcAt A s u w k/\SeqAt.RcNeAt A s u w (!k)
section
variable{A:P4}{s:P1}
theorem Zq7:Ans A s .none .none true:=⟨SeqAt.EqAt.same _,SeqAt.RcAt.none_none,SeqAt.RcNeAt.none_none⟩
theorem Zpt{b2:Bool}:Ans A s .none (.bool b2) false:=⟨SeqAt.EqAt.none_bool _,SeqAt.RcAt.none_bool _,SeqAt.RcNeAt.none_bool _⟩
theorem Zqa{i2:Int}{t2:Tok}:Ans A s .none (.int i2 t2) false:=⟨SeqAt.EqAt.none_int _ _,SeqAt.RcAt.none_int _ _,SeqAt.RcNeAt.none_int _ _⟩
theorem Zs4{x2:Str}{t2:Tok}:Ans A s .none (.str x2 t2) false:=⟨SeqAt.EqAt.none_str _ _,SeqAt.RcAt.none_str _ _,SeqAt.RcNeAt.none_str _ _⟩
theorem Zrc{a2:Addr}{its2:Array P7}(z2:s.heap.IsTuple a2 its2)(hu:A.units<cLine):Ans A s .none (.ref a2) false:=⟨SeqAt.EqAt.none_tuple z2 hu,SeqAt.RcAt.none_tuple z2 hu,SeqAt.RcNeAt.none_tuple z2 hu⟩
theorem Zqc{a2:Addr}{its2:Array P7}(z2:s.heap.IsList a2 its2)(hu:A.units<cLine):Ans A s .none (.ref a2) false:=⟨SeqAt.EqAt.none_list z2 hu,SeqAt.RcAt.none_list z2 hu,SeqAt.RcNeAt.none_list z2 hu⟩
theorem Zr8{b1:Bool}:Ans A s (.bool b1) .none false:=⟨SeqAt.EqAt.bool_none _,SeqAt.RcAt.bool_none _,SeqAt.RcNeAt.bool_none _⟩
theorem ZrO{b1:Bool}{b2:Bool}:Ans A s (.bool b1) (.bool b2) (b1 == b2):=⟨SeqAt.EqAt.bool_bool _ _,SeqAt.RcAt.bool_bool _ _,SeqAt.RcNeAt.bool_bool _ _⟩
theorem Zm8{b1:Bool}{i2:Int}{t2:Tok}:Ans A s (.bool b1) (.int i2 t2) ((if b1 then 1 else 0) == i2):=⟨SeqAt.EqAt.bool_int _ _ _,SeqAt.RcAt.bool_int _ _ _,SeqAt.RcNeAt.bool_int _ _ _⟩
theorem ZmV{b1:Bool}{x2:Str}{t2:Tok}:Ans A s (.bool b1) (.str x2 t2) false:=⟨SeqAt.EqAt.bool_str _ _ _,SeqAt.RcAt.bool_str _ _ _,SeqAt.RcNeAt.bool_str _ _ _⟩
theorem Zmb{b1:Bool}{a2:Addr}{its2:Array P7}(z2:s.heap.IsTuple a2 its2)(hu:A.units<cLine):Ans A s (.bool b1) (.ref a2) false:=⟨SeqAt.EqAt.bool_tuple _ z2 hu,SeqAt.RcAt.bool_tuple _ z2 hu,SeqAt.RcNeAt.bool_tuple _ z2 hu⟩
theorem Zmo{b1:Bool}{a2:Addr}{its2:Array P7}(z2:s.heap.IsList a2 its2)(hu:A.units<cLine):Ans A s (.bool b1) (.ref a2) false:=⟨SeqAt.EqAt.bool_list _ z2 hu,SeqAt.RcAt.bool_list _ z2 hu,SeqAt.RcNeAt.bool_list _ z2 hu⟩
theorem Zmu{i1:Int}{t1:Tok}:Ans A s (.int i1 t1) .none false:=⟨SeqAt.EqAt.int_none _ _,SeqAt.RcAt.int_none _ _,SeqAt.RcNeAt.int_none _ _⟩
theorem Zru{i1:Int}{t1:Tok}{b2:Bool}:Ans A s (.int i1 t1) (.bool b2) (i1 == (if b2 then 1 else 0)):=⟨SeqAt.EqAt.int_bool _ _ _,SeqAt.RcAt.int_bool _ _ _,SeqAt.RcNeAt.int_bool _ _ _⟩
theorem Zni{i1:Int}{t1:Tok}{i2:Int}{t2:Tok}:Ans A s (.int i1 t1) (.int i2 t2) (i1 == i2):=⟨SeqAt.EqAt.int_int _ _ _ _,SeqAt.RcAt.int_int _ _ _ _,SeqAt.RcNeAt.int_int _ _ _ _⟩
theorem Zlo{i1:Int}{t1:Tok}{x2:Str}{t2:Tok}:Ans A s (.int i1 t1) (.str x2 t2) false:=⟨SeqAt.EqAt.int_str _ _ _ _,SeqAt.RcAt.int_str _ _ _ _,SeqAt.RcNeAt.int_str _ _ _ _⟩
theorem ZoU{i1:Int}{t1:Tok}{a2:Addr}{its2:Array P7}(z2:s.heap.IsTuple a2 its2)(hu:A.units<cLine):Ans A s (.int i1 t1) (.ref a2) false:=⟨SeqAt.EqAt.int_tuple _ _ z2 hu,SeqAt.RcAt.int_tuple _ _ z2 hu,SeqAt.RcNeAt.int_tuple _ _ z2 hu⟩
theorem Zox{i1:Int}{t1:Tok}{a2:Addr}{its2:Array P7}(z2:s.heap.IsList a2 its2)(hu:A.units<cLine):Ans A s (.int i1 t1) (.ref a2) false:=⟨SeqAt.EqAt.int_list _ _ z2 hu,SeqAt.RcAt.int_list _ _ z2 hu,SeqAt.RcNeAt.int_list _ _ z2 hu⟩
theorem Znv{x1:Str}{t1:Tok}:Ans A s (.str x1 t1) .none false:=⟨SeqAt.EqAt.str_none _ _,SeqAt.RcAt.str_none _ _,SeqAt.RcNeAt.str_none _ _⟩
theorem ZnV{x1:Str}{t1:Tok}{b2:Bool}:Ans A s (.str x1 t1) (.bool b2) false:=⟨SeqAt.EqAt.str_bool _ _ _,SeqAt.RcAt.str_bool _ _ _,SeqAt.RcNeAt.str_bool _ _ _⟩
theorem Zno{x1:Str}{t1:Tok}{i2:Int}{t2:Tok}:Ans A s (.str x1 t1) (.int i2 t2) false:=⟨SeqAt.EqAt.str_int _ _ _ _,SeqAt.RcAt.str_int _ _ _ _,SeqAt.RcNeAt.str_int _ _ _ _⟩
theorem ZnT{x1:Str}{t1:Tok}{x2:Str}{t2:Tok}:Ans A s (.str x1 t1) (.str x2 t2) (x1 == x2):=⟨SeqAt.EqAt.str_str _ _ _ _,SeqAt.RcAt.str_str _ _ _ _,SeqAt.RcNeAt.str_str _ _ _ _⟩
theorem ZlQ{x1:Str}{t1:Tok}{a2:Addr}{its2:Array P7}(z2:s.heap.IsTuple a2 its2)(hu:A.units<cLine):Ans A s (.str x1 t1) (.ref a2) false:=⟨SeqAt.EqAt.str_tuple _ _ z2 hu,SeqAt.RcAt.str_tuple _ _ z2 hu,SeqAt.RcNeAt.str_tuple _ _ z2 hu⟩
theorem ZrH{x1:Str}{t1:Tok}{a2:Addr}{its2:Array P7}(z2:s.heap.IsList a2 its2)(hu:A.units<cLine):Ans A s (.str x1 t1) (.ref a2) false:=⟨SeqAt.EqAt.str_list _ _ z2 hu,SeqAt.RcAt.str_list _ _ z2 hu,SeqAt.RcNeAt.str_list _ _ z2 hu⟩
theorem Zr1{a1:Addr}{its1:Array P7}(z1:s.heap.IsTuple a1 its1)(hu:A.units<cLine):Ans A s (.ref a1) .none false:=⟨SeqAt.EqAt.tuple_none z1 hu,SeqAt.RcAt.tuple_none z1 hu,SeqAt.RcNeAt.tuple_none z1 hu⟩
theorem ZkV{a1:Addr}{its1:Array P7}(z1:s.heap.IsTuple a1 its1){b2:Bool}(hu:A.units<cLine):Ans A s (.ref a1) (.bool b2) false:=⟨SeqAt.EqAt.tuple_bool _ z1 hu,SeqAt.RcAt.tuple_bool _ z1 hu,SeqAt.RcNeAt.tuple_bool _ z1 hu⟩
theorem Znr{a1:Addr}{its1:Array P7}(z1:s.heap.IsTuple a1 its1){i2:Int}{t2:Tok}(hu:A.units<cLine):Ans A s (.ref a1) (.int i2 t2) false:=⟨SeqAt.EqAt.tuple_int _ _ z1 hu,SeqAt.RcAt.tuple_int _ _ z1 hu,SeqAt.RcNeAt.tuple_int _ _ z1 hu⟩
theorem ZlT{a1:Addr}{its1:Array P7}(z1:s.heap.IsTuple a1 its1){x2:Str}{t2:Tok}(hu:A.units<cLine):Ans A s (.ref a1) (.str x2 t2) false:=⟨SeqAt.EqAt.tuple_str _ _ z1 hu,SeqAt.RcAt.tuple_str _ _ z1 hu,SeqAt.RcNeAt.tuple_str _ _ z1 hu⟩
theorem ZoF{a1:Addr}{its1:Array P7}(z1:s.heap.IsTuple a1 its1){a2:Addr}{its2:Array P7}(z2:s.heap.IsList a2 its2)(hu:A.units<cLine):Ans A s (.ref a1) (.ref a2) false:=⟨SeqAt.EqAt.tuple_list z1 z2 hu,SeqAt.RcAt.tuple_list z1 z2 hu,SeqAt.RcNeAt.tuple_list z1 z2 hu⟩
theorem ZqV{a1:Addr}{its1:Array P7}(z1:s.heap.IsList a1 its1)(hu:A.units<cLine):Ans A s (.ref a1) .none false:=⟨SeqAt.EqAt.list_none z1 hu,SeqAt.RcAt.list_none z1 hu,SeqAt.RcNeAt.list_none z1 hu⟩
theorem ZmP{a1:Addr}{its1:Array P7}(z1:s.heap.IsList a1 its1){b2:Bool}(hu:A.units<cLine):Ans A s (.ref a1) (.bool b2) false:=⟨SeqAt.EqAt.list_bool _ z1 hu,SeqAt.RcAt.list_bool _ z1 hu,SeqAt.RcNeAt.list_bool _ z1 hu⟩
theorem Zq2{a1:Addr}{its1:Array P7}(z1:s.heap.IsList a1 its1){i2:Int}{t2:Tok}(hu:A.units<cLine):Ans A s (.ref a1) (.int i2 t2) false:=⟨SeqAt.EqAt.list_int _ _ z1 hu,SeqAt.RcAt.list_int _ _ z1 hu,SeqAt.RcNeAt.list_int _ _ z1 hu⟩
theorem Zqg{a1:Addr}{its1:Array P7}(z1:s.heap.IsList a1 its1){x2:Str}{t2:Tok}(hu:A.units<cLine):Ans A s (.ref a1) (.str x2 t2) false:=⟨SeqAt.EqAt.list_str _ _ z1 hu,SeqAt.RcAt.list_str _ _ z1 hu,SeqAt.RcNeAt.list_str _ _ z1 hu⟩
theorem Zoq{a1:Addr}{its1:Array P7}(z1:s.heap.IsList a1 its1){a2:Addr}{its2:Array P7}(z2:s.heap.IsTuple a2 its2)(hu:A.units<cLine):Ans A s (.ref a1) (.ref a2) false:=⟨SeqAt.EqAt.list_tuple z1 z2 hu,SeqAt.RcAt.list_tuple z1 z2 hu,SeqAt.RcNeAt.list_tuple z1 z2 hu⟩
end
inductive Kd where
 | non | bl (b:Bool) | int (i:Int) | str (x:Str) | tup (xs:List D) | lst (xs:List D) | no
def kd(st:Sto):D->Kd
 | .non => .non
 | .bl b => .bl b
 | .int i => .int i
 | .str x => .str x
 | .tup xs => .tup xs
 | .lst xs => .lst xs
 | .scr xs => .lst xs
 | .res i=>match st[i]? with
  | some (.lst xs) => .lst xs
  | _ => .no
 | .exv _ => .no
def Z9(f:D->D->Option Bool):List D->List D->Option Bool
 | [],[]=>some true
 | [],_ :: _=>some false
 | _ :: _,[]=>some false
 | x :: xs,y :: ys=>match f x y,Z9 f xs ys with
  | some a,some b=>some (a && b)
  | _,_=>none
def eqN(st:Sto):Nat->D->D->Option Bool
 | 0,_,_=>none
 | n+1,a,b=>match kd st a,kd st b with
  | .tup xs,.tup ys=>Z9 (eqN st n) xs ys
  | .lst xs,.lst ys=>Z9 (eqN st n) xs ys
  | .non,.non=>some true
  | .bl x,.bl y=>some (x == y)
  | .int x,.int y=>some (x == y)
  | .str x,.str y=>some (x == y)
  | .bl x,.int y=>some ((if x then 1 else 0) == y)
  | .int x,.bl y=>some (x == (if y then 1 else 0))
  | .no,_=>none
  | _,.no=>none
  | _,_=>some false
section
variable{X:Cx}{pins:List (Addr×Obj)}{σ:L2.St}{s:P1}{O:List Addr}{H:Hp}{st:Sto}
theorem Zjo(I:Inv X pins σ H s){a:Addr}{vs xs:List V}(h:SqT X.K H a vs)(q:H a=some (.lst xs)):False:=by
 rcases h with (h | ⟨ob,h⟩) | ⟨o,_,_,h,_⟩
 ·rw[h] at q; cases q
 ·rw[h] at q; cases q
 ·rw[Zbn I h] at q; cases q
theorem Zhc(I:Inv X pins σ H s){a:Addr}{vs xs:List V}(h:SqF X.K H a vs)(q:H a=some (.lst xs)):False:=by
 rcases h with⟨ob,h⟩ | ⟨o,_,_,h,_⟩
 ·rw[h] at q; cases q
 ·rw[Zbn I h] at q; cases q
theorem ZhP(I:Inv X pins σ H s){a:Addr}{vs xs:List V}(h:SqT X.K H a vs)(q:SqF X.K H a xs):False:=by
 rcases h with (h | ⟨ob,h⟩) | ⟨o,_,_,h,c,_⟩ <;> rcases q with⟨ob',q⟩ | ⟨o',_,_,q,c',_⟩
 ·rw[h] at q; cases q
 ·rw[Zbn I q] at h; cases h
 ·rw[h] at q; cases q
 ·rw[Zbn I q] at h; cases h
 ·rw[Zbn I h] at q; cases q
 ·rw[h] at q; cases q; rw[c] at c'; exact absurd (Value.type.inj c') (by decide)
theorem ZrI(I:Inv X pins σ H s){a:Addr}{vs:List V}{o:HO}(h:SqT X.K H a vs)(q:H a=some o)(z:isS o=true):False:=by
 rcases h with (h | ⟨ob,h⟩) | ⟨_,_,_,h,_⟩
 ·rw[h] at q; cases q; cases z
 ·rw[h] at q; cases q; cases z
 ·rw[Zbn I h] at q; cases q
theorem ZmD(I:Inv X pins σ H s){a:Addr}{vs:List V}{o:HO}(h:SqF X.K H a vs)(q:H a=some o)(z:isS o=true):False:=by
 rcases h with⟨ob,h⟩ | ⟨_,_,_,h,_⟩
 ·rw[h] at q; cases q; cases z
 ·rw[Zbn I h] at q; cases q
theorem ZjA(I:Inv X pins σ H s){a:Addr}{vs:List V}{φ:Heap->Prop}(h:SqT X.K H a vs)(q:H a=some (.ext φ)):False:=by
 rcases h with (h | ⟨ob,h⟩) | ⟨_,_,_,h,_⟩
 ·rw[h] at q; cases q
 ·rw[h] at q; cases q
 ·rw[Zbn I h] at q; cases q
theorem ZiK(I:Inv X pins σ H s){a:Addr}{vs:List V}{φ:Heap->Prop}(h:SqF X.K H a vs)(q:H a=some (.ext φ)):False:=by
 rcases h with⟨ob,h⟩ | ⟨_,_,_,h,_⟩
 ·rw[h] at q; cases q
 ·rw[Zbn I h] at q; cases q
theorem Zkf(I:Inv X pins σ H s)(W:WR X.K O H st){i:Nat}{a:Addr}{vs:List V}(h:O[i]?=some a)(q:SqT X.K H a vs):False:=by
 obtain⟨o,z,y⟩:=W.some_of h;exact ZrI I q z y
theorem Zin(I:Inv X pins σ H s)(W:WR X.K O H st){i:Nat}{a:Addr}{vs:List V}(h:O[i]?=some a)(q:SqF X.K H a vs):False:=by
 obtain⟨o,z,y⟩:=W.some_of h;exact ZmD I q z y
theorem Zhz(W:WR X.K O H st){i:Nat}{a:Addr}{φ:Heap->Prop}(h:O[i]?=some a)(q:H a=some (.ext φ)):False:=by
 obtain⟨o,z,y⟩:=W.some_of h;rw[q] at z;cases z;cases y
mutual
theorem Rep.inj(I:Inv X pins σ H s)(W:WR X.K O H st):∀(d d':D) (v:V),Rep X.K O H d v->Rep X.K O H d' v->d=d'
 | .non,d',v,h,h'=>by
  rw[Rep.non_i] at h; subst h;cases d' <;> unfold Rep at h' <;> first | rfl | (cases h'; done) | (obtain⟨_,_,e,_⟩:=h'; cases e) | (obtain⟨_,e,_⟩:=h'; cases e)
 | .bl b,d',v,h,h'=>by
  rw[Rep.bl_i] at h; subst h;cases d' <;> unfold Rep at h' <;> first | (cases h'; rfl) | (cases h'; done) | (obtain⟨_,_,e,_⟩:=h'; cases e) | (obtain⟨_,e,_⟩:=h'; cases e)
 | .int b,d',v,h,h'=>by
  rw[Rep.int_i] at h; subst h;cases d' <;> unfold Rep at h' <;> first | (cases h'; rfl) | (cases h'; done) | (obtain⟨_,_,e,_⟩:=h'; cases e) | (obtain⟨_,e,_⟩:=h'; cases e)
 | .str b,d',v,h,h'=>by
  rw[Rep.str_i] at h; subst h;cases d' <;> unfold Rep at h' <;> first | (cases h'; rfl) | (cases h'; done) | (obtain⟨_,_,e,_⟩:=h'; cases e) | (obtain⟨_,e,_⟩:=h'; cases e)
 | .tup ds,d',v,h,h'=>by
  rw[Rep.tup_i] at h;obtain⟨a,vs,rfl,q,r⟩:=h;cases d' with
  | tup ds' =>
   rw[Rep.tup_i] at h';obtain⟨a',vs',e,q',r'⟩:=h';cases e;have ev:vs=vs':=I.tuple_inj (SqT.of q) (SqT.of q');subst ev;rw[Reps.inj I W ds ds' vs r r']
  | lst ds'=>rw[Rep.lst_i] at h'; obtain⟨a',vs',e,_,q',_⟩:=h'; cases e; exact (Zjo I (SqT.of q) q').elim
  | scr ds'=>rw[Rep.scr_i] at h'; obtain⟨a',vs',e,q',_⟩:=h'; cases e; exact (ZhP I (SqT.of q) q').elim
  | res i=>rw[Rep.res_i] at h'; obtain⟨a',e,q'⟩:=h'; cases e; exact (Zkf I W q' (SqT.of q)).elim
  | exv C=>rw[Rep.exv_i] at h'; obtain⟨a',e,q'⟩:=h'; cases e; exact (ZjA I (SqT.of q) q').elim
  | _=>unfold Rep at h'; cases h'
 | .lst ds,d',v,h,h'=>by
  rw[Rep.lst_i] at h;obtain⟨a,vs,rfl,n,q,r⟩:=h;cases d' with
  | tup ds'=>rw[Rep.tup_i] at h'; obtain⟨a',vs',e,q',_⟩:=h'; cases e; exact (Zjo I (SqT.of q') q).elim
  | lst ds' =>
   rw[Rep.lst_i] at h';obtain⟨a',vs',e,_,q',r'⟩:=h';cases e;rw[q] at q';cases q';rw[Reps.inj I W ds ds' vs r r']
  | scr ds'=>rw[Rep.scr_i] at h'; obtain⟨a',vs',e,q',_⟩:=h'; cases e; exact (Zhc I q' q).elim
  | res i=>rw[Rep.res_i] at h'; obtain⟨a',e,q'⟩:=h'; cases e; exact (n (Wx q')).elim
  | exv C=>rw[Rep.exv_i] at h'; obtain⟨a',e,q'⟩:=h'; cases e; rw[q] at q'; cases q'
  | _=>unfold Rep at h'; cases h'
 | .scr ds,d',v,h,h'=>by
  rw[Rep.scr_i] at h;obtain⟨a,vs,rfl,q,r⟩:=h;cases d' with
  | tup ds'=>rw[Rep.tup_i] at h'; obtain⟨a',vs',e,q',_⟩:=h'; cases e; exact (ZhP I (SqT.of q') q).elim
  | lst ds'=>rw[Rep.lst_i] at h'; obtain⟨a',vs',e,_,q',_⟩:=h'; cases e; exact (Zhc I q q').elim
  | scr ds' =>
   rw[Rep.scr_i] at h';obtain⟨a',vs',e,q',r'⟩:=h';cases e;have ev:vs=vs':=I.list_inj q.sq q'.sq;subst ev;rw[Reps.inj I W ds ds' vs r r']
  | res i=>rw[Rep.res_i] at h'; obtain⟨a',e,q'⟩:=h'; cases e; exact (Zin I W q' q).elim
  | exv C=>rw[Rep.exv_i] at h'; obtain⟨a',e,q'⟩:=h'; cases e; exact (ZiK I q q').elim
  | _=>unfold Rep at h'; cases h'
 | .res i,d',v,h,h'=>by
  rw[Rep.res_i] at h;obtain⟨a,rfl,q⟩:=h;cases d' with
  | tup ds'=>rw[Rep.tup_i] at h'; obtain⟨a',vs',e,q',_⟩:=h'; cases e; exact (Zkf I W q (SqT.of q')).elim
  | lst ds'=>rw[Rep.lst_i] at h'; obtain⟨a',vs',e,n,_,_⟩:=h'; cases e; exact (n (Wx q)).elim
  | scr ds'=>rw[Rep.scr_i] at h'; obtain⟨a',vs',e,q',_⟩:=h'; cases e; exact (Zin I W q q').elim
  | res j =>
   rw[Rep.res_i] at h';obtain⟨a',e,q'⟩:=h';cases e;rw[ZkM W.nd q q']
  | exv C=>rw[Rep.exv_i] at h'; obtain⟨a',e,q'⟩:=h'; cases e; exact (Zhz W q q').elim
  | _=>unfold Rep at h'; cases h'
 | .exv C,d',v,h,h'=>by
  rw[Rep.exv_i] at h;obtain⟨a,rfl,q⟩:=h;cases d' with
  | tup ds'=>rw[Rep.tup_i] at h'; obtain⟨a',vs',e,q',_⟩:=h'; cases e; exact (ZjA I (SqT.of q') q).elim
  | lst ds'=>rw[Rep.lst_i] at h'; obtain⟨a',vs',e,n,q',_⟩:=h'; cases e; rw[q] at q'; cases q'
  | scr ds'=>rw[Rep.scr_i] at h'; obtain⟨a',vs',e,q',_⟩:=h'; cases e; exact (ZiK I q' q).elim
  | res j=>rw[Rep.res_i] at h'; obtain⟨a',e,q'⟩:=h'; cases e; exact (Zhz W q' q).elim
  | exv C' =>
   rw[Rep.exv_i] at h';obtain⟨a',e,q'⟩:=h';cases e;rw[(I.hok _ _ q).1.inj (I.hok _ _ q').1]
  | _=>unfold Rep at h'; cases h'
theorem Reps.inj(I:Inv X pins σ H s)(W:WR X.K O H st):∀(ds ds':List D) (vs:List V),Reps X.K O H ds vs->Reps X.K O H ds' vs->ds=ds'
 | [],ds',vs,h,h'=>by
  rw[Reps.nil_i] at h; subst h;cases ds' with
  | nil=>rfl
  | cons d r=>obtain⟨_,_,e,_⟩:=Reps.cons_i.mp h'; cases e
 | d :: ds,ds',vs,h,h'=>by
  obtain⟨v,r,rfl,q,t⟩:=Reps.cons_i.mp h;cases ds' with
  | nil=>rw[Reps.nil_i] at h'; cases h'
  | cons d' r' =>
   obtain⟨v',r2,e,q',t'⟩:=Reps.cons_i.mp h';cases e;rw[Rep.inj I W d d' v q q',Reps.inj I W ds r' r t t']
end
theorem Zd0{f:D->D->Option Bool}(hf:∀d k,f d d=some k->k=true):∀(xs:List D) (k:Bool),Z9 f xs xs=some k->k=true
 | [],k,h=>by simp only[Z9,YE] at h; exact h.symm
 | x :: xs,k,h=>by
  unfold Z9 at h;cases e1:f x x with
  | none=>rw[e1] at h; cases h
  | some a =>
   cases e2:Z9 f xs xs with
   | none=>rw[e1,e2] at h; cases h
   | some b =>
    rw[e1,e2] at h;simp only[YE] at h;rw[<-h,hf x a e1,Zd0 hf xs b e2];rfl
theorem Zgh:∀(n:Nat) (d:D) (k:Bool),eqN st n d d=some k->k=true
 | 0,d,k,h=>by cases h
 | n+1,d,k,h=>by
  unfold eqN at h;cases e:kd st d <;> rw[e] at h <;> simp only[beq_self_eq_true,YE] at h
  case tup xs=>exact Zd0 (Zgh n) xs k h
  case lst xs=>exact Zd0 (Zgh n) xs k h
  case no=>cases h
  all_goals exact h.symm
theorem Zh8{f:D->D->Option Bool}:∀(xs ys:List D) (k:Bool),Z9 f xs ys=some k ->
  (∀(j:Nat) (x y:D),xs[j]?=some x->ys[j]?=some y->∃kj,f x y=some kj) /\
  k=((List.range (min xs.length ys.length)).all (fun j=>((xs[j]?.bind fun x=>ys[j]?.bind fun y=>f x y).getD false)) && xs.length == ys.length)
 | [],[],k,h=>by
  simp only[Z9,YE] at h;subst h;exact⟨fun j x y e=>by simp at e,rfl⟩
 | [],y :: ys,k,h=>by
  simp only[Z9,YE] at h;subst h;exact⟨fun j x y e=>by simp at e,by simp⟩
 | x :: xs,[],k,h=>by
  simp only[Z9,YE] at h;subst h;exact⟨fun j x y _ e=>by simp at e,by simp⟩
 | x :: xs,y :: ys,k,h=>by
  unfold Z9 at h;cases e1:f x y with
  | none=>rw[e1] at h; cases h
  | some a =>
   cases e2:Z9 f xs ys with
   | none=>rw[e1,e2] at h; cases h
   | some b =>
    rw[e1,e2] at h;simp only[YE] at h;obtain⟨h1,h2⟩:=Zh8 xs ys b e2;refine⟨fun j u w eu ew => ?_,?_⟩
    ·cases j with
     | zero=>simp at eu ew; subst eu ew; exact⟨a,e1⟩
     | succ j=>exact h1 j u w (by simpa using eu) (by simpa using ew)
    ·rw[<-h,h2];have em:min (x :: xs).length (y :: ys).length=min xs.length ys.length+1:=by simp only[YB]; omega
     rw[em,List.range_succ_eq_map];simp only[List.all_cons,List.all_map,Vo,Ur,e1,Option.getD_some,YB,Function.comp_def,Vp,Nat.succ_eq_add_one,Bool.and_assoc];congr 2;by_cases hl:xs.length=ys.length
     ·simp[hl]
     ·have:¬ (xs.length+1=ys.length+1):=by omega
      simp[hl]
def KdV(K:P3)(O:List Addr)(H:Hp)(s:P1):Kd->P7->Prop
 | .non,u=>u = .none
 | .bl b,u=>u = .bool b
 | .int i,u => ∃t,u = .int i t
 | .str x,u => ∃t,u = .str x t
 | .tup xs,u => ∃a vs its,u = .ref a/\Reps K O H xs vs/\Vals vs its/\s.heap.IsTuple a its.toArray
 | .lst xs,u => ∃a vs its,u = .ref a/\Reps K O H xs vs/\Vals vs its/\s.heap.IsList a its.toArray
 | .no,_=>True
theorem ZfE(I:Inv X pins σ H s)(W:WR X.K O H st){d:D}{v:V}{u:P7}{xs:List D}(r:Rep X.K O H d v)(q:RelV v u)(e:ZN st d=some xs):KdV X.K O H s (.lst xs) u:=by
 obtain⟨a,vs,rfl,z,t⟩:=rdL W r e;obtain⟨its,hv,hp,_⟩:=I.list z;have q':u=Value.ref a:=q;subst q';exact⟨a,vs,its,rfl,t,hv,hp.isList⟩
theorem kdV(I:Inv X pins σ H s)(W:WR X.K O H st):∀{d:D} {v:V} {u:P7},Rep X.K O H d v->RelV v u->KdV X.K O H s (kd st d) u
 | .non,v,u,r,q=>by rw[Rep.non_i] at r; subst r; exact q
 | .bl b,v,u,r,q=>by rw[Rep.bl_i] at r; subst r; exact q
 | .int b,v,u,r,q=>by rw[Rep.int_i] at r; subst r; exact q
 | .str b,v,u,r,q=>by rw[Rep.str_i] at r; subst r; exact q
 | .tup ds,v,u,r,q=>by
  rw[Rep.tup_i] at r;obtain⟨a,vs,rfl,z,t⟩:=r;obtain⟨its,hv,hp,_⟩:=I.tuple (SqT.of z);have q':u=Value.ref a:=q;subst q';exact⟨a,vs,its,rfl,t,hv,hp⟩
 | .lst ds,v,u,r,q=>ZfE I W r q rfl
 | .scr ds,v,u,r,q=>ZfE I W r q rfl
 | .res i,v,u,r,q=>by
  have e:ZN st (.res i)=match st[i]? with
   | some (.lst xs)=>some xs
   | _=>none:=rfl
  have e':kd st (.res i)=match st[i]? with
   | some (.lst xs) => .lst xs
   | _ => .no:=rfl
  rw[e'];cases hs:st[i]? with
  | none=>exact trivial
  | some so =>
   cases so with
   | ins C fs=>exact trivial
   | dct kvs=>exact trivial
   | dtt kvs=>exact trivial
   | fdc kvs=>exact trivial
   | lst xs =>
    rw[hs] at e;exact ZfE I W r q e
 | .exv C,v,u,r,q=>trivial
theorem in1_units(A:P4):A.in1.units=A.units+1:=rfl
theorem Zfh(I:Inv X pins σ H s)(W:WR X.K O H st):∀(n:Nat) (a b:D) (k:Bool),eqN st n a b=some k->∀(A:P4) (x y:V) (u w:P7),
  Rep X.K O H a x->Rep X.K O H b y->RelV x u->RelV y w->A.units+n<cLine->Ans A s u w k
 | 0,a,b,k,h=>by cases h
 | n+1,a,b,k,h=>by
  intro A x y u w ra rb qa qb hn;have hu:A.units<cLine:=by omega
  have same:u=w->k=true:=by
   intro e;subst e;have e2:x=y:=qa.inj qb;subst e2;have e3:=Rep.inj I W a b x ra rb;subst e3;exact Zgh (n+1) a k h
  have ka:=kdV I W ra qa;have kb:=kdV I W rb qb;have items:∀{xs ys:List D} {vs ws:List V} {its its2:List P7},Z9 (eqN st n) xs ys=some k->Reps X.K O H xs vs->Reps X.K O H ys ws->Vals vs its->Vals ws its2 ->
    (∀j (h1:j<its.toArray.size) (h2:j<its2.toArray.size),SeqAt.EqAt A.in1 s its.toArray[j] its2.toArray[j] ((xs[j]?.bind fun x=>ys[j]?.bind fun y=>eqN st n x y).getD false)) /\
    k=((List.range (min its.toArray.size its2.toArray.size)).all (fun j=>((xs[j]?.bind fun x=>ys[j]?.bind fun y=>eqN st n x y).getD false)) && its.toArray.size == its2.toArray.size):=by
   intro xs ys vs ws its its2 he r1 r2 v1 v2;obtain⟨h1,h2⟩:=Zh8 xs ys k he;have l1:its.toArray.size=xs.length:=by rw[Yu,<-v1.length,r1.length]
   have l2:its2.toArray.size=ys.length:=by rw[Yu,<-v2.length,r2.length]
   refine⟨fun j j1 j2 => ?_,by rw[l1,l2]; exact h2⟩;have j1':j<xs.length:=by rw[<-l1]; exact j1
   have j2':j<ys.length:=by rw[<-l2]; exact j2
   have ex:xs[j]?=some xs[j]:=Yj j1';have ey:ys[j]?=some ys[j]:=Yj j2';obtain⟨kj,ek⟩:=h1 j xs[j] ys[j] ex ey;obtain⟨vx,e3,rx⟩:=r1.get ex;obtain⟨vy,e4,ry⟩:=r2.get ey;obtain⟨ux,e5,qx⟩:=v1.get e3;obtain⟨uy,e6,qy⟩:=v2.get e4;have e7:its.toArray[j]=ux:=by
    have:=(Yc.mp e5).2;simpa using this
   have e8:its2.toArray[j]=uy:=by
    have:=(Yc.mp e6).2;simpa using this
   rw[ex,ey,e7,e8];simp only[Ur,ek,Option.getD_some];exact (Zfh I W n xs[j] ys[j] kj ek A.in1 vx vy ux uy rx ry qx qy (by rw[in1_units]; omega)).1
  unfold eqN at h;generalize kd st a=da at h ka;generalize kd st b=db at h kb;cases da with
  | no=>cases db <;> cases h
  | non =>
   cases db with
   | no=>cases h
   | non =>
    have e1:u=_:=ka;subst e1;have e2:w=_:=kb;subst e2;cases h;exact Zq7
   | bl b2 =>
    have e1:u=_:=ka;subst e1;have e2:w=_:=kb;subst e2;cases h;exact Zpt
   | int i2 =>
    have e1:u=_:=ka;subst e1;obtain⟨t2,rfl⟩:=kb;cases h;exact Zqa
   | str x2 =>
    have e1:u=_:=ka;subst e1;obtain⟨t2,rfl⟩:=kb;cases h;exact Zs4
   | tup ys =>
    have e1:u=_:=ka;subst e1;obtain⟨a2,vs2,its2,rfl,r2,q2,z2⟩:=kb;cases h;exact Zrc z2 hu
   | lst ys =>
    have e1:u=_:=ka;subst e1;obtain⟨a2,vs2,its2,rfl,r2,q2,z2⟩:=kb;cases h;exact Zqc z2 hu
  | bl b1 =>
   cases db with
   | no=>cases h
   | non =>
    have e1:u=_:=ka;subst e1;have e2:w=_:=kb;subst e2;cases h;exact Zr8
   | bl b2 =>
    have e1:u=_:=ka;subst e1;have e2:w=_:=kb;subst e2;cases h;exact ZrO
   | int i2 =>
    have e1:u=_:=ka;subst e1;obtain⟨t2,rfl⟩:=kb;cases h;exact Zm8
   | str x2 =>
    have e1:u=_:=ka;subst e1;obtain⟨t2,rfl⟩:=kb;cases h;exact ZmV
   | tup ys =>
    have e1:u=_:=ka;subst e1;obtain⟨a2,vs2,its2,rfl,r2,q2,z2⟩:=kb;cases h;exact Zmb z2 hu
   | lst ys =>
    have e1:u=_:=ka;subst e1;obtain⟨a2,vs2,its2,rfl,r2,q2,z2⟩:=kb;cases h;exact Zmo z2 hu
  | int i1 =>
   cases db with
   | no=>cases h
   | non =>
    obtain⟨t1,rfl⟩:=ka;have e2:w=_:=kb;subst e2;cases h;exact Zmu
   | bl b2 =>
    obtain⟨t1,rfl⟩:=ka;have e2:w=_:=kb;subst e2;cases h;exact Zru
   | int i2 =>
    obtain⟨t1,rfl⟩:=ka;obtain⟨t2,rfl⟩:=kb;cases h;exact Zni
   | str x2 =>
    obtain⟨t1,rfl⟩:=ka;obtain⟨t2,rfl⟩:=kb;cases h;exact Zlo
   | tup ys =>
    obtain⟨t1,rfl⟩:=ka;obtain⟨a2,vs2,its2,rfl,r2,q2,z2⟩:=kb;cases h;exact ZoU z2 hu
   | lst ys =>
    obtain⟨t1,rfl⟩:=ka;obtain⟨a2,vs2,its2,rfl,r2,q2,z2⟩:=kb;cases h;exact Zox z2 hu
  | str x1 =>
   cases db with
   | no=>cases h
   | non =>
    obtain⟨t1,rfl⟩:=ka;have e2:w=_:=kb;subst e2;cases h;exact Znv
   | bl b2 =>
    obtain⟨t1,rfl⟩:=ka;have e2:w=_:=kb;subst e2;cases h;exact ZnV
   | int i2 =>
    obtain⟨t1,rfl⟩:=ka;obtain⟨t2,rfl⟩:=kb;cases h;exact Zno
   | str x2 =>
    obtain⟨t1,rfl⟩:=ka;obtain⟨t2,rfl⟩:=kb;cases h;exact ZnT
   | tup ys =>
    obtain⟨t1,rfl⟩:=ka;obtain⟨a2,vs2,its2,rfl,r2,q2,z2⟩:=kb;cases h;exact ZlQ z2 hu
   | lst ys =>
    obtain⟨t1,rfl⟩:=ka;obtain⟨a2,vs2,its2,rfl,r2,q2,z2⟩:=kb;cases h;exact ZrH z2 hu
  | tup xs =>
   cases db with
   | no=>cases h
   | non =>
    obtain⟨a1,vs1,its1,rfl,r1,q1,z1⟩:=ka;have e2:w=_:=kb;subst e2;cases h;exact Zr1 z1 hu
   | bl b2 =>
    obtain⟨a1,vs1,its1,rfl,r1,q1,z1⟩:=ka;have e2:w=_:=kb;subst e2;cases h;exact ZkV z1 hu
   | int i2 =>
    obtain⟨a1,vs1,its1,rfl,r1,q1,z1⟩:=ka;obtain⟨t2,rfl⟩:=kb;cases h;exact Znr z1 hu
   | str x2 =>
    obtain⟨a1,vs1,its1,rfl,r1,q1,z1⟩:=ka;obtain⟨t2,rfl⟩:=kb;cases h;exact ZlT z1 hu
   | tup ys =>
    obtain⟨a1,vs1,its1,rfl,r1,q1,z1⟩:=ka;obtain⟨a2,vs2,its2,rfl,r2,q2,z2⟩:=kb;obtain⟨he,hk⟩:=items h r1 r2 q1 q2;have R:=SeqAt.RcAt.tuples z1 z2 hu he;have N:=SeqAt.RcNeAt.tuples z1 z2 hu he;rw[<-hk] at R N;refine⟨?_,R,N⟩;by_cases ea:a1=a2
    ·subst ea;rw[same rfl];exact SeqAt.EqAt.same _
    ·exact SeqAt.EqAt.of_refs ea R
   | lst ys =>
    obtain⟨a1,vs1,its1,rfl,r1,q1,z1⟩:=ka;obtain⟨a2,vs2,its2,rfl,r2,q2,z2⟩:=kb;cases h;exact ZoF z1 z2 hu
  | lst xs =>
   cases db with
   | no=>cases h
   | non =>
    obtain⟨a1,vs1,its1,rfl,r1,q1,z1⟩:=ka;have e2:w=_:=kb;subst e2;cases h;exact ZqV z1 hu
   | bl b2 =>
    obtain⟨a1,vs1,its1,rfl,r1,q1,z1⟩:=ka;have e2:w=_:=kb;subst e2;cases h;exact ZmP z1 hu
   | int i2 =>
    obtain⟨a1,vs1,its1,rfl,r1,q1,z1⟩:=ka;obtain⟨t2,rfl⟩:=kb;cases h;exact Zq2 z1 hu
   | str x2 =>
    obtain⟨a1,vs1,its1,rfl,r1,q1,z1⟩:=ka;obtain⟨t2,rfl⟩:=kb;cases h;exact Zqg z1 hu
   | tup ys =>
    obtain⟨a1,vs1,its1,rfl,r1,q1,z1⟩:=ka;obtain⟨a2,vs2,its2,rfl,r2,q2,z2⟩:=kb;cases h;exact Zoq z1 z2 hu
   | lst ys =>
    obtain⟨a1,vs1,its1,rfl,r1,q1,z1⟩:=ka;obtain⟨a2,vs2,its2,rfl,r2,q2,z2⟩:=kb;obtain⟨he,hk⟩:=items h r1 r2 q1 q2;have RN:SeqAt.RcAt A s (.ref a1) (.ref a2) k/\SeqAt.RcNeAt A s (.ref a1) (.ref a2) (!k):=by
     by_cases hz:its1.toArray.size=its2.toArray.size
     ·have R:=SeqAt.RcAt.lists z1 z2 hz hu he;have N:=SeqAt.RcNeAt.lists z1 z2 hz hu he;have hk2:k=(List.range its1.toArray.size).all (fun j=>((xs[j]?.bind fun x=>ys[j]?.bind fun y=>eqN st n x y).getD false)):=by
       rw[hk,<-hz,Nat.min_self];simp
      rw[<-hk2] at R N;exact⟨R,N⟩
     ·have hk2:k=false:=by
       rw[hk];simp only[Qf.mpr hz,Bool.and_false]
      have hb:(its1.toArray.size != its2.toArray.size)=true:=by simpa using hz
      subst hk2;exact⟨SeqAt.RcAt.lists_lengths z1 z2 hb hu,SeqAt.RcNeAt.lists_lengths z1 z2 hb hu⟩
    refine⟨?_,RN.1,RN.2⟩;by_cases ea:a1=a2
    ·subst ea;rw[same rfl];exact SeqAt.EqAt.same _
    ·exact SeqAt.EqAt.of_refs ea RN.1
end
end DL
end
section
namespace DL
open PySem PySem.Spec PyProof.Rows L2
noncomputable abbrev EXT:=Addr->Sto->List Addr->Hp->Prop
def Run(K:P3)(EX:EXT){α:Type}(O:List Addr)(H:Hp)(r:Out α)(k:α->Sto->List Addr->Hp->Prop):Prop:=match r with
 | .ok a st => ∀O' H',Keep K O H O' H'->WR K O' H' st->k a st O' H'
 | .exc c st => ∀O' H',Keep K O H O' H'->WR K O' H' st->EX c st O' H'
 | .bad=>False
section
variable{K:P3}{EX:EXT}{α β:Type}{O O':List Addr}{H H':Hp}{st:Sto}
theorem Run.now{a:α}{k:α->Sto->List Addr->Hp->Prop}(h:Run K EX O H (.ok a st) k)(W:WR K O H st):k a st O H:=h O H Keep.refl W
theorem Run.later{r:Out α}{k:α->Sto->List Addr->Hp->Prop}(h:Run K EX O H r k)(kp:Keep K O H O' H'):Run K EX O' H' r k:=by
 cases r with
 | ok a st=>exact fun O2 H2 k2 W2=>h O2 H2 (kp.trans k2) W2
 | exc c st=>exact fun O2 H2 k2 W2=>h O2 H2 (kp.trans k2) W2
 | bad=>exact h
theorem Run.mono{r:Out α}{k k':α->Sto->List Addr->Hp->Prop}(h:Run K EX O H r k)(f:∀a st O' H',Keep K O H O' H'->WR K O' H' st->k a st O' H'->k' a st O' H'):Run K EX O H r k':=by
 cases r with
 | ok a st=>exact fun O' H' kp W=>f a st O' H' kp W (h O' H' kp W)
 | exc c st=>exact h
 | bad=>exact h
theorem Run.bind{r:Out α}{g:α->Sto->Out β}{k:β->Sto->List Addr->Hp->Prop}(h:Run K EX O H (r.bind g) k):Run K EX O H r (fun a st O' H'=>Run K EX O' H' (g a st) k):=by
 cases r with
 | ok a st=>exact fun O' H' kp W=>Run.later (r:=g a st) h kp
 | exc c st=>exact h
 | bad=>exact h
end
structure REnv(K:P3)(O:List Addr)(H:Hp)(ρ:Ev)(σ:L2.St):Prop where
 len:ρ.length=σ.length
 at_:∀(i:Nat) (d:D),ρ[i]?=some (some d)->∃v,σ[i]?=some (some v)/\Rep K O H d v
section
variable{K:P3}{O O':List Addr}{H H':Hp}{ρ:Ev}{σ:L2.St}
theorem REnv.mono(E:REnv K O H ρ σ)(k:Keep K O H O' H'):REnv K O' H' ρ σ :=
 ⟨E.len,fun i d e=>let ⟨v,h,r⟩:=E.at_ i d e; ⟨v,h,Rep.mono k d v r⟩⟩
theorem REnv.set(E:REnv K O H ρ σ){i:Nat}{d:D}{v:V}(r:Rep K O H d v):REnv K O H (ρ.set i (some d)) (σ.set i (some v)):=by
 refine⟨by rw[WT,WT,E.len],fun j e h => ?_⟩;by_cases hij:i=j
 ·subst hij;have hl:i<ρ.length:=by
   have:=(Yc.mp h).1;rwa[WT] at this
  rw[YT hl] at h;cases h;exact⟨v,YT (by rw[<-E.len]; exact hl),r⟩
 ·rw[YC hij] at h;obtain⟨u,h1,h2⟩:=E.at_ j e h;exact⟨u,by rw[YC hij]; exact h1,h2⟩
end
noncomputable abbrev DE:=Ev->Sto->Out D
noncomputable abbrev DT:=Ev->Sto->Out Bool
noncomputable abbrev DA:=Ev->Sto->Out (List D)
def EX0:EXT:=fun _ _ _ _=>False
section
variable(K:P3)(EX:EXT)
def Val(Q:VK)(d:D)(_:Sto)(O:List Addr)(H:Hp):Prop:=∀v,Rep K O H d v->Q v H
def Vls(Q:List V->Hp->Prop)(ds:List D)(_:Sto)(O:List Addr)(H:Hp):Prop:=∀vs,Reps K O H ds vs->Q vs H
def New(Q:VK)(ds:List D)(_:Sto)(O:List Addr)(H:Hp):Prop:=∀p vs,Reps K O H ds vs->H p=none->Q (.ref p) (upd H p (.lst vs))
def tD(f:DE):TE:=fun σ H Q => ∃O ρ st,WR K O H st/\REnv K O H ρ σ/\Run K EX O H (f ρ st) (Val K Q)
def tDT(f:DT):TT:=fun σ H Q => ∃O ρ st,WR K O H st/\REnv K O H ρ σ/\Run K EX O H (f ρ st) (fun b _ _ H'=>Q b H')
def tDA(f:DA):TA:=fun σ H Q => ∃O ρ st,WR K O H st/\REnv K O H ρ σ/\Run K EX O H (f ρ st) (Vls K Q)
def tDF(f:DA):TE:=fun σ H Q => ∃O ρ st,WR K O H st/\REnv K O H ρ σ/\Run K EX O H (f ρ st) (New K Q)
def rD2(g:D->D->Sto->Out D):R2:=fun x y H Q => ∃O a b st,WR K O H st/\Rep K O H a x/\Rep K O H b y/\Run K EX O H (g a b st) (Val K Q)
def Zi7(g:D->D->Sto->Out (List D)):R2:=fun x y H Q => ∃O a b st,WR K O H st/\Rep K O H a x/\Rep K O H b y/\Run K EX O H (g a b st) (New K Q)
def rDC(g:List D->Sto->Out D):List V->Hp->VK->Prop:=fun xs H Q => ∃O ds st,WR K O H st/\Reps K O H ds xs/\Run K EX O H (g ds st) (Val K Q)
def Zit(g:List D->Sto->Out (List D)):List V->Hp->VK->Prop:=fun xs H Q => ∃O ds st,WR K O H st/\Reps K O H ds xs/\Run K EX O H (g ds st) (New K Q)
end
section
variable(X:Cx)(EX:EXT)
def PD(e:Expr)(f:DE):Prop:=PE X e (tD X.K EX f)
def PDT(e:Expr)(f:DT):Prop:=PT X e (tDT X.K EX f)
def PDW(e:Expr)(f:DT):Prop:=PW X e (tDT X.K EX f)
def PDA(es:List Expr)(f:DA):Prop:=PA X es (tDA X.K EX f)
def PDF(e:Expr)(f:DA):Prop:=PE X e (tDF X.K EX f)
def OpD(f:P7->P7->Sem P7)(g:D->D->Sto->Out D):Prop:=OpR X f (rD2 X.K EX g)
def OpF(f:P7->P7->Sem P7)(g:D->D->Sto->Out (List D)):Prop:=OpR X f (Zi7 X.K EX g)
def Zdp(f:P7)(g:List D->Sto->Out D):Prop:=Za4 X f (rDC X.K EX g)
def Ze1(f:P7)(g:List D->Sto->Out (List D)):Prop:=Za4 X f (Zit X.K EX g)
end
theorem PE.mono{X:Cx}{e:Expr}{t t':TE}(h:PE X e t)(f:∀σ H Q,t' σ H Q->t σ H Q):PE X e t':=fun pins s σ H Q I q=>h pins s σ H Q I (f σ H Q q)
theorem PT.mono{X:Cx}{e:Expr}{t t':TT}(h:PT X e t)(f:∀σ H Q,t' σ H Q->t σ H Q):PT X e t':=fun pins s σ H Q I q=>h pins s σ H Q I (f σ H Q q)
theorem PW.mono{X:Cx}{e:Expr}{t t':TT}(h:PW X e t)(f:∀σ H Q,t' σ H Q->t σ H Q):PW X e t':=fun wh pins s σ H Q I q=>h wh pins s σ H Q I (f σ H Q q)
theorem PA.mono{X:Cx}{es:List Expr}{t t':TA}(h:PA X es t)(f:∀σ H Q,t' σ H Q->t σ H Q):PA X es t':=fun pos pins s σ H Q I q=>h pos pins s σ H Q I (f σ H Q q)
theorem PS.mono{X:Cx}{e:Stmt}{t t':TS}(h:PS X e t)(f:∀D σ H,t' D σ H->t D σ H):PS X e t':=fun pins s σ H D I q=>h pins s σ H D I (f D σ H q)
theorem PSs.mono{X:Cx}{e:List Stmt}{t t':TS}(h:PSs X e t)(f:∀D σ H,t' D σ H->t D σ H):PSs X e t':=fun pins s σ H D I q=>h pins s σ H D I (f D σ H q)
theorem OpR.mono{X:Cx}{f:P7->P7->Sem P7}{r r':R2}(h:OpR X f r)(g:∀x y H Q,r' x y H Q->r x y H Q):OpR X f r':=fun pins s σ H x y v u Q I rx ry q=>h pins s σ H x y v u Q I rx ry (g x y H Q q)
section
variable{X:Cx}{EX:EXT}{a b c e:Expr}{fa fb fc:DE}{pos:Pos}{ta tb:DT}
def Za(i:Nat):DE:=fun ρ st=>match ρ[i]? with
 | some (some d) => .ok d st
 | _ => .bad
theorem Zb(i:Nat){x:Str}{pos:Pos}(hN:X.N[i]?=some x:=by rfl)(hv:Vis X.env.scope x:=by first | exact Or.inl rfl | exact Or.inr (Or.inl rfl) | exact Or.inr (Or.inr rfl))(hd:(x == ("__debug__" : Str))=false:=by decide)
  (hcd:(x == ("__classdict__" : Str))=false:=by decide):PD X EX (.Name x pos) (Za i):=by
 refine PE.mono (Zng hN hv hd hcd) ?_;rintro σ H Q ⟨O,ρ,st,W,E,R⟩;unfold Za at R;cases h:ρ[i]? with
 | none=>rw[h] at R; exact R.elim
 | some z =>
  cases z with
  | none=>rw[h] at R; exact R.elim
  | some d =>
   rw[h] at R;obtain⟨v,h1,r⟩:=E.at_ i d h;exact⟨v,h1,R.now W v r⟩
def dC(d:D):DE:=fun _ st => .ok d st
theorem ZdR{v:V}{d:D}(h:PE X e (tC v))(hr:∀O H,Rep X.K O H d v):PD X EX e (dC d):=by
 refine PE.mono h ?_;rintro σ H Q ⟨O,ρ,st,W,E,R⟩;exact R.now W v (hr O H)
theorem Zs{i j pos}:PD X EX (.Constant (.int i) j pos) (dC (.int i)):=ZdR ZqA fun _ _=>Rep.int_i.mpr rfl
theorem ZaP{b j pos}:PD X EX (.Constant (.bool b) j pos) (dC (.bl b)):=ZdR ZlP fun _ _=>Rep.bl_i.mpr rfl
theorem ZaU{j pos}:PD X EX (.Constant .none j pos) (dC .non):=ZdR Zrz fun _ _=>Rep.non_i.mpr rfl
theorem ZT{x j pos}:PD X EX (.Constant (.str x) j pos) (dC (.str x)):=ZdR ZoA fun _ _=>Rep.str_i.mpr rfl
theorem ZeX{x:Str}{v:V}{u:P7}{d:D}{pos:Pos}(hg:Gl X x)(hm:X.mg x=some u)(r:RelV v u)(hr:∀O H,Rep X.K O H d v)(hd:(x == ("__debug__" : Str))=false:=by decide):PD X EX (.Name x pos) (dC d) :=
 ZdR (ZkJ hg hm r hd) hr
def Zg(g:D->D->Sto->Out D)(fa fb:DE):DE:=fun ρ st=>(fa ρ st).bind fun x st1=>(fb ρ st1).bind fun y st2=>g x y st2
def ZdH(g:D->D->Sto->Out (List D))(fa fb:DE):DA:=fun ρ st=>(fa ρ st).bind fun x st1=>(fb ρ st1).bind fun y st2=>g x y st2
theorem Zew{g:D->D->Sto->Out D}:∀σ H Q,tD X.K EX (Zg g fa fb) σ H Q->tOp (rD2 X.K EX g) (tD X.K EX fa) (tD X.K EX fb) σ H Q:=by
 rintro σ H Q ⟨O,ρ,st,W,E,R⟩;refine⟨O,ρ,st,W,E,R.bind.mono fun x st1 O1 H1 k1 W1 R1 v r => ?_⟩;refine⟨O1,ρ,st1,W1,E.mono k1,R1.bind.mono fun y st2 O2 H2 k2 W2 R2 u r2 => ?_⟩;exact⟨O2,x,y,st2,W2,Rep.mono k2 x v r,r2,R2⟩
theorem Zl3{g:D->D->Sto->Out (List D)}:∀σ H Q,tDF X.K EX (ZdH g fa fb) σ H Q->tOp (Zi7 X.K EX g) (tD X.K EX fa) (tD X.K EX fb) σ H Q:=by
 rintro σ H Q ⟨O,ρ,st,W,E,R⟩;refine⟨O,ρ,st,W,E,R.bind.mono fun x st1 O1 H1 k1 W1 R1 v r => ?_⟩;refine⟨O1,ρ,st1,W1,E.mono k1,R1.bind.mono fun y st2 O2 H2 k2 W2 R2 u r2 => ?_⟩;exact⟨O2,x,y,st2,W2,Rep.mono k2 x v r,r2,R2⟩
theorem Zy{op:Operator}{g:D->D->Sto->Out D}(ho:OpD X EX (binaryOp op) g)(ha:PD X EX a fa)(hb:PD X EX b fb):PD X EX (.BinOp a op b pos) (Zg g fa fb) :=
 PE.mono (Zio ho ha hb) Zew
theorem Zlj{op:Operator}{g:D->D->Sto->Out (List D)}(ho:OpF X EX (binaryOp op) g)(ha:PD X EX a fa)(hb:PD X EX b fb):PDF X EX (.BinOp a op b pos) (ZdH g fa fb) :=
 PE.mono (Zio ho ha hb) Zl3
theorem ZbX{op:CmpOp}{g:D->D->Sto->Out D}(ho:OpD X EX (compareOp op) g)(ha:PD X EX a fa)(hb:PD X EX b fb)(hm:behindInMarks op b=false:=by first | exact Zjf _ (by decide) (by decide) | with_unfolding_all rfl):PD X EX (.Compare a [op] [b] pos) (Zg g fa fb) :=
 PE.mono (Zqb ho ha hb hm) Zew
def asB:D->Sto->Out Bool
 | .bl b,st => .ok b st
 | _,_ => .bad
def dB(f:DE):DT:=fun ρ st=>(f ρ st).bind asB
theorem Zjn{O:List Addr}{H:Hp}{st:Sto}{d:D}{v:V}{Q:Bool->Hp->Prop}(W:WR X.K O H st)(r:Rep X.K O H d v)(R:Run X.K EX O H (asB d st) (fun b _ _ H'=>Q b H')):∃k,v = .bl k/\Q k H:=by
 cases d with
 | bl b=>exact⟨b,Rep.bl_i.mp r,Run.now (k:=fun b _ _ H'=>Q b H') R W⟩
 | _=>exact R.elim
theorem ZK{op:CmpOp}{g:D->D->Sto->Out D}(ho:OpD X EX (compareOp op) g)(ha:PD X EX a fa)(hb:PD X EX b fb)(hm:behindInMarks op b=false:=by first | exact Zjf _ (by decide) (by decide) | with_unfolding_all rfl):PDT X EX (.Compare a [op] [b] pos) (dB (Zg g fa fb)):=by
 refine PT.mono (Zqx ho ha hb hm) ?_;rintro σ H Q ⟨O,ρ,st,W,E,R⟩;exact Zew (X:=X) (EX:=EX) σ H _ ⟨O,ρ,st,W,E,R.bind.mono fun d st1 O1 H1 k1 W1 R1 v r=>Zjn W1 r R1⟩
theorem Zcl{f:DE}(h:PD X EX e f)(he:∀whole,isTrue e X.env whole=(do let v <-whole; standAt e.pos; holding [v] (truthy v)):=by intro _; rfl):PDT X EX e (dB f):=by
 refine PT.mono (Zs1 h he) ?_;rintro σ H Q ⟨O,ρ,st,W,E,R⟩;exact⟨O,ρ,st,W,E,R.bind.mono fun d st1 O1 H1 k1 W1 R1 v r=>Zjn W1 r R1⟩
def Zcz(ta tb:DT):DT:=fun ρ st=>(ta ρ st).bind fun x st1=>if x=true then tb ρ st1 else .ok false st1
def dOr(ta tb:DT):DT:=fun ρ st=>(ta ρ st).bind fun x st1=>if x=true then .ok true st1 else tb ρ st1
def Zcf(ta:DT):DT:=fun ρ st=>(ta ρ st).bind fun x st1 => .ok (!x) st1
theorem ZhN(ha:PDT X EX a ta):PDW X EX (.BoolOp .And [a] pos) ta:=ZpC ha
theorem ZcS(ha:PDT X EX a ta):PDW X EX (.BoolOp .Or [a] pos) ta:=Znu ha
theorem ZiS{rest:List Expr}(ha:PDT X EX a ta)(hb:PDW X EX (.BoolOp .And (b :: rest) pos) tb):PDW X EX (.BoolOp .And (a :: b :: rest) pos) (Zcz ta tb):=by
 refine PW.mono (Zq5 ha hb) ?_;rintro σ H Q ⟨O,ρ,st,W,E,R⟩;refine⟨O,ρ,st,W,E,R.bind.mono fun x st1 O1 H1 k1 W1 R1 => ?_⟩;cases x with
 | true=>exact⟨O1,ρ,st1,W1,E.mono k1,R1⟩
 | false=>exact Run.now (k:=fun b _ _ H'=>Q b H') R1 W1
theorem Zcc{rest:List Expr}(ha:PDT X EX a ta)(hb:PDW X EX (.BoolOp .Or (b :: rest) pos) tb):PDW X EX (.BoolOp .Or (a :: b :: rest) pos) (dOr ta tb):=by
 refine PW.mono (Zns ha hb) ?_;rintro σ H Q ⟨O,ρ,st,W,E,R⟩;refine⟨O,ρ,st,W,E,R.bind.mono fun x st1 O1 H1 k1 W1 R1 => ?_⟩;cases x with
 | true=>exact Run.now (k:=fun b _ _ H'=>Q b H') R1 W1
 | false=>exact⟨O1,ρ,st1,W1,E.mono k1,R1⟩
theorem PDW.pt(h:PDW X EX e ta):PDT X EX e ta:=PW.pt h
theorem Zey(ha:PDT X EX a ta):PDT X EX (.UnaryOp .Not a pos) (Zcf ta):=by
 refine PT.mono (ZpL ha) ?_;rintro σ H Q ⟨O,ρ,st,W,E,R⟩;exact⟨O,ρ,st,W,E,R.bind.mono fun x st1 O1 H1 k1 W1 R1=>Run.now (k:=fun b _ _ H'=>Q b H') R1 W1⟩
theorem Zsu{O:List Addr}{H:Hp}{st:Sto}{d:D}{v:V}{β:Type}{g:Bool->Sto->Out β}{k:β->Sto->List Addr->Hp->Prop}(r:Rep X.K O H d v)(R:Run X.K EX O H ((asB d st).bind g) k):∃x,v = .bl x/\Run X.K EX O H (g x st) k:=by
 cases d with
 | bl b=>exact⟨b,Rep.bl_i.mp r,R⟩
 | _=>exact R.elim
def dIf(t:DT)(fa fb:DE):DE:=fun ρ st=>(t ρ st).bind fun x st1=>if x=true then fa ρ st1 else fb ρ st1
theorem Zlm(hc:PDT X EX c ta)(ha:PD X EX a fa)(hb:PD X EX b fb):PD X EX (.IfExp c a b pos) (dIf ta fa fb):=by
 refine PE.mono (ZpN hc ha hb) ?_;rintro σ H Q ⟨O,ρ,st,W,E,R⟩;refine⟨O,ρ,st,W,E,R.bind.mono fun x st1 O1 H1 k1 W1 R1 => ?_⟩;cases x with
 | true=>exact⟨O1,ρ,st1,W1,E.mono k1,R1⟩
 | false=>exact⟨O1,ρ,st1,W1,E.mono k1,R1⟩
def Zex(g g':D->D->Sto->Out D)(fa fb fc:DE):DE:=fun ρ st=>(fa ρ st).bind fun x st1=>(fb ρ st1).bind fun y st2=>(g x y st2).bind fun z st3=>(asB z st3).bind fun k st4 =>
 if k=true then (fc ρ st4).bind fun w st5=>g' y w st5 else .ok (.bl false) st4
theorem ZmW{g g':D->D->Sto->Out D}:∀σ H Q,tD X.K EX (Zex g g' fa fb fc) σ H Q->ZkB (rD2 X.K EX g) (rD2 X.K EX g') (tD X.K EX fa) (tD X.K EX fb) (tD X.K EX fc) σ H Q:=by
 rintro σ H Q ⟨O,ρ,st,W,E,R⟩;refine⟨O,ρ,st,W,E,R.bind.mono fun x st1 O1 H1 k1 W1 R1 v r => ?_⟩;refine⟨O1,ρ,st1,W1,E.mono k1,R1.bind.mono fun y st2 O2 H2 k2 W2 R2 u r2 => ?_⟩;refine⟨O2,x,y,st2,W2,Rep.mono k2 x v r,r2,R2.bind.mono fun z st3 O3 H3 k3 W3 R3 z' rz => ?_⟩;obtain⟨k,rfl,R4⟩:=Zsu rz R3;refine⟨k,rfl,?_⟩;cases k with
 | true =>
  refine⟨O3,ρ,st3,W3,E.mono (k1.trans (k2.trans k3)),R4.bind.mono fun w st5 O5 H5 k5 W5 R5 w' rw => ?_⟩;exact⟨O5,y,w,st5,W5,Rep.mono (k3.trans k5) y u r2,rw,R5⟩
 | false=>exact Run.now (k:=Val X.K Q) R4 W3 _ (Rep.bl_i.mpr rfl)
theorem ZmM{op op':CmpOp}{g g':D->D->Sto->Out D}(ho:OpD X EX (compareOp op) g)(ho':OpD X EX (compareOp op') g')(ha:PD X EX a fa)(hb:PD X EX b fb)(hc:PD X EX c fc)
  (hm:lastMarks [op,op'] [b,c]=false:=by with_unfolding_all rfl):PD X EX (.Compare a [op,op'] [b,c] pos) (Zex g g' fa fb fc):=PE.mono (Zrv ho ho' ha hb hc hm) ZmW
def Ze:DA:=fun _ st => .ok [] st
def Zc(f:DE)(g:DA):DA:=fun ρ st=>(f ρ st).bind fun x st1=>(g ρ st1).bind fun xs st2 => .ok (x :: xs) st2
theorem Zh:PDA X EX [] Ze:=by
 refine PA.mono ZnU ?_;rintro σ H Q ⟨O,ρ,st,W,E,R⟩;exact Run.now (k:=Vls X.K Q) R W _ (Reps.nil_i.mpr rfl)
theorem Zd{es:List Expr}{g:DA}(ha:PD X EX a fa)(hr:PDA X EX es g)(hs:starEach (a :: es) X.env=(false,eval a X.env) :: starEach es X.env:=by rfl):PDA X EX (a :: es) (Zc fa g):=by
 refine PA.mono (ZpA ha hr hs) ?_;rintro σ H Q ⟨O,ρ,st,W,E,R⟩;refine⟨O,ρ,st,W,E,R.bind.mono fun x st1 O1 H1 k1 W1 R1 v r => ?_⟩;refine⟨O1,ρ,st1,W1,E.mono k1,R1.bind.mono fun xs st2 O2 H2 k2 W2 R2 vs rs => ?_⟩;exact Run.now (k:=Vls X.K Q) R2 W2 _ (Reps.cons_i.mpr ⟨v,vs,rfl,Rep.mono k2 x v r,rs⟩)
def small:Nat:=10000
theorem ZaM:small<=sizeLine:=by rw[Wd]; decide
def ZW(g:DA):DE:=fun ρ st=>(g ρ st).bind fun xs st1=>if xs.length<=small then .ok (.tup xs) st1 else .bad
def Z6(g:DA):DA:=fun ρ st=>(g ρ st).bind fun xs st1=>if xs.length<=small then .ok xs st1 else .bad
theorem Zez{O:List Addr}{H:Hp}{st:Sto}{xs:List D}{vs:List V}{p:Addr}{Q:VK}(W:WR X.K O H st)(r:Reps X.K O H xs vs)(hp:H p=none)(R:Run X.K EX O H (.ok (.tup xs) st) (Val X.K Q)):Q (.ref p) (upd H p (.tup vs)) :=
 R O (upd H p (.tup vs)) (Keep.laid hp) (W.laid hp) _ (Rep.tup_i.mpr ⟨p,vs,rfl,Zai,Reps.mono (Keep.laid hp) _ _ r⟩)
theorem Zs5{O:List Addr}{H:Hp}{st:Sto}{xs:List D}{vs:List V}{p:Addr}{Q:VK}(W:WR X.K O H st)(r:Reps X.K O H xs vs)(hp:H p=none)(R:Run X.K EX O H (.ok (.lst xs) st) (Val X.K Q)):Q (.ref p) (upd H p (.lst vs)):=by
 refine R O (upd H p (.lst vs)) (Keep.laid hp) (W.laid hp) _ (Rep.lst_i.mpr ⟨p,vs,rfl,fun hm => ?_,Zai,Reps.mono (Keep.laid hp) _ _ r⟩);obtain⟨i,hi⟩:=WZ.mp hm;exact W.ne hi hp rfl
theorem Zak{es:List Expr}{x1}{g:DA}(h:PDA X EX es g):PD X EX (.Tuple es x1 pos) (ZW g):=by
 refine PE.mono (ZoX h) ?_;rintro σ H Q ⟨O,ρ,st,W,E,R⟩;refine⟨O,ρ,st,W,E,R.bind.mono fun xs st1 O1 H1 k1 W1 R1 vs r => ?_⟩;by_cases hz:xs.length<=small
 ·rw[Yg hz] at R1;exact⟨by rw[<-r.length]; exact YI hz ZaM,fun p hp=>Zez W1 r hp R1⟩
 ·rw[Yh hz] at R1;exact R1.elim
theorem Zaz{es:List Expr}{g:DA}(h:PDA X EX es g):PDF X EX (.List es pos) (Z6 g):=by
 refine PE.mono (ZoY h) ?_;rintro σ H Q ⟨O,ρ,st,W,E,R⟩;refine⟨O,ρ,st,W,E,R.bind.mono fun xs st1 O1 H1 k1 W1 R1 vs r => ?_⟩;by_cases hz:xs.length<=small
 ·rw[Yg hz] at R1;exact⟨by rw[<-r.length]; exact YI hz ZaM,fun p hp=>Run.now (k:=New X.K Q) R1 W1 p vs r hp⟩
 ·rw[Yh hz] at R1;exact R1.elim
def dF(f:DA):DE:=fun ρ st=>(f ρ st).bind fun xs st1 => .ok (.lst xs) st1
theorem Zaa{f:DA}(h:PDF X EX e f):PD X EX e (dF f):=by
 refine PE.mono h ?_;rintro σ H Q ⟨O,ρ,st,W,E,R⟩;exact⟨O,ρ,st,W,E,R.bind.mono fun xs st1 O1 H1 k1 W1 R1 p vs r hp=>Zs5 W1 r hp R1⟩
end
end DL
end
section
namespace HT
open PySem PyProof.Rows
section
open PySem.SeqAt
open PySem.AutoSeq1 (wpAny_loadPart')
open PySem.MeetsSeq PySem.MeetsSeq2 PySem.MeetsSeq3
variable{prog:P5}{w:World}{A:P4}{E:P7->P1->Prop}{s:P1}
theorem cat_tup0{t b:Addr}{ws:List P7}{Q:P7->P1->Prop}(ht:IsTup s.heap t #[])(hb:IsTup s.heap b ws.toArray)(h:Q (.ref b) s):wpAny (model prog w) A (binaryOp .Add (.ref t) (.ref b)) Q E s:=by
 obtain⟨⟨cls,dd,data,sl⟩,ho,hc,n,hd⟩:=id ht;obtain⟨⟨cls2,dd2,data2,sl2⟩,ho2,hc2,n2,hd2⟩:=id hb;simp only at hc hd hc2 hd2;subst hc hd hc2 hd2;exact concat_meets ⟨_,ho,rfl⟩ ⟨_,ho2,rfl⟩ Up seq_tuple_add Vv Vn (Vf _ _)
   (tuple_addW0 t b #[] ws.toArray n n2 dd dd2 sl sl2 rfl) ⟨ho,ho2,h⟩
theorem getItem_tuple_whole{t sl:Addr}{items:Array P7}{vl vu:P7}{lo hi:Option Int}{Q:P7->P1->Prop}(ht:IsTup s.heap t items)(hs:s.heap.IsSliceOf sl vl vu .none)(pl:IsPart vl lo)(pu:IsPart vu hi)
  (hw:sIx items.size 0 lo=0/\sIx items.size items.size hi=items.size) (h:Q (.ref t) s):wpAny (model prog w) A (getItem (.ref t) (.ref sl)) Q E s:=by
 obtain⟨os,hos,hcs,hds⟩:=id hs;have hTs:s.TypeIs (.ref sl) "slice":=⟨os,hos,hcs⟩;unfold getItem
 try with_reducible refine YM ?_
 first | refine Ya (Yb ?_) | skip
 refine Ya (wpAny_sequenceKey ht.typeIs (by decide) ?_);refine Ya (Wl (name:=Str.ofString "__getitem__") ht.typeIs Wj
  (YU Wj ht.typeIs entry_tuple_getitem ?_ (args_tuple_getitem _ _)))
 show wpAny _ _ (Builtin.Tuple.tupleItemsOf (.ref t) >>= _) _ _ s;refine Ya (tupleItemsOf_ ht ?_);refine Ya (Qj hTs ?_);rw[Yg (by decide)];refine Ya (Zir hs pl pu ?_);have hyes:((((sIx items.size 0 lo:Nat):Int) == 0 && (1:Int) == 1 && (sIx items.size items.size hi - sIx items.size 0 lo) == items.size)=true):=by
  rw[hw.1,hw.2];simp
 show wpAny _ _ (if (((sIx items.size 0 lo:Nat):Int) == 0 && (1:Int) == 1 && (sIx items.size items.size hi - sIx items.size 0 lo) == items.size)=true then _ else _) _ _ s;rw[Yg hyes];unfold Builtin.Tuple.tupleIsExact;refine Ya (Ya (Qj ht.typeIs (Yb ?_)));rw[Yg (by decide)];refine Ya (Wg ?_)
 first
  | exact Ya (Yb (Yb ⟨_,rfl,Yb h⟩))
  | exact Ya (Ya (Yb (Yb ⟨_,rfl,Yb h⟩)))
  | exact Yb ⟨_,rfl,Yb h⟩
end
end HT
namespace DL
open PySem PySem.Spec PyProof.Rows L2
section
variable{X:Cx}{EX:EXT}
def ZE:D->D->Sto->Out D
 | .int a,.int b,st => .ok (.int (a+b)) st
 | .str a,.str b,st=>if a.length+b.length<=small then .ok (.str (a++b)) st else .bad
 | .tup xs,.tup ys,st=>if xs.length+ys.length<=small then .ok (.tup (xs++ys)) st else .bad
 | _,_,_ => .bad
theorem Zad:OpD X EX (binaryOp .Add) ZE:=by
 intro pins s σ H x y v u Q I rx ry h;obtain⟨O,a,b,st,W,ra,rb,R⟩:=h;cases a <;> cases b <;> first | exact R.elim | skip
 case int.int i j =>
  rw[Rep.int_i] at ra rb;subst ra rb;exact Zol pins s σ H _ _ v u Q I rx ry ⟨i,j,rfl,rfl,Run.now (k:=Val X.K Q) R W _ (Rep.int_i.mpr rfl)⟩
 case str.str i j =>
  rw[Rep.str_i] at ra rb;subst ra rb;dsimp only[ZE] at R;by_cases hz:i.length+j.length<=small
  ·rw[Yg hz] at R;exact ZkP pins s σ H _ _ v u Q I rx ry ⟨i,j,rfl,rfl,YI hz ZaM,Run.now (k:=Val X.K Q) R W _ (Rep.str_i.mpr rfl)⟩
  ·rw[Yh hz] at R; exact R.elim
 case tup.tup xs ys =>
  dsimp only[ZE] at R;by_cases hz:xs.length+ys.length<=small
  ·rw[Yg hz] at R;rw[Rep.tup_i] at ra rb;obtain⟨a,vs,rfl,q1,r1⟩:=ra;obtain⟨b,ws,rfl,q2,r2⟩:=rb;by_cases h0:xs=[]
   ·subst h0;rw[Reps.nil_i] at r1;subst r1;cases rx;cases ry;obtain⟨its,v1,p1,_⟩:=I.tuple (SqT.of q1);obtain⟨its2,v2,p2,_⟩:=I.tuple (SqT.of q2);cases v1;exact HT.cat_tup0 p1 p2 ⟨.ref b,H,I,rfl,Run.now (k:=Val X.K Q) R W _ (Rep.tup_i.mpr ⟨b,ws,rfl,q2,r2⟩)⟩
   ·refine ZsY pins s σ H _ _ v u Q I rx ry ⟨a,b,vs,ws,rfl,rfl,SqT.of q1,SqT.of q2,fun z=>h0 ?_,?_,fun z => ?_,fun z p hp => ?_⟩
    ·have:=r1.length; rw[z] at this; exact Wm.mp this
    ·rw[<-r1.length,<-r2.length]; exact YI hz ZaM
    ·have e:ys=[]:=by have:=r2.length; rw[z] at this; exact Wm.mp this
     subst e;rw[Wo] at R;exact Run.now (k:=Val X.K Q) R W _ (Rep.tup_i.mpr ⟨a,vs,rfl,q1,r1⟩)
    ·exact Zez W (r1.append r2) hp R
  ·rw[Yh hz] at R; exact R.elim
def Zdn(a b:D)(st:Sto):Out (List D):=match Za8 st a,Za8 st b with
 | some xs,some ys=>if xs.length+ys.length<=small then .ok (xs++ys) st else .bad
 | _,_ => .bad
theorem Zqu:OpF X EX (binaryOp .Add) Zdn:=by
 intro pins s σ H x y v u Q I rx ry h;obtain⟨O,a,b,st,W,ra,rb,R⟩:=h;unfold Zdn at R;cases ea:Za8 st a with
 | none=>rw[ea] at R; exact R.elim
 | some xs =>
  cases eb:Za8 st b with
  | none=>rw[ea,eb] at R; exact R.elim
  | some ys =>
   rw[ea,eb] at R;dsimp only at R;by_cases hz:xs.length+ys.length<=small
   ·rw[Yg hz] at R;obtain⟨p1,vs,rfl,q1,r1⟩:=rdO W ra ea;obtain⟨p2,ws,rfl,q2,r2⟩:=rdO W rb eb;exact Zpf pins s σ H _ _ v u Q I rx ry ⟨p1,p2,vs,ws,rfl,rfl,q1,q2,by rw[<-r1.length,<-r2.length]; exact YI hz ZaM,fun p hp=>Run.now (k:=New X.K Q) R W p _ (r1.append r2) hp⟩
   ·rw[Yh hz] at R; exact R.elim
def intOp(C:Int->Int->Bool)(g:Int->Int->Int):D->D->Sto->Out D
 | .int a,.int b,st=>if C a b=true then .ok (.int (g a b)) st else .bad
 | _,_,_ => .bad
theorem Zf0{f:P7->P7->Sem P7}{C:Int->Int->Bool}{P:Int->Int->Prop}{g:Int->Int->Int}(h:OpR X f (rI P fun i j => .int (g i j)))(hC:∀i j,C i j=true->P i j):OpD X EX f (intOp C g):=by
 intro pins s σ H x y v u Q I rx ry h';obtain⟨O,a,b,st,W,ra,rb,R⟩:=h';cases a <;> cases b <;> first | exact R.elim | skip
 rename_i i j;rw[Rep.int_i] at ra rb;subst ra rb;dsimp only[intOp] at R;by_cases hz:C i j=true
 ·rw[Yg hz] at R;exact h pins s σ H _ _ v u Q I rx ry ⟨i,j,rfl,rfl,hC i j hz,Run.now (k:=Val X.K Q) R W _ (Rep.int_i.mpr rfl)⟩
 ·rw[Yh hz] at R; exact R.elim
def ZbF:D->D->Sto->Out D
 | .int a,.int b,st => .ok (.int (a - b)) st
 | _,_,_ => .bad
theorem ZgO:OpD X EX (binaryOp .Sub) ZbF:=by
 intro pins s σ H x y v u Q I rx ry h;obtain⟨O,a,b,st,W,ra,rb,R⟩:=h;cases a <;> cases b <;> first | exact R.elim | skip
 rename_i i j;rw[Rep.int_i] at ra rb;subst ra rb;exact ZrC pins s σ H _ _ v u Q I rx ry ⟨i,j,rfl,rfl,Run.now (k:=Val X.K Q) R W _ (Rep.int_i.mpr rfl)⟩
def Zcd(i j:Int):Bool:=(decide (-(2 ^ 64)<i) && decide (i<2 ^ 64)) || (decide (-(2 ^ 64)<j) && decide (j<2 ^ 64))
def ZaB:D->D->Sto->Out D:=intOp Zcd fun i j=>i * j
theorem Zck:OpD X EX (binaryOp .Mult) ZaB:=Zf0 ZnC fun i j h=>by
 unfold Zcd at h;rw[VW,Y2,Y2] at h;rcases h with⟨h1,h2⟩ | ⟨h1,h2⟩
 ·exact .inl ⟨Qc h1,Qc h2⟩
 ·exact .inr ⟨Qc h1,Qc h2⟩
def ZkL(_ j:Int):Bool:=@decide (0<j/\j<1073741824) (Classical.propDecidable _)
def Zcr:D->D->Sto->Out D:=intOp ZkL fun i j=>i / j
theorem Ze4:OpD X EX (binaryOp .FloorDiv) Zcr:=Zf0 ZpJ fun i j h => @Qc (0<j/\j<1073741824) (Classical.propDecidable _) h
def Zbt:D->D->Sto->Out D:=intOp (fun _ j=>decide (0<j)) fun i j=>i % j
theorem ZcW:OpD X EX (binaryOp .Mod) Zbt:=Zf0 ZpS fun i j h=>Qc h
def depth:Nat:=50
def eqD(a b:D)(st:Sto):Out D:=match eqN st depth a b with
 | some k => .ok (.bl k) st
 | none => .bad
def neD(a b:D)(st:Sto):Out D:=match eqN st depth a b with
 | some k => .ok (.bl (!k)) st
 | none => .bad
theorem ZaN(hu:X.A.units+64<cLine):OpD X EX (compareOp .Eq) eqD:=by
 intro pins s σ H x y v u Q I rx ry h;obtain⟨O,a,b,st,W,ra,rb,R⟩:=h;unfold eqD at R;cases e:eqN st depth a b with
 | none=>rw[e] at R; exact R.elim
 | some k =>
  rw[e] at R;have h:=(Zfh I W depth a b k e X.A x y v u ra rb rx ry (by show X.A.units+50<cLine; omega)).2.1;exact h X.prog X.w X.xe _ ⟨.bl k,H,I,rfl,Run.now (k:=Val X.K Q) R W _ (Rep.bl_i.mpr rfl)⟩
theorem Zbl(hu:X.A.units+64<cLine):OpD X EX (compareOp .NotEq) neD:=by
 intro pins s σ H x y v u Q I rx ry h;obtain⟨O,a,b,st,W,ra,rb,R⟩:=h;unfold neD at R;cases e:eqN st depth a b with
 | none=>rw[e] at R; exact R.elim
 | some k =>
  rw[e] at R;have h:=(Zfh I W depth a b k e X.A x y v u ra rb rx ry (by show X.A.units+50<cLine; omega)).2.2;exact h X.prog X.w X.xe _ ⟨.bl (!k),H,I,rfl,Run.now (k:=Val X.K Q) R W _ (Rep.bl_i.mpr rfl)⟩
def ZaY(g:Int->Int->Bool):D->D->Sto->Out D
 | .int a,.int b,st => .ok (.bl (g a b)) st
 | _,_,_ => .bad
theorem Zkl{f:P7->P7->Sem P7}{g:Int->Int->Bool}(h:OpR X f (rI0 fun i j => .bl (g i j))):OpD X EX f (ZaY g):=by
 intro pins s σ H x y v u Q I rx ry h';obtain⟨O,a,b,st,W,ra,rb,R⟩:=h';cases a <;> cases b <;> first | exact R.elim | skip
 rename_i i j;rw[Rep.int_i] at ra rb;subst ra rb;exact h pins s σ H _ _ v u Q I rx ry ⟨i,j,rfl,rfl,Run.now (k:=Val X.K Q) R W _ (Rep.bl_i.mpr rfl)⟩
def ltD:=ZaY fun i j=>decide (i<j)
def leD:=ZaY fun i j=>decide (i<=j)
def gtD:=ZaY fun i j=>decide (j<i)
theorem ZnR:OpD X EX (compareOp .Lt) ltD:=Zkl Zlq
theorem Ze9:OpD X EX (compareOp .Gt) gtD:=Zkl ZqI
def isN:D->Bool
 | .non=>true
 | _=>false
def isD:D->D->Sto->Out D
 | a,.non,st => .ok (.bl (isN a)) st
 | _,_,_ => .bad
def Zcw:D->D->Sto->Out D
 | a,.non,st => .ok (.bl (!isN a)) st
 | _,_,_ => .bad
theorem Zj6{K:P3}{O:List Addr}{H:Hp}{d:D}{v:V}(r:Rep K O H d v):decide (v = .non)=isN d:=by
 cases d with
 | non=>rw[Rep.non_i] at r; subst r; rfl
 | bl b=>rw[Rep.bl_i] at r; subst r; rfl
 | int b=>rw[Rep.int_i] at r; subst r; rfl
 | str b=>rw[Rep.str_i] at r; subst r; rfl
 | tup ds=>rw[Rep.tup_i] at r; obtain⟨a,_,rfl,_⟩:=r; rfl
 | lst ds=>rw[Rep.lst_i] at r; obtain⟨a,_,rfl,_⟩:=r; rfl
 | scr ds=>rw[Rep.scr_i] at r; obtain⟨a,_,rfl,_⟩:=r; rfl
 | res i=>rw[Rep.res_i] at r; obtain⟨a,rfl,_⟩:=r; rfl
 | exv C=>rw[Rep.exv_i] at r; obtain⟨a,rfl,_⟩:=r; rfl
theorem ZeA:OpD X EX (compareOp .Is) isD:=by
 intro pins s σ H x y v u Q I rx ry h;obtain⟨O,a,b,st,W,ra,rb,R⟩:=h;cases b <;> first | (simp only[isD] at R; exact R.elim) | skip
 rw[Rep.non_i] at rb;exact Zo7 pins s σ H x y v u Q I rx ry ⟨rb,by rw[Zj6 ra]; exact Run.now (k:=Val X.K Q) (by cases a <;> exact R) W _ (Rep.bl_i.mpr rfl)⟩
theorem ZjH:OpD X EX (compareOp .IsNot) Zcw:=by
 intro pins s σ H x y v u Q I rx ry h;obtain⟨O,a,b,st,W,ra,rb,R⟩:=h;cases b <;> first | (simp only[Zcw] at R; exact R.elim) | skip
 rw[Rep.non_i] at rb;exact ZpY pins s σ H x y v u Q I rx ry ⟨rb,by rw[Zj6 ra]; exact Run.now (k:=Val X.K Q) (by cases a <;> exact R) W _ (Rep.bl_i.mpr rfl)⟩
def inN(st:Sto)(n:Nat)(x:D):List D->Option Bool
 | []=>some false
 | y :: ys=>match eqN st n y x,inN st n x ys with
  | some a,some b=>some (a || b)
  | _,_=>none
def itemsOf(st:Sto):D->Option (List D)
 | .tup xs=>some xs
 | d=>ZN st d
def inD(x c:D)(st:Sto):Out D:=match itemsOf st c with
 | some ys=>match inN st depth x ys with
  | some k => .ok (.bl k) st
  | none => .bad
 | none => .bad
def ZbS(x c:D)(st:Sto):Out D:=match itemsOf st c with
 | some ys=>match inN st depth x ys with
  | some k => .ok (.bl (!k)) st
  | none => .bad
 | none => .bad
open Classical in
theorem Zc7{pins:List (Addr×Obj)}{σ:L2.St}{s:P1}{O:List Addr}{H:Hp}{st:Sto}(I:Inv X pins σ H s)(W:WR X.K O H st){x:D}{vx:V}{ux:P7}(rx:Rep X.K O H x vx)(qx:RelV vx ux){A:P4}(hA:A.units+depth<cLine) :
  ∀{ys:List D} {vs:List V} {its:List P7} {k:Bool},inN st depth x ys=some k->Reps X.K O H ys vs->Vals vs its ->
   ∃e:P7->Bool,(∀z,e z=decide (∃d v,Rep X.K O H d v/\RelV v z/\eqN st depth d x=some true))/\(∀z∈its,SeqAt.EqAt A s z ux (e z))/\its.any e=k
 | [],vs,its,k,h,r,q=>by
  rw[Reps.nil_i] at r;subst r;cases q;simp only[inN,YE] at h;subst h;exact⟨fun z=>decide (∃d v,Rep X.K O H d v/\RelV v z/\eqN st depth d x=some true),fun _=>rfl,(fun z hz=>(by cases hz)),rfl⟩
 | y :: ys,vs,its,k,h,r,q=>by
  obtain⟨v,vs',rfl,ry,rs⟩:=Reps.cons_i.mp r;cases q with
  | cons q1 q2 =>
   rename_i u us;unfold inN at h;cases e1:eqN st depth y x with
   | none=>rw[e1] at h; cases h
   | some a =>
    cases e2:inN st depth x ys with
    | none=>rw[e1,e2] at h; cases h
    | some b =>
     rw[e1,e2] at h;simp only[YE] at h;obtain⟨e,he,h1,h2⟩:=Zc7 I W rx qx hA e2 rs q2;have hu:e u=a:=by
      rw[he u];cases a with
      | true=>exact Yv ⟨y,v,ry,q1,e1⟩
      | false =>
       refine YA ?_;rintro⟨d,v',r',q',e'⟩;have ev:v'=v:=q'.inj q1;subst ev;have ed:=Rep.inj I W d y v' r' ry;subst ed;rw[e1] at e';cases e'
     refine⟨e,he,fun z hz => ?_,?_⟩
     ·rcases Yn.mp hz with rfl | hz
      ·rw[hu];exact (Zfh I W depth y x a e1 A v vx z ux ry rx q1 qx hA).1
      ·exact h1 z hz
     ·rw[Q6,hu,h2];exact h
theorem ZdP{A:P4}(hu:A.units+64<cLine):A.in1.units+depth<cLine:=by
 show A.units+1+50<cLine;omega
theorem Zrr(hu:X.A.units+64<cLine):OpD X EX (compareOp .In) inD:=by
 intro pins s σ H x y v u Q I rx ry h;obtain⟨O,a,b,st,W,ra,rb,R⟩:=h;unfold inD at R;cases e1:itemsOf st b with
 | none=>rw[e1] at R; exact R.elim
 | some ys =>
  rw[e1] at R;dsimp only at R;cases e2:inN st depth a ys with
  | none=>rw[e2] at R; exact R.elim
  | some k =>
   rw[e2] at R;have fin:EP X pins σ Q (.bool k) s:=⟨.bl k,H,I,rfl,Run.now (k:=Val X.K Q) R W _ (Rep.bl_i.mpr rfl)⟩;by_cases hb:∃zs,b = .tup zs
   ·obtain⟨zs,rfl⟩:=hb;simp only[itemsOf,YE] at e1;subst e1;rw[Rep.tup_i] at rb;obtain⟨p,vs,rfl,q,r⟩:=rb;cases ry;obtain⟨its,hv,hp,_⟩:=I.tuple (SqT.of q);obtain⟨e,_,h1,h2⟩:=Zc7 I W ra rx (ZdP hu) e2 r hv;exact SeqAt.in_tupleAt e hp (fun z hz=>h1 z (by simpa using hz)) (by simpa[h2] using fin)
   ·have e3:ZN st b=some ys:=by
     cases b <;> first | exact e1 | exact absurd ⟨_,rfl⟩ hb
    obtain⟨p,vs,rfl,q,r⟩:=rdL W rb e3;cases ry;obtain⟨its,hv,hp,_⟩:=I.list q;obtain⟨e,_,h1,h2⟩:=Zc7 I W ra rx (ZdP hu) e2 r hv;exact SeqAt.in_listAt e hp.isList (fun z hz=>h1 z (by simpa using hz)) (by simpa[h2] using fin)
theorem Zfx(hu:X.A.units+64<cLine):OpD X EX (compareOp .NotIn) ZbS:=by
 intro pins s σ H x y v u Q I rx ry h;obtain⟨O,a,b,st,W,ra,rb,R⟩:=h;unfold ZbS at R;cases e1:itemsOf st b with
 | none=>rw[e1] at R; exact R.elim
 | some ys =>
  rw[e1] at R;dsimp only at R;cases e2:inN st depth a ys with
  | none=>rw[e2] at R; exact R.elim
  | some k =>
   rw[e2] at R;have fin:EP X pins σ Q (.bool (!k)) s:=⟨.bl (!k),H,I,rfl,Run.now (k:=Val X.K Q) R W _ (Rep.bl_i.mpr rfl)⟩;by_cases hb:∃zs,b = .tup zs
   ·obtain⟨zs,rfl⟩:=hb;simp only[itemsOf,YE] at e1;subst e1;rw[Rep.tup_i] at rb;obtain⟨p,vs,rfl,q,r⟩:=rb;cases ry;obtain⟨its,hv,hp,_⟩:=I.tuple (SqT.of q);obtain⟨e,_,h1,h2⟩:=Zc7 I W ra rx (ZdP hu) e2 r hv;exact SeqAt.notIn_tupleAt e hp (fun z hz=>h1 z (by simpa using hz)) (by simpa[h2] using fin)
   ·have e3:ZN st b=some ys:=by
     cases b <;> first | exact e1 | exact absurd ⟨_,rfl⟩ hb
    obtain⟨p,vs,rfl,q,r⟩:=rdL W rb e3;cases ry;obtain⟨its,hv,hp,_⟩:=I.list q;obtain⟨e,_,h1,h2⟩:=Zc7 I W ra rx (ZdP hu) e2 r hv;exact SeqAt.notIn_listAt e hp.isList (fun z hz=>h1 z (by simpa using hz)) (by simpa[h2] using fin)
end
end DL
end
section
namespace DL
open PySem PySem.Spec PyProof.Rows L2
section
variable{X:Cx}{EX:EXT}{a b c e:Expr}{fa fb fc:DE}{pos p2:Pos}{ta tb:DT}
noncomputable abbrev DO:=Ev->Sto->Out (Option Int)
def tDO(K:P3)(EX:EXT)(f:DO):TO:=fun σ H Q => ∃O ρ st,WR K O H st/\REnv K O H ρ σ/\Run K EX O H (f ρ st) (fun o _ _ H'=>Q o H')
def PDO(X:Cx)(EX:EXT)(e:Option Expr)(f:DO):Prop:=PO X e (tDO X.K EX f)
def Zbs:DO:=fun _ st => .ok none st
def Zfw:D->Sto->Out (Option Int)
 | .int i,st => .ok (some i) st
 | _,_ => .bad
def Zbk(f:DE):DO:=fun ρ st=>(f ρ st).bind Zfw
theorem PO.mono{e:Option Expr}{t t':TO}(h:PO X e t)(f:∀σ H Q,t' σ H Q->t σ H Q):PO X e t':=fun pins s σ H Q I q=>h pins s σ H Q I (f σ H Q q)
theorem Ze2:PDO X EX none Zbs:=by
 refine PO.mono ZlS ?_;rintro σ H Q ⟨O,ρ,st,W,E,R⟩;exact Run.now (k:=fun o _ _ H'=>Q o H') R W
theorem ZeG{f:DE}(h:PD X EX e f):PDO X EX (some e) (Zbk f):=by
 refine PO.mono (Zp7 h) ?_;rintro σ H Q ⟨O,ρ,st,W,E,R⟩;refine⟨O,ρ,st,W,E,R.bind.mono fun d st1 O1 H1 k1 W1 R1 v r => ?_⟩;cases d with
 | int i=>exact⟨i,Rep.int_i.mp r,Run.now (k:=fun o _ _ H'=>Q o H') R1 W1⟩
 | _=>exact R1.elim
def Zax{α:Type}(xs:List α)(lo hi:Option Int):List α:=(xs.drop (HT.sIx xs.length 0 lo)).take (HT.sIx xs.length xs.length hi - HT.sIx xs.length 0 lo)
theorem Reps.cut{K:P3}{O:List Addr}{H:Hp}{ds:List D}{vs:List V}(r:Reps K O H ds vs)(lo hi:Option Int):Reps K O H (Zax ds lo hi) (ZbZ vs lo hi):=by
 unfold Zax ZbZ;rw[r.length];exact (r.drop _).take _
def rDS(K:P3)(EX:EXT)(g:D->Option Int->Option Int->Sto->Out D):V->Option Int->Option Int->Hp->VK->Prop:=fun x lo hi H Q => ∃O d st,WR K O H st/\Rep K O H d x/\Run K EX O H (g d lo hi st) (Val K Q)
def Zj9(K:P3)(EX:EXT)(g:D->Option Int->Option Int->Sto->Out (List D)):V->Option Int->Option Int->Hp->VK->Prop:=fun x lo hi H Q => ∃O d st,WR K O H st/\Rep K O H d x/\Run K EX O H (g d lo hi st) (New K Q)
def dSl{α:Type}(g:D->Option Int->Option Int->Sto->Out α)(f:DE)(l h:DO):Ev->Sto->Out α:=fun ρ st=>(f ρ st).bind fun x st1=>(l ρ st1).bind fun lo st2=>(h ρ st2).bind fun hi st3=>g x lo hi st3
theorem Zjd{g:D->Option Int->Option Int->Sto->Out D}{lo hi:Option Expr}{fl fh:DO}(hr:SlR X (rDS X.K EX g))(he:PD X EX e fa)(hl:PDO X EX lo fl)(hh:PDO X EX hi fh):PD X EX (.Subscript e (.Slice lo hi none p2) pos) (dSl g fa fl fh):=by
 refine PE.mono (ZjT hr he hl hh) ?_;rintro σ H Q ⟨O,ρ,st,W,E,R⟩;refine⟨O,ρ,st,W,E,R.bind.mono fun x st1 O1 H1 k1 W1 R1 v r => ?_⟩;refine⟨O1,ρ,st1,W1,E.mono k1,R1.bind.mono fun lo st2 O2 H2 k2 W2 R2 => ?_⟩;refine⟨O2,ρ,st2,W2,E.mono (k1.trans k2),R2.bind.mono fun hi st3 O3 H3 k3 W3 R3 => ?_⟩;exact⟨O3,x,st3,W3,Rep.mono (k2.trans k3) x v r,R3⟩
theorem Zjg{g:D->Option Int->Option Int->Sto->Out (List D)}{lo hi:Option Expr}{fl fh:DO}(hr:SlR X (Zj9 X.K EX g))(he:PD X EX e fa)(hl:PDO X EX lo fl)(hh:PDO X EX hi fh):PDF X EX (.Subscript e (.Slice lo hi none p2) pos) (dSl g fa fl fh):=by
 refine PE.mono (ZjT hr he hl hh) ?_;rintro σ H Q ⟨O,ρ,st,W,E,R⟩;refine⟨O,ρ,st,W,E,R.bind.mono fun x st1 O1 H1 k1 W1 R1 v r => ?_⟩;refine⟨O1,ρ,st1,W1,E.mono k1,R1.bind.mono fun lo st2 O2 H2 k2 W2 R2 => ?_⟩;refine⟨O2,ρ,st2,W2,E.mono (k1.trans k2),R2.bind.mono fun hi st3 O3 H3 k3 W3 R3 => ?_⟩;exact⟨O3,x,st3,W3,Rep.mono (k2.trans k3) x v r,R3⟩
def ZbU:D->Option Int->Option Int->Sto->Out D
 | .tup xs,lo,hi,st => .ok (.tup (Zax xs lo hi)) st
 | _,_,_,_ => .bad
theorem Zhv:SlR X (rDS X.K EX ZbU):=by
 intro pins s σ H x v vl vu lo hi sl Q I rx hs pl pu h;obtain⟨O,d,st,W,r,R⟩:=h;cases d with
 | tup xs =>
  rw[Rep.tup_i] at r;obtain⟨a,vs,rfl,q,rs⟩:=r;by_cases hw:HT.sIx vs.length 0 lo=0/\HT.sIx vs.length vs.length hi=vs.length
  ·cases rx;obtain⟨its,hv,ht,hz⟩:=I.tuple (SqT.of q);have hlen:its.toArray.size=vs.length:=by rw[Yu]; exact hv.length.symm
   refine⟨"tuple",_,Wj.lookup,ht.typeIs,HT.getItem_tuple_whole ht hs pl pu (by rw[hlen]; exact hw) ?_⟩;have e:Zax xs lo hi=xs:=by
    unfold Zax;rw[rs.length,hw.1,hw.2,Vl,Nat.sub_zero,<-rs.length,VD]
   refine⟨.ref a,H,I,rfl,?_⟩;dsimp only[ZbU] at R;rw[e] at R;exact Run.now (k:=Val X.K Q) R W _ (Rep.tup_i.mpr ⟨a,vs,rfl,q,rs⟩)
  ·exact ZrL pins s σ H _ v vl vu lo hi sl Q I rx hs pl pu ⟨a,vs,rfl,SqT.of q,hw,fun p hp=>Zez W (rs.cut lo hi) hp R⟩
 | _=>exact R.elim
def ZaT(d:D)(lo hi:Option Int)(st:Sto):Out (List D):=match ZN st d with
 | some xs => .ok (Zax xs lo hi) st
 | none => .bad
theorem ZiA:SlR X (Zj9 X.K EX ZaT):=by
 intro pins s σ H x v vl vu lo hi sl Q I rx hs pl pu h;obtain⟨O,d,st,W,r,R⟩:=h;unfold ZaT at R;cases e:ZN st d with
 | none=>rw[e] at R; exact R.elim
 | some xs =>
  rw[e] at R;obtain⟨a,vs,rfl,q,rs⟩:=rdL W r e;exact Zqf pins s σ H _ v vl vu lo hi sl Q I rx hs pl pu ⟨a,vs,rfl,q,fun p hp=>Run.now (k:=New X.K Q) R W p _ (rs.cut lo hi) hp⟩
def ixD(d:D)(i:D)(st:Sto):Out D:=match i with
 | .int k=>match d with
  | .str z=>if z.length<=small then (match atI z.cps.toList k with
   | some c => .ok (.str ⟨#[c]⟩) st
   | none => .bad) else .bad
  | _=>match itemsOf st d with
   | some xs=>match atI xs k with
    | some x => .ok x st
    | none => .bad
   | none => .bad
 | _ => .bad
theorem Reps.atI{K:P3}{O:List Addr}{H:Hp}{ds:List D}{vs:List V}{k:Int}{d:D}(r:Reps K O H ds vs)(h:L2.atI ds k=some d):∃v,L2.atI vs k=some v/\Rep K O H d v:=by
 unfold L2.atI at h ⊢;rw[<-r.length];cases e:ixN ds.length k with
 | none=>rw[e] at h; cases h
 | some j =>
  rw[e] at h;obtain⟨v,h1,h2⟩:=r.get (i:=j) (d:=d) h;exact⟨v,h1,h2⟩
theorem Zk2:IxR X (rD2 X.K EX ixD):=by
 intro value slice pins s σ H x y v u Q I rx ry h hsub;obtain⟨O,d,i,st,W,rd,ri,R⟩:=h;cases i with
 | int k =>
  rw[Rep.int_i] at ri;subst ri;have seq:∀xs,itemsOf st d=some xs->Run X.K EX O H (match L2.atI xs k with
    | some x => .ok x st
    | none => .bad) (Val X.K Q)->wpAny (model X.prog X.w) X.A (subscriptTail value slice v u) (EP X pins σ Q) X.xe s:=by
   intro xs e1 R';clear R;cases e2:L2.atI xs k with
   | none=>rw[e2] at R'; exact R'.elim
   | some z =>
    rw[e2] at R';by_cases hb:∃zs,d = .tup zs
    ·obtain⟨zs,rfl⟩:=hb;simp only[itemsOf,YE] at e1;subst e1;rw[Rep.tup_i] at rd;obtain⟨p,vs,rfl,q,r⟩:=rd;obtain⟨w,h1,h2⟩:=r.atI e2;exact ZnP value slice pins s σ H _ _ v u Q I rx ry ⟨p,vs,k,w,rfl,rfl,SqT.of q,h1,Run.now (k:=Val X.K Q) R' W _ h2⟩ hsub
    ·have e3:ZN st d=some xs:=by
      cases d <;> first | exact e1 | exact absurd ⟨_,rfl⟩ hb
     obtain⟨p,vs,rfl,q,r⟩:=rdL W rd e3;obtain⟨w,h1,h2⟩:=r.atI e2;exact ZrJ value slice pins s σ H _ _ v u Q I rx ry ⟨p,vs,k,w,rfl,rfl,q,h1,Run.now (k:=Val X.K Q) R' W _ h2⟩ hsub
  cases d with
  | str z =>
   rw[Rep.str_i] at rd;subst rd;dsimp only[ixD] at R;by_cases hz:z.length<=small
   ·rw[Yg hz] at R;cases e:L2.atI z.cps.toList k with
    | none=>rw[e] at R; exact R.elim
    | some c =>
     rw[e] at R;exact Zp8 value slice pins s σ H _ _ v u Q I rx ry ⟨z,k,c,rfl,rfl,YI hz ZaM,e,Run.now (k:=Val X.K Q) R W _ (Rep.str_i.mpr rfl)⟩ hsub
   ·rw[Yh hz] at R; exact R.elim
  | tup xs=>exact seq xs rfl R
  | lst xs=>exact seq xs rfl R
  | scr xs=>exact seq xs rfl R
  | res j =>
   dsimp only[ixD] at R;cases e:itemsOf st (.res j) with
   | none=>rw[e] at R; exact R.elim
   | some xs=>rw[e] at R; exact seq xs e R
  | _=>exact R.elim
 | _=>exact R.elim
theorem Z4(ha:PD X EX a fa)(hb:PD X EX b fb)(hs:Zkh b:=by intro _ _; rfl):PD X EX (.Subscript a b pos) (Zg ixD fa fb):=PE.mono (Zr7 Zk2 ha hb hs) Zew
def Zj{α:Type}(g:List D->Sto->Out α)(f:DA):Ev->Sto->Out α:=fun ρ st=>(f ρ st).bind g
theorem Zgd{g:List D->Sto->Out D}{f:DA}:∀σ H Q,tD X.K EX (Zj g f) σ H Q->tCB (rDC X.K EX g) (tDA X.K EX f) σ H Q:=by
 rintro σ H Q ⟨O,ρ,st,W,E,R⟩;exact⟨O,ρ,st,W,E,R.bind.mono fun ds st1 O1 H1 k1 W1 R1 vs r=>⟨O1,ds,st1,W1,r,R1⟩⟩
theorem Zej{g:List D->Sto->Out (List D)}{f:DA}:∀σ H Q,tDF X.K EX (Zj g f) σ H Q->tCB (Zit X.K EX g) (tDA X.K EX f) σ H Q:=by
 rintro σ H Q ⟨O,ρ,st,W,E,R⟩;exact⟨O,ρ,st,W,E,R.bind.mono fun ds st1 O1 H1 k1 W1 R1 vs r=>⟨O1,ds,st1,W1,r,R1⟩⟩
theorem Zao{x:Str}{p:Pos}{es:List Expr}{id:String}{g:List D->Sto->Out D}{f:DA}(hc:Zdp X EX (.builtin id) g)(hg:Gl X x)(hm:X.mg x=none)(hv:bootBuiltins x=some (.builtin id))(ha:PDA X EX (e :: es) f)(hn:x≠"__name__":=by decide)(hdb:(x == ("__debug__" : Str))=false:=by decide)
  (he:starEach (e :: es) X.env=(false,eval e X.env) :: starEach es X.env:=by rfl) (hpl:(backTo pos (starEach es X.env)).any (·.1)=false:=by rfl):PD X EX (.Call (.Name x p) (e :: es) [] pos) (Zj g f):=PE.mono (Zjz hc hg hm hv ha hn hdb he hpl) Zgd
theorem Zd3{x:Str}{p:Pos}{es:List Expr}{T:String}{g:List D->Sto->Out D}{f:DA}(hc:Zdp X EX (.type T) g)(hg:Gl X x)(hm:X.mg x=none)(hv:bootBuiltins x=some (.type T))(ha:PDA X EX (e :: es) f)(hn:x≠"__name__":=by decide)(hdb:(x == ("__debug__" : Str))=false:=by decide)
  (he:starEach (e :: es) X.env=(false,eval e X.env) :: starEach es X.env:=by rfl) (hpl:(backTo pos (starEach es X.env)).any (·.1)=false:=by rfl):PD X EX (.Call (.Name x p) (e :: es) [] pos) (Zj g f):=PE.mono (Zif hc hg hm hv ha hn hdb he hpl) Zgd
theorem Zpw{x:Str}{p:Pos}{es:List Expr}{T:String}{g:List D->Sto->Out (List D)}{f:DA}(hc:Ze1 X EX (.type T) g)(hg:Gl X x)(hm:X.mg x=none)(hv:bootBuiltins x=some (.type T))(ha:PDA X EX (e :: es) f)(hn:x≠"__name__":=by decide)(hdb:(x == ("__debug__" : Str))=false:=by decide)
  (he:starEach (e :: es) X.env=(false,eval e X.env) :: starEach es X.env:=by rfl) (hpl:(backTo pos (starEach es X.env)).any (·.1)=false:=by rfl):PDF X EX (.Call (.Name x p) (e :: es) [] pos) (Zj g f):=PE.mono (Zif hc hg hm hv ha hn hdb he hpl) Zej
def ZA:List D->Sto->Out D
 | [.str x],st=>if x.length<=small then .ok (.int x.length) st else .bad
 | [d],st=>match itemsOf st d with
  | some xs => .ok (.int xs.length) st
  | none => .bad
 | _,_ => .bad
theorem Zf8{O:List Addr}{H:Hp}{st:Sto}(W:WR X.K O H st){d:D}{v:V}{xs:List D}(r:Rep X.K O H d v)(e:itemsOf st d=some xs):∃p vs,v = .ref p/\(SqL X.K H p vs\/H p=some (.tup vs))/\Reps X.K O H xs vs:=by
 by_cases hb:∃zs,d = .tup zs
 ·obtain⟨zs,rfl⟩:=hb;simp only[itemsOf,YE] at e;subst e;rw[Rep.tup_i] at r;obtain⟨p,vs,rfl,q,r⟩:=r;exact⟨p,vs,rfl,.inr q,r⟩
 ·have e3:ZN st d=some xs:=by
   cases d <;> first | exact e | exact absurd ⟨_,rfl⟩ hb
  obtain⟨p,vs,rfl,q,r⟩:=rdL W r e3;exact⟨p,vs,rfl,.inl q,r⟩
theorem Reps.one_of{K:P3}{O:List Addr}{H:Hp}{d:D}{vs:List V}(h:Reps K O H [d] vs):∃v,vs=[v]/\Rep K O H d v:=by
 obtain⟨v,r,rfl,q,t⟩:=Reps.cons_i.mp h;rw[Reps.nil_i] at t;subst t;exact⟨v,rfl,q⟩
theorem Zan:Zdp X EX (.builtin "len") ZA:=by
 intro pins s σ H xs us Q I rx h;obtain⟨O,ds,st,W,r,R⟩:=h
 match ds,r,R with
 | [],_,R=>exact R.elim
 | [d],r,R =>
  obtain⟨v,rfl,rv⟩:=r.one_of;have seq:∀zs,itemsOf st d=some zs->Run X.K EX O H (.ok (.int zs.length) st) (Val X.K Q)->wpAny (model X.prog X.w) X.A (PySem.call (.builtin "len") us) (EP X pins σ Q) X.xe s:=by
   intro zs e R;obtain⟨p,vs,rfl,q,rs⟩:=Zf8 W rv e;exact Zpx pins s σ H _ us Q I rx ⟨p,vs,rfl,q.imp_right SqT.of,by rw[<-rs.length]; exact Run.now (k:=Val X.K Q) R W _ (Rep.int_i.mpr rfl)⟩
  cases d with
  | str x =>
   rw[Rep.str_i] at rv;subst rv;dsimp only[ZA] at R;by_cases hz:x.length<=small
   ·rw[Yg hz] at R;exact ZqY pins s σ H _ us Q I rx ⟨x,rfl,YI hz ZaM,Run.now (k:=Val X.K Q) R W _ (Rep.int_i.mpr rfl)⟩
   ·rw[Yh hz] at R; exact R.elim
  | tup zs=>exact seq zs rfl R
  | lst zs=>exact seq zs rfl R
  | scr zs=>exact seq zs rfl R
  | res j =>
   dsimp only[ZA] at R;cases e:itemsOf st (.res j) with
   | none=>rw[e] at R; exact R.elim
   | some xs=>rw[e] at R; exact seq xs e R
  | _=>exact R.elim
 | d1 :: _ :: _,_,R=>cases d1 <;> exact R.elim
def ZdJ:List D->Sto->Out (List D)
 | [d],st=>match itemsOf st d with
  | some xs => .ok xs st
  | none => .bad
 | _,_ => .bad
def ZaW:List D->Sto->Out D
 | [d],st=>match itemsOf st d with
  | some xs => .ok (.tup xs) st
  | none => .bad
 | _,_ => .bad
theorem Zm2:Ze1 X EX (.type "list") ZdJ:=by
 intro pins s σ H xs us Q I rx h;obtain⟨O,ds,st,W,r,R⟩:=h
 match ds,r,R with
 | [],_,R=>exact R.elim
 | [d],r,R =>
  obtain⟨v,rfl,rv⟩:=r.one_of;dsimp only[ZdJ] at R;cases e:itemsOf st d with
  | none=>rw[e] at R; exact R.elim
  | some zs =>
   rw[e] at R;obtain⟨p,vs,rfl,q,rs⟩:=Zf8 W rv e;exact ZmX pins s σ H _ us Q I rx ⟨p,vs,rfl,q.imp_right SqT.of,fun l hl=>Run.now (k:=New X.K Q) R W l _ rs hl⟩
 | _ :: _ :: _,_,R=>exact R.elim
theorem ZgU:Zdp X EX (.type "tuple") ZaW:=by
 intro pins s σ H xs us Q I rx h;obtain⟨O,ds,st,W,r,R⟩:=h
 match ds,r,R with
 | [],_,R=>exact R.elim
 | [d],r,R =>
  obtain⟨v,rfl,rv⟩:=r.one_of;dsimp only[ZaW] at R;cases e:itemsOf st d with
  | none=>rw[e] at R; exact R.elim
  | some zs =>
   rw[e] at R;obtain⟨p,vs,rfl,q,rs⟩:=Zf8 W rv e;rcases q with q | q
   ·exact Zh0 pins s σ H _ us Q I rx ⟨p,vs,rfl,.inl ⟨q,fun l hl=>Zez W rs hl R⟩⟩
   ·exact Zh0 pins s σ H _ us Q I rx ⟨p,vs,rfl,.inr ⟨SqT.of q,Run.now (k:=Val X.K Q) R W _ (Rep.tup_i.mpr ⟨p,vs,rfl,q,rs⟩)⟩⟩
 | _ :: _ :: _,_,R=>exact R.elim
def intD:List D->Sto->Out D
 | [.int i],st => .ok (.int i) st
 | [.bl k],st => .ok (.int (if k then 1 else 0)) st
 | _,_ => .bad
theorem Zje:Zdp X EX (.type "int") intD:=by
 intro pins s σ H xs us Q I rx h;obtain⟨O,ds,st,W,r,R⟩:=h;unfold intD at R;split at R
 ·obtain⟨v,rfl,r1⟩:=r.one_of;rw[Rep.int_i] at r1;subst r1;exact Zh5 pins s σ H _ us Q I rx (.inl ⟨_,rfl,Run.now (k:=Val X.K Q) R W _ (Rep.int_i.mpr rfl)⟩)
 ·obtain⟨v,rfl,r1⟩:=r.one_of;rw[Rep.bl_i] at r1;subst r1;exact Zh5 pins s σ H _ us Q I rx (.inr ⟨_,rfl,Run.now (k:=Val X.K Q) R W _ (Rep.int_i.mpr rfl)⟩)
 ·exact R.elim
end
end DL
end
section
namespace DL
open PySem PySem.Spec PyProof.Rows L2
noncomputable abbrev FD:=List D->Sto->Out D
def spD(K:P3)(F:FD):Sp:=fun vs H Q E => ∃O ds st,WR K O H st/\Reps K O H ds vs/\Run K (fun c _ _ H'=>E (.ref c) Option.none H') O H (F ds st) (Val K Q)
def eOf(EX:EXT):XK:=fun Cv _ H' => ∃c st O',Cv = .ref c/\EX c st O' H'
noncomputable abbrev ZdK(CX:CXT)(X:Cx)(EX:EXT):Prop:=Passes CX X (eOf EX)
theorem xe0{X:Cx}{EX:EXT}:ZdK CX0 X EX:=fun _ _ _ _ _ _ _ h=>h.elim
theorem Run.ex{K:P3}{EX EX':EXT}{α:Type}{O:List Addr}{H:Hp}{r:Out α}{k:α->Sto->List Addr->Hp->Prop}(h:Run K EX O H r k)(f:∀c st O' H',EX c st O' H'->EX' c st O' H'):Run K EX' O H r k:=by
 cases r with
 | ok a st=>exact h
 | exc c st=>exact fun O' H' kp W=>f _ _ _ _ (h O' H' kp W)
 | bad=>exact h
theorem Run.eOf{K:P3}{EX:EXT}{α:Type}{O:List Addr}{H:Hp}{r:Out α}{k:α->Sto->List Addr->Hp->Prop}(h:Run K EX O H r k):Run K (fun c _ _ H'=>eOf EX (.ref c) Option.none H') O H r k :=
 h.ex fun c st O' H' z=>⟨c,st,O',rfl,z⟩
theorem Flds.look{K:P3}{O:List Addr}{H:Hp}{f:Str}:∀{ds:List (Str×D)} {vs:List (Str×V)},Flds K O H ds vs ->
  (ds.lookup f=none->vs.lookup f=none)/\∀d,ds.lookup f=some d->∃v,vs.lookup f=some v/\Rep K O H d v
 | [],vs,h=>by
  unfold Flds at h;subst h;exact⟨fun _=>rfl,fun d e=>by cases e⟩
 | (x,d) :: ds,vs,h=>by
  unfold Flds at h;obtain⟨v,r,rfl,q,t⟩:=h;obtain⟨h1,h2⟩:=Flds.look (f:=f) t;simp only[Q3];cases hx:f == x with
  | true=>exact⟨fun e=>(by cases e),fun d' e=>⟨v,rfl,by cases e; exact q⟩⟩
  | false=>exact⟨h1,h2⟩
def Zap(f:Str)(d:D):List (Str×D)->List (Str×D)
 | []=>[(f,d)]
 | (g,x) :: r=>if g=f then (g,d) :: r else (g,x) :: Zap f d r
theorem Flds.put{K:P3}{O:List Addr}{H:Hp}{f:Str}{d:D}{v:V}(q:Rep K O H d v):∀{ds:List (Str×D)} {vs:List (Str×V)},Flds K O H ds vs->Flds K O H (Zap f d ds) (Z0 f v vs)
 | [],vs,h=>by
  unfold Flds at h;subst h;show Flds K O H [(f,d)] [(f,v)];unfold Flds;exact⟨v,[],rfl,q,by unfold Flds; rfl⟩
 | (x,e) :: ds,vs,h=>by
  unfold Flds at h;obtain⟨u,r,rfl,q',t⟩:=h;unfold Zap Z0;by_cases hx:x=f
  ·rw[Yg hx,Yg hx];unfold Flds;exact⟨v,r,rfl,q,t⟩
  ·rw[Yh hx,Yh hx];unfold Flds;exact⟨u,Z0 f v r,rfl,q',Flds.put q t⟩
theorem Flds.length{K:P3}{O:List Addr}{H:Hp}:∀{ds:List (Str×D)} {vs:List (Str×V)},Flds K O H ds vs->ds.length=vs.length
 | [],vs,h=>by unfold Flds at h; subst h; rfl
 | (x,e) :: ds,vs,h=>by
  unfold Flds at h;obtain⟨u,r,rfl,q',t⟩:=h;rw[YB,YB,Flds.length t]
def ZD(C:Addr)(st:Sto):D->Option (Nat×List (Str×D))
 | .res i=>match st[i]? with
  | some (.ins C' fs)=>if C'=C then some (i,fs) else none
  | _=>none
 | _=>none
theorem ZcF{K:P3}{O:List Addr}{H:Hp}{st:Sto}(W:WR K O H st){C:Addr}{d:D}{v:V}{i:Nat}{fs:List (Str×D)}(r:Rep K O H d v)(e:ZD C st d=some (i,fs)) :
  d = .res i/\∃a dx vfs,v = .ref a/\O[i]?=some a/\H a=some (.ins C dx vfs)/\Flds K O H fs vfs:=by
 cases d with
 | res j =>
  dsimp only[ZD] at e;cases hs:st[j]? with
  | none=>rw[hs] at e; cases e
  | some s =>
   rw[hs] at e;cases s with
   | lst xs=>cases e
   | dct kvs=>cases e
   | dtt kvs=>cases e
   | fdc kvs=>cases e
   | ins C' fs' =>
    dsimp only at e;by_cases hC:C'=C
    ·rw[Yg hC] at e;cases e;subst hC;rw[Rep.res_i] at r;obtain⟨a,rfl,q⟩:=r;obtain⟨dx,vfs,h1,h2⟩:=W.at_ _ _ _ q hs;exact⟨rfl,a,dx,vfs,rfl,q,h1,h2⟩
    ·rw[Yh hC] at e; cases e
 | _=>cases e
section
variable{X:Cx}{EX:EXT}{a b c e o:Expr}{fa fb fc fo:DE}{pos p apos:Pos}{ta tb:DT}{CX:CXT}{k:Nat}{f C:Addr}{fd:P6}{ps:List Str}{n:Nat}{F:FD}{x m:Str}{es:List Expr}{g:DA}
theorem ZqM(G:FnOk X.prog X.w X.K X.mg X.base CX k f fd ps (spD X.K F))(hr:Room k X.A)(hg:Gl X x)(hm:X.mg x=some (.ref f))(hk:PySem.W.keepIn X.K (.ref f)=true)(hb:Binds X.K fd ps [])(hx:ZdK CX X EX)(ha:PDA X EX (e :: es) g)
  (hdb:(x == ("__debug__" : Str))=false:=by decide) (he:starEach (e :: es) X.env=(false,eval e X.env) :: starEach es X.env:=by rfl) (hpl:(backTo pos (starEach es X.env)).any (·.1)=false:=by rfl) :
  PD X EX (.Call (.Name x p) (e :: es) [] pos) (Zj F g):=by
 refine PE.mono (Zqh G hr hg hm hk hb .nil hx ha hdb he hpl) ?_;rintro σ H Q ⟨O,ρ,st,W,E,R⟩;refine⟨O,ρ,st,W,E,R.bind.mono fun ds st1 O1 H1 k1 W1 R2 vs r => ?_⟩;dsimp only;rw[Wo];exact⟨O1,ds,st1,W1,r,R2.eOf⟩
def ZQ(C:Addr)(m:Str)(F:FD)(fo:DE)(g:DA):DE:=fun ρ st=>(fo ρ st).bind fun d st1=>match ZD C st1 d with
 | some (_,fs)=>if fs.lookup m=none then (g ρ st1).bind fun ds st2=>F (d :: ds) st2 else .bad
 | none => .bad
theorem Zhl{g:DA}:∀σ H Q,tD X.K EX (ZQ C m F fo g) σ H Q->ZgE C m (spD X.K F) [] (eOf EX) (tD X.K EX fo) (tDA X.K EX g) σ H Q:=by
 rintro σ H Q ⟨O,ρ,st,W,E,R⟩;refine⟨O,ρ,st,W,E,R.bind.mono fun d st1 O1 H1 k1 W1 R1 v r => ?_⟩;cases e:ZD C st1 d with
 | none=>rw[e] at R1; exact R1.elim
 | some q =>
  obtain⟨i,fs⟩:=q;rw[e] at R1;dsimp only at R1;obtain⟨rfl,a,dx,vfs,rfl,ho,hH,hf⟩:=ZcF W1 r e;by_cases hm:fs.lookup m=none
  ·rw[Yg hm] at R1;refine⟨a,dx,vfs,rfl,hH,hf.look.1 hm,O1,ρ,st1,W1,E.mono k1,R1.bind.mono fun ds st2 O2 H2 k2 W2 R2 vs rs => ?_⟩;dsimp only;rw[Wo];exact⟨O2,_,st2,W2,Reps.cons_i.mpr ⟨_,vs,rfl,Rep.mono k2 _ _ r,rs⟩,R2.eOf⟩
  ·rw[Yh hm] at R1; exact R1.elim
theorem Zom{pl:Sem Bool}(he:PD X EX o fo)(c:Cls X.K C)(hm:Meth X.K C m f)(G:FnOk X.prog X.w X.K X.mg X.base CX k f fd ps (spD X.K F))(hr:Room k X.A)(hb:Binds X.K fd ps [])(hx:ZdK CX X EX)(ha:PDA X EX (e :: es) g)
  (hst:starEach (e :: es) X.env=(false,eval e X.env) :: starEach es X.env:=by rfl) (hpl:(backTo pos (starEach es X.env)).any (·.1)=false:=by rfl)
  (ht:eval (.Call (.Attribute o m apos) (e :: es) [] pos) X.env=(do
   let ov <-eval o X.env
   standAt apos.atName
   let (f,first) <-holding [ov] (getMethod ov m pl)
   callWith pos f first (backTo pos (starEach (e :: es) X.env)) (backToKw pos (keywordEach [] X.env))):=by rfl) :
  PD X EX (.Call (.Attribute o m apos) (e :: es) [] pos) (ZQ C m F fo g):=PE.mono (Zs2 he c hm G hr hb .nil hx ha hst hpl ht) Zhl
theorem Zmw{pl:Sem Bool}(he:PD X EX o fo)(c:Cls X.K C)(hm:Meth X.K C m f)(G:FnOk X.prog X.w X.K X.mg X.base CX k f fd ps (spD X.K F))(hr:Room k X.A)(hb:Binds X.K fd ps [])(hx:ZdK CX X EX)
  (ht:eval (.Call (.Attribute o m apos) [] [] pos) X.env=(do
   let ov <-eval o X.env
   standAt apos.atName
   let (f,first) <-holding [ov] (getMethod ov m pl)
   callWith pos f first (backTo pos (starEach [] X.env)) (backToKw pos (keywordEach [] X.env))):=by rfl) :
  PD X EX (.Call (.Attribute o m apos) [] [] pos) (ZQ C m F fo Ze):=by
 refine PE.mono (ZkZ he c hm G hr hb .nil hx ht) fun σ H Q h => ?_;obtain⟨O,ρ,st,W,E,R⟩:=Zhl (X:=X) (EX:=EX) σ H Q h;refine⟨O,ρ,st,W,E,R.mono fun d st1 O1 H1 k1 W1 R1 v r => ?_⟩;obtain⟨a,dx,fs,h1,h2,h3,O2,ρ2,st2,W2,E2,R2⟩:=R1 v r;exact⟨a,dx,fs,h1,h2,h3,Run.now (k:=Vls X.K _) R2 W2 _ (Reps.nil_i.mpr rfl)⟩
def ZY(C:Addr)(x:Str)(fo:DE):DE:=fun ρ st=>(fo ρ st).bind fun d st1=>match ZD C st1 d with
 | some (_,fs)=>match fs.lookup x with
  | some v => .ok v st1
  | none => .bad
 | none => .bad
theorem Zaj(he:PD X EX e fo)(c:Cls X.K C)(na:NoAttr X.K C x)(hb:attributeBase e x X.env (eval e X.env)=eval e X.env:=by rfl):PD X EX (.Attribute e x pos) (ZY C x fo):=by
 refine PE.mono (ZpZ he hb) ?_;rintro σ H Q ⟨O,ρ,st,W,E,R⟩;refine⟨O,ρ,st,W,E,R.bind.mono fun d st1 O1 H1 k1 W1 R1 v r => ?_⟩;cases e:ZD C st1 d with
 | none=>rw[e] at R1; exact R1.elim
 | some q =>
  obtain⟨i,fs⟩:=q;rw[e] at R1;dsimp only at R1;obtain⟨rfl,a,dx,vfs,rfl,ho,hH,hf⟩:=ZcF W1 r e;cases hl:fs.lookup x with
  | none=>rw[hl] at R1; exact R1.elim
  | some w =>
   rw[hl] at R1;obtain⟨u,h1,h2⟩:=hf.look.2 w hl;exact⟨a,C,dx,vfs,u,rfl,hH,c,na,h1,Run.now (k:=Val X.K Q) R1 W1 _ h2⟩
def Zeq:D->Sto->Out Unit
 | .non,st => .ok () st
 | _,_ => .bad
def Zdd(C:Addr)(F:FD)(g:DA):DE:=fun ρ st=>(g ρ st).bind fun ds st1=>(F (.res st1.length :: ds) (st1++[.ins C []])).bind fun d st2=>(Zeq d st2).bind fun _ st3 => .ok (.res st1.length) st3
theorem Zp6{g:DA}:∀σ H Q,tD X.K EX (Zdd C F g) σ H Q->Zg8 C (spD X.K F) [] (eOf EX) (tDA X.K EX g) σ H Q:=by
 rintro σ H Q ⟨O,ρ,st,W,E,R⟩;refine⟨O,ρ,st,W,E,R.bind.mono fun ds st1 O1 H1 k1 W1 R1 vs rs => ?_⟩;intro y dy hy hdy hne;rw[Wo];have hy':(upd H1 dy (.own y)) y=none:=by rw[Zp (Y7 hne)]; exact hy
 have kk:Keep X.K O1 H1 (O1++[y]) (upd (upd H1 dy (.own y)) y (.ins C dy [])):=(Keep.laid hdy).trans (Keep.push hy');have WW:WR X.K (O1++[y]) (upd (upd H1 dy (.own y)) y (.ins C dy [])) (st1++[.ins C []]):=(W1.laid hdy).push' hy' ⟨dy,[],Zai,by unfold Flds; rfl⟩;refine⟨O1++[y],.res st1.length :: ds,st1++[.ins C []],WW,Reps.cons_i.mpr ⟨.ref y,vs,rfl,ZeE W1.len,Reps.mono kk _ _ rs⟩,?_⟩;refine Run.eOf ?_;refine (Run.later R1 kk).bind.mono fun d st2 O2 H2 k2 W2 R2 v r => ?_;cases d with
 | non=>exact⟨Rep.non_i.mp r,Run.now (k:=Val X.K Q) R2 W2 _ (Rep.mono k2 _ _ (ZeE W1.len))⟩
 | _=>exact R2.elim
theorem ZlG{fI:Addr}(M:Mk X.K C fI)(G:FnOk X.prog X.w X.K X.mg X.base CX k fI fd ps (spD X.K F))(hr:Room (k+1) X.A)(hg:Gl X x)(hm:X.mg x=some (.ref C))(hb:Binds X.K fd ps [])(hx:ZdK CX X EX)
  (ha:PDA X EX (e :: es) g) (hdb:(x == ("__debug__" : Str))=false:=by decide) (he:starEach (e :: es) X.env=(false,eval e X.env) :: starEach es X.env:=by rfl) (hpl:(backTo pos (starEach es X.env)).any (·.1)=false:=by rfl) :
  PD X EX (.Call (.Name x p) (e :: es) [] pos) (Zdd C F g):=PE.mono (ZrD M G hr hg hm hb .nil hx ha hdb he hpl) Zp6
end
inductive OutS where
 | nx (ρ:Ev) (st:Sto) | rt (d:D) (st:Sto) | bk (ρ:Ev) (st:Sto) | ct (ρ:Ev) (st:Sto) | exc (c:Addr) (st:Sto) | bad
noncomputable abbrev DS:=Ev->Sto->OutS
def RunS(K:P3)(EX:EXT)(Dn:Ends)(O:List Addr)(H:Hp):OutS->Prop
 | .nx ρ st => ∀O' H' σ,Keep K O H O' H'->WR K O' H' st->REnv K O' H' ρ σ->Dn.nx σ H'
 | .bk ρ st => ∀O' H' σ,Keep K O H O' H'->WR K O' H' st->REnv K O' H' ρ σ->Dn.bk σ H'
 | .ct ρ st => ∀O' H' σ,Keep K O H O' H'->WR K O' H' st->REnv K O' H' ρ σ->Dn.ct σ H'
 | .rt d st => ∀O' H' v,Keep K O H O' H'->WR K O' H' st->Rep K O' H' d v->Dn.rt v H'
 | .exc c st => ∀O' H',Keep K O H O' H'->WR K O' H' st->EX c st O' H'
 | .bad=>False
def tDS(K:P3)(EX:EXT)(g:DS):TS:=fun Dn σ H => ∃O ρ st,WR K O H st/\REnv K O H ρ σ/\RunS K EX Dn O H (g ρ st)
def PDs(X:Cx)(EX:EXT)(s:Stmt)(g:DS):Prop:=PS X s (tDS X.K EX g)
def PDS(X:Cx)(EX:EXT)(ss:List Stmt)(g:DS):Prop:=PSs X ss (tDS X.K EX g)
theorem RunS.later{K:P3}{EX:EXT}{Dn:Ends}{O O':List Addr}{H H':Hp}{r:OutS}(h:RunS K EX Dn O H r)(kp:Keep K O H O' H'):RunS K EX Dn O' H' r:=by
 cases r with
 | bad=>exact h
 | exc c st=>exact fun O2 H2 k2 W2=>h O2 H2 (kp.trans k2) W2
 | rt d st=>exact fun O2 H2 v k2 W2 r2=>h O2 H2 v (kp.trans k2) W2 r2
 | nx ρ st=>exact fun O2 H2 v k2 W2 r2=>h O2 H2 v (kp.trans k2) W2 r2
 | bk ρ st=>exact fun O2 H2 v k2 W2 r2=>h O2 H2 v (kp.trans k2) W2 r2
 | ct ρ st=>exact fun O2 H2 v k2 W2 r2=>h O2 H2 v (kp.trans k2) W2 r2
def Out.to{α:Type}(r:Out α)(k:α->Sto->OutS):OutS:=match r with
 | .ok a st=>k a st
 | .exc c st => .exc c st
 | .bad => .bad
theorem RunS.to{K:P3}{EX:EXT}{Dn:Ends}{α:Type}{O:List Addr}{H:Hp}{r:Out α}{g:α->Sto->OutS}(h:RunS K EX Dn O H (r.to g)):Run K EX O H r (fun a st O' H'=>RunS K EX Dn O' H' (g a st)):=by
 cases r with
 | ok a st=>exact fun O' H' kp W=>RunS.later (r:=g a st) h kp
 | exc c st=>exact h
 | bad=>exact h
section
variable{X:Cx}{EX:EXT}{a b c e o tg:Expr}{fa fb fc fo:DE}{pos p apos:Pos}{ta tb:DT}{s:Stmt}{ss:List Stmt}{g g':DS}{x:Str}{C:Addr}
def ZV:DS:=fun ρ st => .nx ρ st
def Zl(g g':DS):DS:=fun ρ st=>match g ρ st with
 | .nx ρ' st'=>g' ρ' st'
 | r=>r
theorem Zab:PDS X EX [] ZV:=by
 refine PSs.mono ZrR ?_;rintro Dn σ H ⟨O,ρ,st,W,E,R⟩;exact R O H σ Keep.refl W E
theorem Zo(h1:PDs X EX s g)(h2:PDS X EX ss g'):PDS X EX (s :: ss) (Zl g g'):=by
 refine PSs.mono (ZsW h1 h2) ?_;rintro Dn σ H ⟨O,ρ,st,W,E,R⟩;refine⟨O,ρ,st,W,E,?_⟩;unfold Zl at R;cases hg:g ρ st with
 | nx ρ' st' =>
  rw[hg] at R;exact fun O' H' σ' kp W' E'=>⟨O',ρ',st',W',E',RunS.later R kp⟩
 | _=>rw[hg] at R; exact R
theorem Zn(h1:PDs X EX s g):PDS X EX [s] g:=Zrs h1
def ZaK(f:DE):DS:=fun ρ st=>(f ρ st).to fun _ st1 => .nx ρ st1
theorem Zby(he:PD X EX e fa)(hs:swapsWith e none pos.line X.env=pure false:=by rfl):PDs X EX (.Expr e pos) (ZaK fa):=by
 refine PS.mono (Zrq he hs) ?_;rintro Dn σ H ⟨O,ρ,st,W,E,R⟩;exact⟨O,ρ,st,W,E,R.to.mono fun d st1 O1 H1 k1 W1 R1 v r=>R1 O1 H1 σ Keep.refl W1 (E.mono k1)⟩
def Zv(f:DE):DS:=fun ρ st=>(f ρ st).to fun d st1 => .rt d st1
theorem Zx(he:PD X EX e fa):PDs X EX (.Return (some e) pos) (Zv fa):=by
 refine PS.mono (ZnE he) ?_;rintro Dn σ H ⟨O,ρ,st,W,E,R⟩;exact⟨O,ρ,st,W,E,R.to.mono fun d st1 O1 H1 k1 W1 R1 v r=>R1 O1 H1 v Keep.refl W1 r⟩
def sIf(t:DT)(g g':DS):DS:=fun ρ st=>(t ρ st).to fun x st1=>if x=true then g ρ st1 else g' ρ st1
theorem Z2{sa sb:List Stmt}(hc:PDT X EX c ta)(ha:PDS X EX sa g)(hb:PDS X EX sb g'):PDs X EX (.If c sa sb pos) (sIf ta g g'):=by
 refine PS.mono (Zq3 hc ha hb) ?_;rintro Dn σ H ⟨O,ρ,st,W,E,R⟩;refine⟨O,ρ,st,W,E,R.to.mono fun x st1 O1 H1 k1 W1 R1 => ?_⟩;cases x with
 | true=>exact⟨O1,ρ,st1,W1,E.mono k1,R1⟩
 | false=>exact⟨O1,ρ,st1,W1,E.mono k1,R1⟩
def ZF(i:Nat)(f:DE):DS:=fun ρ st=>(f ρ st).to fun d st1 => .nx (ρ.set i (some d)) st1
theorem ZS(i:Nat){pos':Pos}(hN:X.N.Nodup)(hi:X.N[i]?=some x)(hx:Loc X.env.scope x)(he:PD X EX e fa)(hs:swapsWith e (some (.Name x pos')) pos.line X.env=pure false:=by rfl)
  (hf:X.fn x=true\/X.env.scope.names.lookup x=some .local:=by first | exact .inl rfl | exact .inr rfl | assumption):PDs X EX (.Assign [.Name x pos'] e pos) (ZF i fa):=by
 refine PS.mono (ZiX hN hi hx he hs hf) ?_;rintro Dn σ H ⟨O,ρ,st,W,E,R⟩;exact⟨O,ρ,st,W,E,R.to.mono fun d st1 O1 H1 k1 W1 R1 v r=>R1 O1 H1 _ Keep.refl W1 ((E.mono k1).set r)⟩
def ZaC(i:Nat)(f:DA):DS:=fun ρ st=>(f ρ st).to fun ds st1 => .nx (ρ.set i (some (.res st1.length))) (st1++[.lst ds])
theorem Zc2(i:Nat){f:DA}{pos':Pos}(hN:X.N.Nodup)(hi:X.N[i]?=some x)(hx:Loc X.env.scope x)(he:PDF X EX e f)(hs:swapsWith e (some (.Name x pos')) pos.line X.env=pure false:=by rfl)
  (hf:X.fn x=true\/X.env.scope.names.lookup x=some .local:=by first | exact .inl rfl | exact .inr rfl | assumption):PDs X EX (.Assign [.Name x pos'] e pos) (ZaC i f):=by
 refine PS.mono (ZiX hN hi hx he hs hf) ?_;rintro Dn σ H ⟨O,ρ,st,W,E,R⟩;exact⟨O,ρ,st,W,E,R.to.mono fun ds st1 O1 H1 k1 W1 R1 p vs r hp=>R1 (O1++[p]) _ _ (Keep.push hp) (W1.push hp r) ((E.mono (k1.trans (Keep.push hp))).set (ZeE W1.len))⟩
def Za0(C:Addr)(x:Str)(fo fv:DE):DS:=fun ρ st=>(fv ρ st).to fun v st1=>(fo ρ st1).to fun d st2=>match ZD C st2 d with
 | some (i,fs)=>if fs.length<900 then .nx ρ (st2.set i (.ins C (Zap x v fs))) else .bad
 | none => .bad
theorem Zdl{pos':Pos}(ha:PD X EX o fo)(hv:PD X EX e fa)(c:Cls X.K C)(na:NoAttr X.K C x)(hs:swapsWith e (some (.Attribute o x pos')) pos.line X.env=pure false:=by rfl):PDs X EX (.Assign [.Attribute o x pos'] e pos) (Za0 C x fo fa):=by
 refine PS.mono (Zhf ha hv hs) ?_;rintro Dn σ H ⟨O,ρ,st,W,E,R⟩;refine⟨O,ρ,st,W,E,R.to.mono fun w st1 O1 H1 k1 W1 R1 v r => ?_⟩;refine⟨O1,ρ,st1,W1,E.mono k1,R1.to.mono fun d st2 O2 H2 k2 W2 R2 u r2 => ?_⟩;cases e:ZD C st2 d with
 | none=>rw[e] at R2; exact R2.elim
 | some q =>
  obtain⟨i,fs⟩:=q;rw[e] at R2;dsimp only at R2;obtain⟨rfl,a,dx,vfs,rfl,ho,hH,hf⟩:=ZcF W2 r2 e;by_cases hl:fs.length<900
  ·rw[Yg hl] at R2;refine⟨a,C,dx,vfs,rfl,hH,c,na,by rw[<-hf.length]; omega,?_⟩;have kw:Keep X.K O2 H2 O2 (upd H2 a (.ins C dx (Z0 x v vfs))):=Keep.write W2 ho;exact R2 O2 _ σ kw (W2.write ho ⟨dx,_,Zai,Flds.mono kw _ _ (hf.put (Rep.mono k2 _ _ r))⟩) (E.mono (k1.trans (k2.trans kw)))
  ·rw[Yh hl] at R2; exact R2.elim
def ZfI(C:Addr)(x:Str)(fo:DE)(fv:DA):DS:=fun ρ st=>(fv ρ st).to fun vs st1=>(fo ρ (st1++[.lst vs])).to fun d st2=>match ZD C st2 d with
 | some (i,fs)=>if fs.length<900 then .nx ρ (st2.set i (.ins C (Zap x (.res st1.length) fs))) else .bad
 | none => .bad
theorem Zpz{f:DA}{pos':Pos}(ha:PD X EX o fo)(hv:PDF X EX e f)(c:Cls X.K C)(na:NoAttr X.K C x)(hs:swapsWith e (some (.Attribute o x pos')) pos.line X.env=pure false:=by rfl):PDs X EX (.Assign [.Attribute o x pos'] e pos) (ZfI C x fo f):=by
 refine PS.mono (Zhf ha hv hs) ?_;rintro Dn σ H ⟨O,ρ,st,W,E,R⟩;refine⟨O,ρ,st,W,E,R.to.mono fun w st1 O1 H1 k1 W1 R1 p vs r hp => ?_⟩;refine⟨O1++[p],ρ,st1++[.lst w],W1.push hp r,E.mono (k1.trans (Keep.push hp)),(RunS.later R1 (Keep.push hp)).to.mono fun d st2 O2 H2 k2 W2 R2 u r2 => ?_⟩;cases e:ZD C st2 d with
 | none=>rw[e] at R2; exact R2.elim
 | some q =>
  obtain⟨i,fs⟩:=q;rw[e] at R2;dsimp only at R2;obtain⟨rfl,a,dx,vfs,rfl,ho,hH,hf⟩:=ZcF W2 r2 e;by_cases hl:fs.length<900
  ·rw[Yg hl] at R2;refine⟨a,C,dx,vfs,rfl,hH,c,na,by rw[<-hf.length]; omega,?_⟩;have kw:Keep X.K O2 H2 O2 (upd H2 a (.ins C dx (Z0 x (.ref p) vfs))):=Keep.write W2 ho;exact R2 O2 _ σ kw (W2.write ho ⟨dx,_,Zai,Flds.mono kw _ _ (hf.put (Rep.mono k2 _ _ (ZeE W1.len)))⟩) (E.mono (k1.trans ((Keep.push hp).trans (k2.trans kw))))
  ·rw[Yh hl] at R2; exact R2.elim
def Zfu(C:Addr)(x:Str)(fo fv:DE):DS:=fun ρ st=>(fo ρ st).to fun d st1=>match ZD C st1 d with
 | some (i,fs)=>match fs.lookup x with
  | some (.int z)=>(fv ρ st1).to fun v st2=>match v with
   | .int y=>match ZD C st2 d with
    | some (j,fs')=>if fs'.length<900 then .nx ρ (st2.set j (.ins C (Zap x (.int (z+y)) fs'))) else .bad
    | none => .bad
   | _ => .bad
  | _ => .bad
 | none => .bad
theorem ZlZ{tpos:Pos}(ha:PD X EX o fo)(hv:PD X EX e fa)(c:Cls X.K C)(na:NoAttr X.K C x):PDs X EX (.AugAssign (.Attribute o x tpos) .Add e pos) (Zfu C x fo fa):=by
 refine PS.mono (ZqT ha hv Zl2) ?_;rintro Dn σ H ⟨O,ρ,st,W,E,R⟩;refine⟨O,ρ,st,W,E,R.to.mono fun d st1 O1 H1 k1 W1 R1 u r => ?_⟩;cases e:ZD C st1 d with
 | none=>rw[e] at R1; exact R1.elim
 | some q =>
  obtain⟨i,fs⟩:=q;rw[e] at R1;dsimp only at R1;obtain⟨rfl,a,dx,vfs,rfl,ho,hH,hf⟩:=ZcF W1 r e;cases hl:fs.lookup x with
  | none=>rw[hl] at R1; exact R1.elim
  | some w =>
   rw[hl] at R1;cases w with
   | int z =>
    dsimp only at R1;obtain⟨v,h1,h2⟩:=hf.look.2 _ hl;rw[Rep.int_i] at h2;subst h2;refine⟨a,C,dx,vfs,_,rfl,hH,c,na,h1,O1,ρ,st1,W1,E.mono k1,R1.to.mono fun y st2 O2 H2 k2 W2 R2 vy ry => ?_⟩;cases y with
    | int y =>
     rw[Rep.int_i] at ry;subst ry;refine⟨z,y,rfl,rfl,?_⟩;dsimp only at R2;cases e2:ZD C st2 (.res i) with
     | none=>rw[e2] at R2; exact R2.elim
     | some q =>
      obtain⟨j,fs'⟩:=q;rw[e2] at R2;dsimp only at R2;obtain⟨ej,a',dx',vfs',ea,ho',hH',hf'⟩:=ZcF W2 (Rep.mono k2 _ _ r) e2;cases ej;cases ea;by_cases hl2:fs'.length<900
      ·rw[Yg hl2] at R2;refine⟨dx',vfs',hH',by rw[<-hf'.length]; omega,?_⟩;have kw:Keep X.K O2 H2 O2 (upd H2 a (.ins C dx' (Z0 x (.int (z+y)) vfs'))):=Keep.write W2 ho';exact R2 O2 _ σ kw (W2.write ho' ⟨dx',_,Zai,Flds.mono kw _ _ (hf'.put (Rep.int_i.mpr rfl))⟩) (E.mono (k1.trans (k2.trans kw)))
      ·rw[Yh hl2] at R2; exact R2.elim
    | _=>exact R2.elim
   | _=>exact R1.elim
def Zw(N n:Nat)(g:DS):FD:=fun ds st=>if ds.length=n then (match g (ds.map some++List.replicate (N - n) none) st with
 | .nx _ st' => .ok .non st'
 | .rt d st' => .ok d st'
 | _ => .bad) else .bad
end
section
variable{P:P5}{w:World}{K:P3}{mg:Str->Option P7}{base:Heap}
theorem ZsH{O:List Addr}{H:Hp}{N:List Str}:∀{ds:List D} {vs:List V} (m:Nat),Reps K O H ds vs->REnv K O H (ds.map some++List.replicate m none) (vs.map some++List.replicate m none):=by
 intro ds vs m r;refine⟨by simp[r.length],fun i d h => ?_⟩;by_cases hi:i<ds.length
 ·rw[YD (by simpa using hi)] at h;rw[YO] at h;cases e:ds[i]? with
  | none=>rw[e] at h; cases h
  | some d' =>
   rw[e] at h;simp only[Qq,YE] at h;subst h;obtain⟨v,h1,h2⟩:=r.get e;exact⟨v,by rw[YD (by rw[Yr,<-r.length]; exact hi),YO,h1]; rfl,h2⟩
 ·rw[YZ (by rw[Yr]; omega),QM] at h;split at h <;> cases h
theorem fnD{x qual:Str}{st:Stmt}{f:Addr}{fd:P6}{N ps:List Str}{k:Nat}{g:DS}(F:Fun K x qual st f fd)(S:FnScope N ps (Zf st))
  (hbody:∀(cdv:P7) (A:P4) (outer:List Env) (s:P1) (H:Hp) (E:XK),Room k (A.deeper (envOfC qual (Zf st) s.heap.objs.size f cdv)) ->
   PDS (ZP CX0 P w K mg base N qual (Zf st) f cdv A outer s H E).nox EX0 (Zr st) g):FnOk P w K mg base CX0 (k+1) f fd ps (spD K (Zw N.length ps.length g)):=by
 have hlen:∀vs H Q E,spD K (Zw N.length ps.length g) vs H Q E->vs.length=ps.length:=by
  rintro vs H Q E ⟨O,ds,st,W,r,R⟩;unfold Zw at R;by_cases hl:ds.length=ps.length
  ·rw[<-r.length]; exact hl
  ·rw[Yh hl] at R; exact R.elim
 refine F.ok S hlen fun cdv A outer s H vs Q E hr h => ?_;refine⟨_,hbody cdv A outer s H E hr,?_⟩;have hl:=hlen vs H Q E h;obtain⟨O,ds,st,W,r,R⟩:=h;have hd:ds.length=ps.length:=by rw[r.length]; exact hl
 unfold Zw at R;rw[Yg hd] at R;refine⟨O,ds.map some++List.replicate (N.length - ps.length) none,st,W,?_,?_⟩
 ·unfold L2.start;rw[hl];exact ZsH (N:=N) _ r
 ·cases hg:g (ds.map some++List.replicate (N.length - ps.length) none) st with
  | nx ρ st'=>rw[hg] at R; exact fun O' H' σ kp W' _=>R O' H' kp W' _ (Rep.non_i.mpr rfl)
  | rt d st'=>rw[hg] at R; exact fun O' H' v kp W' rv=>R O' H' kp W' v rv
  | exc c st'=>rw[hg] at R; exact R.elim
  | bad=>rw[hg] at R; exact R
  | bk ρ st'=>rw[hg] at R; exact R.elim
  | ct ρ st'=>rw[hg] at R; exact R.elim
end
end DL
end
section
namespace DL
open PySem PySem.Spec PyProof.Rows L2
noncomputable abbrev TgD:=D->Ev->Option Ev
def tgD(K:P3)(t:TgD):TG:=fun v σ H Q => ∃O d ρ ρ',Rep K O H d v/\REnv K O H ρ σ/\t d ρ=some ρ'/\∀σ',REnv K O H ρ' σ'->Q σ' H
def PGD(X:Cx)(tg:Expr)(t:TgD):Prop:=PG X tg (tgD X.K t)
theorem PG.mono{X:Cx}{tg:Expr}{t t':TG}(h:PG X tg t)(f:∀v σ H Q,t' v σ H Q->t v σ H Q):PG X tg t':=fun pins s σ H v u Q I r q=>h pins s σ H v u Q I r (f v σ H Q q)
theorem PGs.mono{X:Cx}{tg:List Expr}{t t':TGs}(h:PGs X tg t)(f:∀v σ H Q,t' v σ H Q->t v σ H Q):PGs X tg t':=fun pins s σ H v u Q I r q=>h pins s σ H v u Q I r (f v σ H Q q)
def ZH(i:Nat):TgD:=fun d ρ=>some (ρ.set i (some d))
def Zfv:List Nat->List D->Ev->Ev
 | i :: is,d :: ds,ρ=>Zfv is ds (ρ.set i (some d))
 | _,_,ρ=>ρ
def Zeh(K:P3)(is:List Nat):TGs:=fun vs σ H Q => ∃O ds ρ,Reps K O H ds vs/\REnv K O H ρ σ/\ds.length=is.length/\∀σ',REnv K O H (Zfv is ds ρ) σ'->Q σ' H
def Za2(is:List Nat):TgD
 | .tup ds,ρ=>if ds.length=is.length then some (Zfv is ds ρ) else none
 | _,_=>none
section
variable{X:Cx}{EX:EXT}{pos:Pos}{x:Str}
theorem Zbd(i:Nat)(hN:X.N.Nodup)(hi:X.N[i]?=some x)(hx:Loc X.env.scope x)(hf:X.fn x=true\/X.env.scope.names.lookup x=some .local:=by first | exact .inl rfl | exact .inr rfl | assumption):PGD X (.Name x pos) (ZH i):=by
 refine PG.mono (ZhS hN hi hx hf) ?_;rintro v σ H Q ⟨O,d,ρ,ρ',r,E,ht,q⟩;cases ht;exact q _ (E.set r)
theorem ZeK:PGs X [] (Zeh X.K []):=by
 refine PGs.mono Zl6 ?_;rintro vs σ H Q ⟨O,ds,ρ,r,E,hl,q⟩;have e:ds=[]:=Wm.mp hl;subst e;rw[Reps.nil_i] at r;exact⟨r,q _ E⟩
theorem ZbW(i:Nat){is:List Nat}{es:List Expr}(hN:X.N.Nodup)(hi:X.N[i]?=some x)(hx:Loc X.env.scope x)(h2:PGs X es (Zeh X.K is))(hf:X.fn x=true\/X.env.scope.names.lookup x=some .local:=by first | exact .inl rfl | exact .inr rfl | assumption)
  (hs:(assignEach (.Name x pos :: es) X.env).map (·.2)=assign (.Name x pos) X.env :: (assignEach es X.env).map (·.2):=by rfl):PGs X (.Name x pos :: es) (Zeh X.K (i :: is)):=by
 refine PGs.mono (Zs0 (ZhS hN hi hx hf) h2 hs) ?_;rintro vs σ H Q ⟨O,ds,ρ,r,E,hl,q⟩;cases ds with
 | nil=>cases hl
 | cons d ds =>
  obtain⟨v,vs',rfl,q1,t⟩:=Reps.cons_i.mp r;exact⟨v,vs',rfl,O,ds,_,t,E.set q1,by simpa using hl,q⟩
theorem Zd9{is:List Nat}{es:List Expr}{k:Nat}(hc:X.calm=true)(h:PGs X es (Zeh X.K is))(hn:(assignEach es X.env).length=is.length:=by rfl)(hst:(assignEach es X.env).findIdx? (·.1)=none:=by rfl):PGD X (.Tuple es k pos) (Za2 is):=by
 refine PG.mono (ZsB hc h hn hst) ?_;rintro v σ H Q ⟨O,d,ρ,ρ',r,E,ht,q⟩;cases d with
 | tup ds =>
  dsimp only[Za2] at ht;by_cases hl:ds.length=is.length
  ·rw[Yg hl] at ht;cases ht;rw[Rep.tup_i] at r;obtain⟨a,vs,rfl,hq,rs⟩:=r;exact⟨a,vs,rfl,SqT.of hq,by rw[<-rs.length]; exact hl,O,ds,ρ,rs,E,hl,q⟩
  ·rw[Yh hl] at ht; cases ht
 | _=>cases ht
end
noncomputable abbrev Wk:=List D×(Sto->Prop)
def ItD(K:P3)(J:It)(O0:List Addr)(H0:Hp)(q:Wk):Prop :=
 ∀(i:Nat) (O:List Addr) (H:Hp) (st:Sto),Keep K O0 H0 O H->WR K O H st->q.2 st ->
  (∀d,q.1[i]?=some d->J.go i H/\∀x H',J.yld i H x H'->Keep K O H O H'/\WR K O H' st/\Rep K O H' d x)/\(q.1.length<=i->J.stop i H)
noncomputable abbrev DI:=Ev->Sto->Out Wk
def wiD(K:P3)(EX:EXT)(f:DI):TI:=fun σ H R => ∃O ρ st,WR K O H st/\REnv K O H ρ σ/\Run K EX O H (f ρ st) (fun q _ O' H' => ∀J,ItD K J O' H' q->R J H')
def PID(X:Cx)(EX:EXT)(tg iter:Expr)(f:DI):Prop:=PI X tg iter (wiD X.K EX f)
theorem PI.mono{X:Cx}{tg it:Expr}{t t':TI}(h:PI X tg it t)(f:∀σ H Q,t' σ H Q->t σ H Q):PI X tg it t':=fun pins s σ H Q I q=>h pins s σ H Q I (f σ H Q q)
theorem PI.or{X:Cx}{tg it:Expr}{t t':TI}(h:PI X tg it t)(h':PI X tg it t'):PI X tg it (fun σ H R=>t σ H R\/t' σ H R):=fun pins s σ H Q I q=>by
 rcases q with q | q
 ·exact h pins s σ H Q I q
 ·exact h' pins s σ H Q I q
section
variable{K:P3}{O:List Addr}{H:Hp}{st:Sto}
theorem Zsb{a:Addr}{vs:List V}{xs:List D}{P:Sto->Prop}(q:H a=some (.tup vs))(r:Reps K O H xs vs):ItD K (Itt K a) O H (xs,P):=by
 intro i O' H' st' kp W' _;refine⟨fun d hd => ?_,fun hl=>⟨vs,SqT.of (kp.tup _ _ q),by rw[<-r.length]; exact hl⟩⟩;obtain⟨v,h1,h2⟩:=r.get hd;refine⟨⟨vs,v,SqT.of (kp.tup _ _ q),h1⟩,?_⟩;rintro x H2 ⟨rfl,h3⟩;have h4:=h3 vs (SqT.of (kp.tup _ _ q));rw[h1] at h4;cases h4;exact⟨Keep.refl,W',Rep.mono kp _ _ h2⟩
theorem ZoL{a:Addr}{xs:List D}{P:Sto->Prop}(h:∀(O':List Addr) (H':Hp) (st':Sto),Keep K O H O' H'->WR K O' H' st'->P st'->∃vs,SqL K H' a vs/\Reps K O' H' xs vs):ItD K (Itl K a) O H (xs,P):=by
 intro i O' H' st' kp W' hp;obtain⟨vs,q,r⟩:=h O' H' st' kp W' hp;refine⟨fun d hd => ?_,fun hl=>⟨vs,q,by rw[<-r.length]; exact hl⟩⟩;obtain⟨v,h1,h2⟩:=r.get hd;refine⟨⟨vs,v,q,h1⟩,?_⟩;rintro x H2 ⟨rfl,h3⟩;have h4:=h3 vs q;rw[h1] at h4;cases h4;exact⟨Keep.refl,W',h2⟩
theorem Zmr{lo:Int}{n:Nat}{P:Sto->Prop}:ItD K (Itr lo n) O H ((List.range n).map (fun (i:Nat)=>D.int (lo+i)),P):=by
 intro i O' H' st' kp W' hp;refine⟨fun d hd => ?_,fun hl=>(show n<=i by simpa using hl)⟩;have hi:i<n:=by
  have:=(Yc.mp hd).1;simpa using this
 have e:d=D.int (lo+i):=by
  rw[YO,List.getElem?_range hi] at hd;simpa using hd.symm
 subst e;refine⟨hi,?_⟩;rintro x H2 ⟨rfl,rfl⟩;exact⟨Keep.refl,W',Rep.int_i.mpr rfl⟩
end
section
variable{X:Cx}{EX:EXT}{tg e a b:Expr}{f:DE}{g:DA}{pos p:Pos}
def Zam(f:DE):DI:=fun ρ st=>(f ρ st).bind fun d st1=>match itemsOf st1 d with
 | some xs => .ok (xs,fun st=>itemsOf st d=some xs) st1
 | none => .bad
theorem Zbb(h:PD X EX e f):PID X EX tg e (Zam f):=by
 refine PI.mono (PI.or (Zp9 h) (ZoB h)) ?_;rintro σ H R ⟨O,ρ,st,W,E,R0⟩;have R1:=R0.bind;cases hf:f ρ st with
 | bad=>rw[hf] at R1; exact R1.elim
 | exc c st' =>
  rw[hf] at R1;exact .inl ⟨O,ρ,st,W,E,by rw[hf]; exact R1⟩
 | ok d st' =>
  rw[hf] at R1;by_cases hb:∃zs,d = .tup zs
  ·obtain⟨zs,rfl⟩:=hb;refine .inl ⟨O,ρ,st,W,E,?_⟩;rw[hf];intro O1 H1 k1 W1 v r;have R2:=R1 O1 H1 k1 W1;rw[Rep.tup_i] at r;obtain⟨q,vs,rfl,hq,rs⟩:=r;exact⟨q,rfl,⟨vs,SqT.of hq⟩,Run.now (k:=fun q _ O' H' => ∀J,ItD X.K J O' H' q->R J H') R2 W1 _ (Zsb hq rs)⟩
  ·refine .inr ⟨O,ρ,st,W,E,?_⟩;rw[hf];intro O1 H1 k1 W1 v r;have R2:=R1 O1 H1 k1 W1;have ei:∀s',itemsOf s' d=ZN s' d:=by
    intro s';cases d <;> first | rfl | exact absurd ⟨_,rfl⟩ hb
   dsimp only at R2;rw[ei] at R2;cases e1:ZN st' d with
   | none=>rw[e1] at R2; exact R2.elim
   | some xs =>
    rw[e1] at R2;obtain⟨q,vs,rfl,hq,rs⟩:=rdL W1 r e1;refine⟨q,rfl,⟨vs,hq⟩,Run.now (k:=fun q _ O' H' => ∀J,ItD X.K J O' H' q->R J H') R2 W1 _ (ZoL fun O' H' st2 kp W' hp => ?_)⟩;rw[ei] at hp;obtain⟨q',vs',e2,hq',rs'⟩:=rdL W' (Rep.mono kp _ _ r) hp;cases e2;exact⟨vs',hq',rs'⟩
def ZbJ(j:Int):Bool:=@decide (-(2 ^ 62)<=j/\j<2 ^ 62) (Classical.propDecidable _)
theorem rngOk_iff{j:Int}:ZbJ j=true ↔ (-(2 ^ 62)<=j/\j<2 ^ 62):=by
 unfold ZbJ;exact @decide_eq_true_iff _ (Classical.propDecidable _)
theorem ZgA{j:Int}(h1 : -1000000<=j)(h2:j<=1000000):ZbJ j=true:=rngOk_iff.mpr ⟨by omega,by omega⟩
def Zbv(g:DA):DI:=fun ρ st=>(g ρ st).bind fun ds st1=>match ds with
 | [.int j]=>if ZbJ j=true then .ok ((List.range j.toNat).map (fun (i:Nat)=>D.int (0+i)),fun _=>True) st1 else .bad
 | _ => .bad
theorem Zfq(hg:Gl X "range")(hm:X.mg "range" = none)(ha:PDA X EX [a] g)(hs:starEach [a] X.env=[(false,eval a X.env)]:=by rfl):PID X EX tg (.Call (.Name "range" p) [a] [] pos) (Zbv g):=by
 refine PI.mono (Zmg hg hm ha hs) ?_;rintro σ H R ⟨O,ρ,st,W,E,R0⟩;refine⟨O,ρ,st,W,E,R0.bind.mono fun ds st1 O1 H1 k1 W1 R1 vs r => ?_⟩;split at R1
 ·rename_i j;obtain⟨v,rfl,rv⟩:=r.one_of;rw[Rep.int_i] at rv;subst rv;by_cases hj:ZbJ j=true
  ·rw[Yg hj] at R1;exact⟨j,rfl,(rngOk_iff.mp hj).1,(rngOk_iff.mp hj).2,Run.now (k:=fun q _ O' H' => ∀J,ItD X.K J O' H' q->R J H') R1 W1 _ Zmr⟩
  ·rw[Yh hj] at R1; exact R1.elim
 ·exact R1.elim
end
open Classical in
def ZO(chk:Sto->Prop)(t:TgD)(g:DS):List D->DS
 | [],ρ,st=>if chk st then .nx ρ st else .bad
 | x :: xs,ρ,st=>if chk st then (match t x ρ with
  | none => .bad
  | some ρ1=>match g ρ1 st with
   | .nx ρ' st'=>ZO chk t g xs ρ' st'
   | .ct ρ' st'=>ZO chk t g xs ρ' st'
   | .bk ρ' st' => .nx ρ' st'
   | r=>r) else .bad
def ZaQ(f:DI)(t:TgD)(g:DS):DS:=fun ρ st=>(f ρ st).to fun q st1=>ZO q.2 t g q.1 ρ st1
section
variable{X:Cx}{EX:EXT}{tg it:Expr}{f:DI}{t:TgD}{g:DS}{pos:Pos}{body:List Stmt}
theorem ZbR(hp:PassesOwn (model X.prog X.w) X.A X.env X.xe)(hc:X.calm=true)(hi:PID X EX tg it f)(hg:PGD X tg t)(hb:PDS X EX body g)(hs:∀x,foldedSetIterable it X.env x=pure x:=by intro _; rfl):PDs X EX (.For tg it body [] pos) (ZaQ f t g):=by
 refine PS.mono (Zry hp hc hi hg hb hs) ?_;rintro Dn σ H ⟨O,ρ,st,W,E,R⟩;refine⟨O,ρ,st,W,E,R.to.mono fun q st1 O1 H1 k1 W1 R1 J hJ => ?_⟩;refine⟨fun i m σ' H'=>m+i=q.1.length/\∃O' ρ' st',Keep X.K O1 H1 O' H'/\WR X.K O' H' st'/\REnv X.K O' H' ρ' σ'/\RunS X.K EX Dn O' H' (ZO q.2 t g (q.1.drop i) ρ' st'),⟨q.1.length,rfl,O1,ρ,st1,Keep.refl,W1,E.mono k1,R1⟩,?_⟩;rintro i m σ' H' ⟨hm,O',ρ',st',kp,W',E',R'⟩;cases hd:q.1.drop i with
 | nil =>
  rw[hd] at R';unfold ZO at R';have hl:q.1.length<=i:=List.drop_eq_nil_iff.mp hd;by_cases hch:q.2 st'
  ·rw[Yg hch] at R';exact .inl ⟨(hJ i O' H' st' kp W' hch).2 hl,R' O' H' σ' Keep.refl W' E'⟩
  ·rw[Yh hch] at R'; exact R'.elim
 | cons x xs =>
  rw[hd] at R';unfold ZO at R';have hx:q.1[i]?=some x:=by
   have:=Ub (xs:=q.1) (i:=i) (j:=0);rw[hd] at this;simpa using this.symm
  have hxs:q.1.drop (i+1)=xs:=by
   have:=UF (i:=1) (j:=i) (l:=q.1);rw[hd] at this;simpa using this.symm
  have hi:i<q.1.length:=(Yc.mp hx).1;by_cases hch:q.2 st'
  ·rw[Yg hch] at R';obtain⟨hgo,hy⟩:=(hJ i O' H' st' kp W' hch).1 x hx;refine .inr ⟨hgo,fun σ2 H2=>(m - 1)+(i+1)=q.1.length/\∃O' ρ' st',True/\WR X.K O' H2 st'/\Keep X.K O1 H1 O' H2/\REnv X.K O' H2 ρ' σ2/\RunS X.K EX Dn O' H2 (ZO q.2 t g (q.1.drop (i+1)) ρ' st'),?_,?_⟩
   ·rintro σ2 H2 ⟨h1,O2,ρ2,st2,_,W2,kp2,E2,R2⟩;exact⟨m - 1,by omega,h1,O2,ρ2,st2,kp2,W2,E2,R2⟩
   ·intro v H2 hv;obtain⟨ky,Wy,ry⟩:=hy v H2 hv;cases ht:t x ρ' with
    | none=>rw[ht] at R'; exact R'.elim
    | some ρ1 =>
     rw[ht] at R';dsimp only at R';refine⟨O',x,ρ',ρ1,ry,E'.mono ky,ht,fun σ2 E2=>⟨O',ρ1,st',Wy,E2,?_⟩⟩;cases hgr:g ρ1 st' with
     | nx ρ2 st2 =>
      rw[hgr] at R';intro O3 H3 σ3 k3 W3 E3;exact⟨by omega,O3,ρ2,st2,trivial,W3,kp.trans (ky.trans k3),E3,by rw[hxs]; exact RunS.later R' (ky.trans k3)⟩
     | ct ρ2 st2 =>
      rw[hgr] at R';intro O3 H3 σ3 k3 W3 E3;exact⟨by omega,O3,ρ2,st2,trivial,W3,kp.trans (ky.trans k3),E3,by rw[hxs]; exact RunS.later R' (ky.trans k3)⟩
     | bk ρ2 st2 =>
      rw[hgr] at R';exact fun O3 H3 σ3 k3 W3 E3=>R' O3 H3 σ3 (ky.trans k3) W3 E3
     | rt d st2 =>
      rw[hgr] at R';exact fun O3 H3 σ3 k3 W3 E3=>R' O3 H3 σ3 (ky.trans k3) W3 E3
     | exc c st2 =>
      rw[hgr] at R';exact fun O3 H3 k3 W3=>R' O3 H3 (ky.trans k3) W3
     | bad=>rw[hgr] at R'; exact R'
  ·rw[Yh hch] at R'; exact R'.elim
end
def Zbq(n:Nat)(t:DT)(g:DS):DS:=match n with
 | 0=>fun _ _ => .bad
 | n+1=>fun ρ st=>(t ρ st).to fun b st1=>if b=true then (match g ρ st1 with
  | .nx ρ' st'=>Zbq n t g ρ' st'
  | .ct ρ' st'=>Zbq n t g ρ' st'
  | .bk ρ' st' => .nx ρ' st'
  | r=>r) else .nx ρ st1
section
variable{X:Cx}{EX:EXT}{c:Expr}{t:DT}{g:DS}{pos:Pos}{body:List Stmt}
theorem Zo1(n:Nat)(hp:PassesOwn (model X.prog X.w) X.A X.env X.xe)(hc:PDT X EX c t)(hb:PDS X EX body g):PDs X EX (.While c body [] pos) (Zbq n t g):=by
 refine PS.mono (ZlC hp hc hb) ?_;rintro Dn σ H ⟨O,ρ,st,W,E,R⟩;refine⟨fun m σ' H' => ∃O' ρ' st',WR X.K O' H' st'/\REnv X.K O' H' ρ' σ'/\RunS X.K EX Dn O' H' (Zbq m t g ρ' st'),⟨n,O,ρ,st,W,E,R⟩,?_⟩;rintro m σ' H' ⟨O',ρ',st',W',E',R'⟩;cases m with
 | zero=>exact R'.elim
 | succ m =>
  unfold Zbq at R';refine⟨O',ρ',st',W',E',R'.to.mono fun b st1 O1 H1 k1 W1 R1 => ?_⟩;cases b with
  | false=>exact R1 O1 H1 σ' Keep.refl W1 (E'.mono k1)
  | true =>
   refine⟨fun σ2 H2 => ∃O' ρ' st',WR X.K O' H2 st'/\REnv X.K O' H2 ρ' σ2/\RunS X.K EX Dn O' H2 (Zbq m t g ρ' st'),fun σ2 H2 h=>⟨m,Qg m,h⟩,O1,ρ',st1,W1,E'.mono k1,?_⟩;rw[Yg rfl] at R1;cases hgr:g ρ' st1 with
   | nx ρ2 st2 =>
    rw[hgr] at R1;exact fun O3 H3 σ3 k3 W3 E3=>⟨O3,ρ2,st2,W3,E3,RunS.later R1 k3⟩
   | ct ρ2 st2 =>
    rw[hgr] at R1;exact fun O3 H3 σ3 k3 W3 E3=>⟨O3,ρ2,st2,W3,E3,RunS.later R1 k3⟩
   | bk ρ2 st2=>rw[hgr] at R1; exact R1
   | rt d st2=>rw[hgr] at R1; exact R1
   | exc c st2=>rw[hgr] at R1; exact R1
   | bad=>rw[hgr] at R1; exact R1
end
end DL
end
section
namespace DL
open PySem PySem.Spec PyProof.Rows L2
section
variable{prog:P5}{w:World}{A:P4}{E:P7->P1->Prop}{R:Result->P1->Prop}{s:P1}
theorem Zpg{elt target iter:Expr}{ifs:List Expr}{scope:Scope}{pos:Pos}{it acc:P7}{env:Env}(I:Nat->P1->Prop)
  (turn:∀n s,I n s->wpAny (model prog w) A (pyNext it) (fun r s₁=>match r with
   | none=>R (.ok .next) s₁
   | some v=>wpAny (model prog w) A (letOwnedTupleGo target it v) (fun _ s₁'=>wpAny (model prog w) A (assign target env v) (fun _ s₂ =>
     wpAny (model prog w) A (forIn ifs true fun c r=>if r=true then do let ok <-isTrue c env (eval c env); pure (ForInStep.yield ok) else pure (ForInStep.yield r)) (fun ok s₃ =>
      if ok=true then wpAny (model prog w) A (eval elt env) (fun x s₄ =>
       wpAny (model prog w) A (call (.builtin "list.append") [acc,x]) (fun _ s₅ => ∃m,m<n/\I m s₅) (fun _ _=>False) s₄) (fun _ _=>False) s₃
      else ∃m,m<n/\I m s₃) (fun _ _=>False) s₂) (fun _ _=>False) s₁') (fun _ _=>False) s₁) (fun _ _=>False) s)
  (n:Nat) (h:I n s) :
  codeAny (model prog w) A (.compLoop (.ListComp elt [⟨target,iter,ifs,0⟩] scope pos) 0 it acc env) R s:=by
 refine codeAny_loop rfl I (fun n s hI => ?_) n h;show wpAny _ A ((compTurn (.ListComp elt [⟨target,iter,ifs,0⟩] scope pos) 0 it acc env).onRaise (fun x=>do noteFrame x env; theTreesLotGoes x)) _ _ s;refine wpAny_noted ?_;rw[compTurn_list];refine Ya (wpAny_standAt (Ya (YW (turn n s hI) (fun r s₁ h₁ => ?_) fun _ _ h'=>h'.elim)));cases r with
 | none=>exact Yb h₁
 | some v =>
  refine Ya (YW h₁ (fun _ s₁' h₁' => ?_) fun _ _ h'=>h'.elim);refine Ya (YW h₁' (fun _ s₂ h₂=>Ya (YW h₂ (fun ok s₃ h₃ => ?_) fun _ _ h'=>h'.elim)) fun _ _ h'=>h'.elim);cases ok with
  | false=>exact Yb ⟨rfl,h₃⟩
  | true =>
   exact Ya (Ya (YW h₃ (fun x s₄ h₄=>Ya (YW h₄ (fun _ s₅ h₅=>Yb (Yb ⟨rfl,h₅⟩)) fun _ _ h'=>h'.elim)) fun _ _ h'=>h'.elim))
theorem Znh{l:Addr}{items:List P7}{n:Nat}{x:P7}{Q:P7->P1->Prop}(ho:s.heap.get? l=some { cls:=.type "list",data:=.seq items.toArray n })
  (hQ:∀h',h'.get? l=some { cls:=.type "list",data:=.seq (items++[x]).toArray (n+1) }->Heap.SameBut l s.heap h'->Q .none { s with heap:=h' }) (hsz:items.length<=sizeLine) :
  wpAny (model prog w) A (call (.builtin "list.append") [.ref l,x]) Q E s:=by
 have hl:s.heap.IsList l items.toArray:=⟨_,ho,rfl,n,rfl⟩;refine YU slot_list_append hl.typeIs entry_list_append ?_ (args_list_append _ _);show wpAny _ _ (updateSeq l (·.push x) >>= fun _=>ret .none) _ _ s;refine Ya ?_;refine wpAny_updateSeq (hz:=by rw[Yu]; exact hsz) ho rfl (Yb ⟨.none,rfl,hQ _ ?_ (YH ..)⟩);rw[YL _ ho (by rfl)];simp[Obj.mapSeq]
end
def Zas(env:Env):List (Str×NameKind)->List (Str×Addr)->List (Str×Addr)
 | [],acc=>acc
 | (n,k) :: r,acc=>if k == .free then (match env.cells.lookup n with
  | some a=>Zas env r ((n,a) :: acc)
  | none=>Zas env r acc) else Zas env r acc
theorem ZkG(env:Env):∀(names:List (Str×NameKind)) (acc:List (Str×Addr)),(∀y∈names,y.2 = .free->∃a,env.cells.lookup y.1=some a) ->
  (forIn names acc fun (x:Str×NameKind) (cs:List (Str×Addr))=>(if (x.2 == NameKind.free)=true then do let a <-cellOf env x.1; pure (ForInStep.yield ((x.1,a) :: cs)) else pure (ForInStep.yield cs):Sem (ForInStep (List (Str×Addr)))))=pure (Zas env names acc)
 | [],acc,_=>rfl
 | (n,k) :: r,acc,h=>by
  have ih:=fun acc=>ZkG env r acc fun y hy=>h y (Yl _ hy);rw[UD];unfold Zas;by_cases hk:(k == NameKind.free)=true
  ·obtain⟨a,ha⟩:=h (n,k) Yt (by simpa using hk);have e:cellOf env n=pure a:=by unfold cellOf; rw[ha]
   simp only[hk,Qb,e,ha,pure_bind];exact ih _
  ·have hk':(k == NameKind.free)=false:=by simpa using hk
   simp only[hk',YQ,Wz,pure_bind];exact ih _
theorem Zq1{scope:Scope}{env:Env}(h:∀y∈scope.names,y.2 = .free->∃a,env.cells.lookup y.1=some a):closureFor scope env=pure (Zas env scope.names []):=by
 have e:=ZkG env scope.names [] h;unfold closureFor;simp only[bind_pure];refine Eq.trans ?_ e;rfl
theorem Zdj{env:Env}{x:Str}{c:Addr}:∀(names:List (Str×NameKind)) (acc:List (Str×Addr)),(∀y a,acc.lookup y=some a->env.cells.lookup y=some a)->(Zas env names acc).lookup x=some c->env.cells.lookup x=some c
 | [],acc,h,e=>h x c e
 | (n,k) :: r,acc,h,e=>by
  unfold Zas at e;split at e
  ·split at e
   ·rename_i a ha;refine Zdj r _ (fun y b hb => ?_) e;rw[Q3] at hb;cases hy:y == n with
    | true =>
     rw[hy] at hb;have ey:y=n:=eq_of_beq hy;subst ey;cases hb;exact ha
    | false=>rw[hy] at hb; exact h y b hb
   ·exact Zdj r _ h e
  ·exact Zdj r _ h e
theorem ZdY{env:Env}{x:Str}{c:Addr}(hx:env.cells.lookup x=some c):∀(names:List (Str×NameKind)) (acc:List (Str×Addr)),acc.lookup x=some c\/(x,NameKind.free)∈names->(Zas env names acc).lookup x=some c
 | [],acc,h=>by
  rcases h with h | h
  ·exact h
  ·cases h
 | (n,k) :: r,acc,h=>by
  unfold Zas;have keep:∀a,env.cells.lookup n=some a->acc.lookup x=some c->((n,a) :: acc).lookup x=some c:=by
   intro a ha hl;rw[Q3];cases hy:x == n with
   | true =>
    have ey:x=n:=eq_of_beq hy;subst ey;rw[hx] at ha;cases ha;rfl
   | false=>exact hl
  split
  ·rename_i hk;split
   ·rename_i a ha;refine ZdY hx r _ ?_;rcases h with h | h
    ·exact .inl (keep a ha h)
    ·rcases Yn.mp h with e | h
     ·cases e;refine .inl ?_;rw[hx] at ha;cases ha;simp
     ·exact .inr h
   ·rename_i hn;refine ZdY hx r _ ?_;rcases h with h | h
    ·exact .inl h
    ·rcases Yn.mp h with e | h
     ·cases e;rw[hx] at hn;cases hn
     ·exact .inr h
  ·rename_i hk;refine ZdY hx r _ ?_;rcases h with h | h
   ·exact .inl h
   ·rcases Yn.mp h with e | h
    ·cases e;exact absurd rfl hk
    ·exact .inr h
def Za6(scope sc:Scope):Scope :=
 { scope with names:=scope.names.map fun (n,k)=>if (k == .free && sc.kind == .function && sc.names.lookup n == some .cell) then (n,.cell) else (n,k) }
structure Blk(sc scope:Scope)(N0 N:List Str)(caps:List Nat)(nT:Nat):Prop where
 kind:scope.kind = .function
 nocell:∀y∈scope.names,y.2≠.cell
 names:∀y∈scope.names,y.2 = .local->scope.names.lookup y.1=some .local
 free:∀y∈scope.names,y.2 = .free->sc.names.lookup y.1=some .cell\/sc.names.lookup y.1=some .free
 len:N.length=nT+caps.length
 cap:∀q∈(List.range caps.length),∃i x,caps[q]?=some i/\N[nT+q]?=some x/\N0[i]?=some x/\(x,NameKind.free)∈scope.names/\((Za6 scope sc).names.lookup x=some .cell\/(Za6 scope sc).names.lookup x=some .free)
def Zb1(sc scope:Scope)(N0 N:List Str)(caps:List Nat)(nT:Nat):Bool :=
 (scope.kind == .function) && scope.names.all (fun y => !(y.2 == .cell)) && scope.names.all (fun y => !(y.2 == .local) || scope.names.lookup y.1 == some .local) &&
  scope.names.all (fun y => !(y.2 == .free) || (sc.names.lookup y.1 == some .cell || sc.names.lookup y.1 == some .free)) && (N.length == nT+caps.length) &&
  (List.range caps.length).all fun q=>match caps[q]?,N[nT+q]? with
   | some i,some x=>(N0[i]? == some x) && scope.names.any (fun y=>y.1 == x && y.2 == .free) && ((Za6 scope sc).names.lookup x == some .cell || (Za6 scope sc).names.lookup x == some .free)
   | _,_=>false
theorem Blk.of{sc scope:Scope}{N0 N:List Str}{caps:List Nat}{nT:Nat}(h:Zb1 sc scope N0 N caps nT=true):Blk sc scope N0 N caps nT:=by
 unfold Zb1 at h;simp only[Y2] at h;obtain⟨⟨⟨⟨⟨h1,h2⟩,h3⟩,h4⟩,h5⟩,h6⟩:=h;refine⟨eq_of_beq h1,fun y hy => ?_,fun y hy hl => ?_,fun y hy hl => ?_,eq_of_beq h5,fun q hq => ?_⟩
 ·have:=WJ.mp h2 y hy;simpa using this
 ·have:=WJ.mp h3 y hy;rw[hl] at this;simpa using this
 ·have:=WJ.mp h4 y hy;rw[hl] at this;simpa using this
 ·have:=WJ.mp h6 q hq;split at this
  ·rename_i i x e1 e2;simp only[Y2,VW,QF,Vj] at this;obtain⟨⟨g1,⟨y,g2,g3,g4⟩⟩,g5⟩:=this;refine⟨i,x,e1,e2,g1,?_,g5⟩;obtain⟨y1,y2⟩:=y;simp only at g3 g4;subst g3 g4;exact g2
  ·cases this
def cxC(X:Cx)(N:List Str)(scope:Scope)(acc:Addr)(fp:List Addr)(s3:P1)(H:Hp):Cx :=
 { X with N:=N,s₀:=s3,H₀:=H,env:=compEnvC scope (Zas X.env scope.names []) s3.heap.objs.size X.env,outer:=X.stack,ex:=acc :: fp,fn:=fun _=>false,pn:=[],xe:=fun _ _=>False }
def Zat(ρ:Ev)(caps:List Nat)(nT:Nat):Ev:=List.replicate nT none++caps.map fun i=>(ρ[i]?).join
def ZbG(σ:L2.St)(caps:List Nat)(nT:Nat):L2.St:=List.replicate nT none++caps.map fun i=>(σ[i]?).join
theorem ZmJ{K:P3}{O:List Addr}{H:Hp}{ρ:Ev}{σ:L2.St}(E:REnv K O H ρ σ)(caps:List Nat)(nT:Nat):REnv K O H (Zat ρ caps nT) (ZbG σ caps nT):=by
 refine⟨by simp[Zat,ZbG],fun i d h => ?_⟩;unfold Zat at h;unfold ZbG;by_cases hi:i<nT
 ·rw[YD (by simpa using hi),QM] at h;split at h <;> cases h
 ·rw[YZ (by simpa using hi)] at h ⊢;rw[VL,YO] at h ⊢;cases hc:caps[i - nT]? with
  | none=>rw[hc] at h; cases h
  | some j =>
   rw[hc] at h;simp only[Qq,YE] at h ⊢;cases hj:ρ[j]? with
   | none=>rw[hj] at h; cases h
   | some z =>
    rw[hj] at h;simp only[Option.join_some] at h;subst h;obtain⟨v,h1,h2⟩:=E.at_ j d hj;exact⟨v,by rw[h1]; rfl,h2⟩
section
variable{X:Cx}{pins:List (Addr×Obj)}{σ:L2.St}{H:Hp}{s:P1}{scope:Scope}{N:List Str}{caps:List Nat}{nT:Nat}{fp:List Addr}
theorem Zrb(B:Blk X.env.scope scope X.N N caps nT)(I:Inv X pins σ H s)(hf:∀b∈fp,ZaF X pins H b)(ho:∀b∈fp,∃o,s.heap.get? b=some o){h4:Heap}{tk:Nat}
  (hns:h4.Ns (s.heap.push { cls:=.type "list",data:=.seq ([]:List P7).toArray }).objs.size (fun x=>([]:List (Str×P7)).reverse.lookup x))
  (hsb:Heap.SameBut (s.heap.push { cls:=.type "list",data:=.seq ([]:List P7).toArray }).objs.size ((s.heap.push { cls:=.type "list",data:=.seq ([]:List P7).toArray }).push { cls:=.type "dict",data:=.dict #[] }) h4) :
  Inv (cxC X N scope s.heap.objs.size fp { s with heap:=s.heap.push { cls:=.type "list",data:=.seq ([]:List P7).toArray } } H) [] (ZbG σ caps nT) H { s with heap:=h4,toks:=tk }:=by
 generalize hH2:s.heap.push { cls:=.type "list",data:=.seq ([]:List P7).toArray }=h3 at hns hsb ⊢;have hC:h3.objs.size=s.heap.objs.size+1:=by rw[<-hH2,WM]
 have k3:∀b o,s.heap.get? b=some o->h3.get? b=some o:=fun b o e=>hH2 ▸ Ye _ e;have I3:Inv X pins σ H { s with heap:=h3 }:=I.kept (t':=s.toks) k3;have k4:∀b o,h3.get? b=some o->h4.get? b=some o:=fun b o e=>hsb.extBut b o (Yx (Ym e)) (Ye _ e);have lt3:∀b o,s.heap.get? b=some o->b<h3.objs.size:=fun b o e=>Ym (k3 b o e);have cells:∀x c,(Zas X.env scope.names []).lookup x=some c->X.env.cells.lookup x=some c:=fun x c e=>Zdj scope.names [] (fun y a z=>by cases z) e;have ok:(cxC X N scope s.heap.objs.size fp { s with heap:=h3 } H).Ok:=by
  refine⟨I.ok.mod,B.kind,I.ok.glob,I.ok.blt,Yi _,fun x y c h1 h2=>I.ok.inj x y c (cells _ _ h1) (cells _ _ h2),?_,fun x c hx=>(by cases hx),I.ok.hd,I.ok.frames,.inl rfl,?_,I3.bs,YI I.ok.bsz (YI I.sz (by show s.heap.objs.size<=h3.objs.size; omega)),?_,?_,I3.stack,I3.stkFree⟩
  ·intro x hx;have hx':(Za6 scope X.env.scope).names.lookup x=some .cell\/(Za6 scope X.env.scope).names.lookup x=some .free:=hx;have hm:(x,NameKind.free)∈scope.names:=by
    have mem:∀(l:List (Str×NameKind)),((l.map fun (n,k)=>if (k == NameKind.free && X.env.scope.kind == .function && X.env.scope.names.lookup n == some .cell) then (n,NameKind.cell) else (n,k)).lookup x=some .cell\/(l.map fun (n,k)=>if (k == NameKind.free && X.env.scope.kind == .function && X.env.scope.names.lookup n == some .cell) then (n,NameKind.cell) else (n,k)).lookup x=some .free)->(∀y∈l,y.2≠.cell)->(x,NameKind.free)∈l:=by
     intro l
     induction l with
     | nil=>intro h _; rcases h with h | h <;> cases h
     | cons y l ih =>
      obtain⟨n,k⟩:=y;intro h hnc;rw[YF] at h;by_cases hc:(k == NameKind.free && X.env.scope.kind == .function && X.env.scope.names.lookup n == some .cell)=true
      ·simp only[hc,Qb,Q3] at h;have hk:k = .free:=by simp only[Y2] at hc; simpa using hc.1.1
       cases hy:x == n with
       | true=>rw[eq_of_beq hy,hk]; exact Yt
       | false =>
        rw[hy] at h;exact Yl _ (ih h fun z hz=>hnc z (Yl _ hz))
      ·simp only[hc,Wz,Q3,YQ] at h;cases hy:x == n with
       | true =>
        rw[hy] at h;have hk:k = .free:=by
         rcases h with h | h
         ·exact absurd (Option.some.inj h) (hnc (n,k) Yt)
         ·exact Option.some.inj h
        rw[eq_of_beq hy,hk]; exact Yt
       | false =>
        rw[hy] at h;exact Yl _ (ih h fun z hz=>hnc z (Yl _ hz))
    exact mem scope.names hx' B.nocell
   obtain⟨c,hc⟩:=I.ok.has x (B.free _ hm rfl);exact⟨c,ZdY hc scope.names [] (.inr hm)⟩
  ·intro b hb;rcases Yn.mp hb with rfl | hb
   ·refine⟨?_,fun x c h1 h2 => ?_⟩
    ·show s.heap.objs.size≠h3.objs.size;omega
    ·obtain⟨v,o,ho',_⟩:=I.cell x c (cells _ _ h1);exact absurd (h2 ▸ Ym ho') (Y8 _)
   ·obtain⟨o,ho'⟩:=ho b hb;refine⟨?_,fun x c h1=>(hf b hb).2.2.2.2.1 x c (cells _ _ h1)⟩;exact Yx (lt3 b o ho')
  ·intro b o hb;intro hm;rcases Yn.mp hm with rfl | hm
   ·exact absurd (Ym (I.bk _ _ hb)) (Y8 _)
   ·rcases (hf b hm).2.2.2.1 with h1 | h1
    ·exact I.ok.noex b o hb h1
    ·exact absurd (Yz (Ym (I.ok.bs b o hb).1) h1) (Y8 _)
  ·intro b hb hm;rcases Yn.mp hb with rfl | hb
   ·rcases Yn.mp (I.stkSub _ hm) with h1 | h1
    ·have:=I.lt;rw[<-h1] at this;exact absurd this (Y8 _)
    ·exact I.nofs (Yi _) h1
   ·rcases Yn.mp (I.stkSub _ hm) with h1 | h1
    ·exact (hf b hb).2.1 h1
    ·exact (hf b hb).2.2.1 h1
 refine⟨ok,rfl,I.bare,Un.kept k4,?_,?_,?_,?_,(fun p hp=>(by cases hp)),I3.hok.kept k4,?_⟩
 ·refine⟨_,hns,fun i x v h1 h2 hv => ?_⟩;by_cases hi:i<nT
  ·unfold ZbG at h2;rw[YD (by simpa using hi),QM] at h2;split at h2 <;> cases h2
  ·unfold ZbG at h2;rw[YZ (by simpa using hi),VL,YO] at h2;cases hc:caps[i - nT]? with
   | none=>rw[hc] at h2; cases h2
   | some j =>
    rw[hc] at h2;simp only[Qq,YE] at h2;cases hj:σ[j]? with
    | none=>rw[hj] at h2; cases h2
    | some z =>
     rw[hj] at h2;simp only[Option.join_some] at h2;subst h2;have hq:i - nT<caps.length:=(Yc.mp hc).1;obtain⟨j',x',e1,e2,e3,e4,e5⟩:=B.cap (i - nT) (WD.mpr hq);rw[hc] at e1;cases e1;have en:nT+(i - nT)=i:=by omega
     rw[en] at e2;have ex:x'=x:=Option.some.inj (e2.symm.trans h1);subst ex;have hk:=B.free _ e4 rfl;obtain⟨m,hm,hloc⟩:=I.loc;obtain⟨u,ru,lk⟩:=hloc j x' v e3 hj (hk.elim (fun z => .inr (.inl z)) fun z => .inr (.inr z));rcases lk with⟨hl,_⟩ | ⟨_,c,hc1,hc2⟩
     ·rcases hk with hk | hk
      ·have:X.env.scope.names.lookup x'=some .local:=hl;rw[hk] at this; cases this
      ·have:X.env.scope.names.lookup x'=some .local:=hl;rw[hk] at this; cases this
     ·refine⟨u,ru,.inr ⟨e5,c,ZdY hc1 scope.names [] (.inr e4),?_⟩⟩;obtain⟨o,ho',hd⟩:=hc2;exact⟨o,k4 _ _ (k3 _ _ ho'),hd⟩
 ·intro x c h1;obtain⟨v,o,ho',hd⟩:=I.cell x c (cells _ _ h1);exact⟨v,o,k4 _ _ (k3 _ _ ho'),hd⟩
 ·exact I3.hok.fresh (Yi _)
 ·intro x c h1;exact I.freeC x c (cells _ _ h1)
 ·show (ZbG σ caps nT).length=N.length;rw[B.len];simp[ZbG]
end
end DL
end
section
namespace DL
open PySem PySem.Spec PyProof.Rows L2
section
variable{X:Cx}{pins:List (Addr×Obj)}{σ:L2.St}{H:Hp}{s:P1}{scope:Scope}{N:List Str}{fp:List Addr}
theorem ZoR(I:Inv X pins σ H s)(hf:∀b∈fp,ZaF X pins H b){σc:L2.St}{H':Hp}{s':P1}{vs:List V}{its:List P7}{n:Nat}
  (J:Inv (cxC X N scope s.heap.objs.size fp { s with heap:=s.heap.push { cls:=.type "list",data:=.seq ([]:List P7).toArray } } H) [] σc H' s')
  (ha:s'.heap.get? s.heap.objs.size=some { cls:=.type "list",data:=.seq its.toArray n }) (hn:H' s.heap.objs.size=none) (hv:Vals vs its) (hz:vs.length<=sizeLine):Inv X pins σ (upd H' s.heap.objs.size (.lst vs)) s':=by
 have u:=J.base;have push:∀b o,s.heap.get? b=some o->(s.heap.push { cls:=.type "list",data:=.seq ([]:List P7).toArray }).get? b=some o:=fun b o e=>Ye _ e;have ne:∀b o,s.heap.get? b=some o->b≠s.heap.objs.size:=fun b o e=>Yx (Ym e);have nex:∀b o,s.heap.get? b=some o->b ∉ fp->b ∉ s.heap.objs.size :: fp:=fun b o e hb hm=>by
  rcases Yn.mp hm with h | h
  ·exact ne b o e h
  ·exact hb h
 refine I.call' (ch:=fp) J.os ?_ ?_ J.bare fun b hb=>⟨(hf b hb).2.2.2.1,(hf b hb).2.1,(hf b hb).2.2.2.2.1,(hf b hb).2.2.2.2.2⟩
 ·refine⟨fun b o e h0 h1 h2=>u.keep b o (push b o e) h0 h1 (nex b o e h2),fun b o e h0 h1 h2=>u.slot b o (push b o e) h0 h1 (nex b o e h2),fun b o e h0 h2 => ?_,fun b o e h2=>u.there b o (push b o e) (nex b o e h2),fun b xs e => ?_,fun b o w e => ?_,fun b ps e => ?_⟩
  ·rw[Zp (ne b o e)];exact u.free b o (push b o e) h0 (nex b o e h2)
  ·have h1:=u.tups b xs e;rw[Zp (Z5 h1 hn)];exact h1
  ·have h1:=u.frzs b o w e;rw[Zp (Z5 h1 hn)];exact h1
  ·obtain⟨more,h1⟩:=u.tbls b ps e;exact⟨more,by rw[Zp (Z5 h1 hn)]; exact h1⟩
 ·intro a o e;by_cases haa:a=s.heap.objs.size
  ·subst haa;rw[Zai] at e;cases e;exact⟨hz,its,n,hv,ha⟩
  ·rw[Zp haa] at e;exact (J.hok a o e).stay (fun b u _ q=>q) (fun b q=>by rw[Zp (Z5 q hn)]; exact q) fun b xs q=>by rw[Zp (Z5 q hn)]; exact q
end
def Zbw:DT:=fun _ st => .ok true st
open Classical in
def Z1(chk:Sto->Prop)(t:TgD)(cond:DT)(fe:DE):List D->Ev->Sto->List D->Out (List D)
 | [],_,st,acc=>if chk st then .ok acc st else .bad
 | x :: xs,ρ,st,acc=>if chk st/\acc.length<small then (match t x ρ with
  | none => .bad
  | some ρ1=>match cond ρ1 st with
   | .ok true st1=>(match fe ρ1 st1 with
    | .ok d st2=>Z1 chk t cond fe xs ρ1 st2 (acc++[d])
    | _ => .bad)
   | .ok false st1=>Z1 chk t cond fe xs ρ1 st1 acc
   | _ => .bad) else .bad
def Za5(caps:List Nat)(nT:Nat)(f:DI)(t:TgD)(cond:DT)(fe:DE):DA:=fun ρ st=>(f ρ st).bind fun q st1=>Z1 q.2 t cond fe q.1 (Zat ρ caps nT) st1 []
def PTs(X:Cx)(ifs:List Expr)(cond:DT):Prop:=∀(pins:List (Addr×Obj)) (s:P1) (σ:L2.St) (H:Hp) (Q:Bool->Hp->Prop),Inv X pins σ H s->tDT X.K EX0 cond σ H Q ->
 wpAny (model X.prog X.w) X.A (forIn ifs true fun c r=>if r=true then do let ok <-isTrue c X.env (eval c X.env); pure (ForInStep.yield ok) else pure (ForInStep.yield r)) (TP X pins σ Q) X.xe s
theorem ZgB{X:Cx}:PTs X [] Zbw:=by
 rintro pins s σ H Q I ⟨O,ρ,st,W,E,R⟩;exact wpAny_tests_nil ⟨H,I,Run.now (k:=fun b _ _ H'=>Q b H') R W⟩
theorem Zg1{X:Cx}{c:Expr}{t:DT}(h:PDT X EX0 c t):PTs X [c] t:=fun pins s σ H Q I q=>wpAny_tests_one (h pins s σ H Q I q)
section
variable{X:Cx}{EX:EXT}{scope:Scope}{N:List Str}{caps:List Nat}{nT:Nat}{elt tg iter:Expr}{ifs:List Expr}{pos:Pos}{f:DI}{t:TgD}{cond:DT}{fe:DE}
structure BlkOk(X:Cx)(scope:Scope)(N:List Str)(caps:List Nat)(nT:Nat)(tg elt:Expr)(ifs:List Expr)(t:TgD)(cond:DT)(fe:DE):Prop where
 blk:Blk X.env.scope scope X.N N caps nT
 tgt:∀acc fp s3 H,PGD (cxC X N scope acc fp s3 H) tg t
 tst:∀acc fp s3 H,PTs (cxC X N scope acc fp s3 H) ifs cond
 elt:∀acc fp s3 H,PD (cxC X N scope acc fp s3 H) EX0 elt fe
def ItF(K:P3)(J:It)(O0:List Addr)(H0:Hp)(q:Wk):Prop :=
 ∀(i:Nat) (O:List Addr) (H:Hp) (st:Sto),Keep K O0 H0 O H->(∀b o u,H0 b=some (.frz o u)->H b=some (.frz o u))->WR K O H st->q.2 st ->
  (∀d,q.1[i]?=some d->J.go i H/\∀x H',J.yld i H x H'->Keep K O H O H'/\WR K O H' st/\Rep K O H' d x)/\(q.1.length<=i->J.stop i H)
theorem ItD.fz{K:P3}{J:It}{O0:List Addr}{H0:Hp}{q:Wk}(h:ItD K J O0 H0 q):ItF K J O0 H0 q:=fun i O H st k _=>h i O H st k
theorem Zqk(hc:X.calm=true)(B:BlkOk X scope N caps nT tg elt ifs t cond fe){pins:List (Addr×Obj)}{σ:L2.St}{H:Hp}{s:P1}{O:List Addr}{ρ:Ev}{st:Sto}{q:Wk}{J:It}{fp:List Addr}{it:Addr}{tn:Nat->Heap->Prop}{Q:VK}{E:P7->P1->Prop}
  {RR:P7->Addr->Result->P1->Prop}
  (I:Inv X pins σ H s) (T:Turn X.prog X.w X.K tg J fp it tn) (h0:tn 0 s.heap) (hf:∀b∈fp,ZaF X pins H b) (hJ:ItF X.K J O H q) (W:WR X.K O H st) (Er:REnv X.K O H ρ σ)
  (R:Run X.K EX O H (Z1 q.2 t cond fe q.1 (Zat ρ caps nT) st []) (New X.K Q))
  (hRR:∀(p C:Addr) (H':Hp) (vs:List V) (s':P1) (m:Str->Option P7),s.heap.objs.size<=C->H' C=none->s'.heap.Ns C m->p≠C->Inv X pins σ (upd H' p (.lst vs)) s'->Q (.ref p) (upd H' p (.lst vs))->RR (.ref p) C (.ok .next) s') :
  wpAny (model X.prog X.w) X.A (newList []) (fun acc s₃=>wpAny (model X.prog X.w) X.A (newFunctionEnv scope X.env.globals (Zas X.env scope.names []) [] X.env.qual none .none (some X.env)) (fun cenv s₄ =>
   codeAny (model X.prog X.w) X.A (.compStart (.ListComp elt [⟨tg,iter,ifs,0⟩] scope pos) 0 (.ref it) acc { cenv with scope:=relabel scope X.env }) (RR acc cenv.locals) s₄) E s₃) E s:=by
 refine Y3 (wpAny_newFunctionEnv B.blk.nocell (by intro y hy; simp at hy) (fun h₁ hns₁ hsb₁ => ?_) B.blk.kind);dsimp only at hns₁ hsb₁ ⊢;have ltC:s.heap.objs.size<(s.heap.push { cls:=.type "list",data:=.seq ([]:List P7).toArray }).objs.size:=by rw[WM]; exact Qg _
 have fpo:∀b∈fp,∃o,s.heap.get? b=some o:=fun b hb=>let ⟨o,e,_⟩:=T.obj 0 _ h0 b hb; ⟨o,e⟩
 have I4:=Zrb (tk:=s.toks+([]:List (Str×P7)).length) B.blk I hf fpo hns₁ hsb₁;have fpne:∀b∈fp,b≠s.heap.objs.size:=fun b hb=>let ⟨o,e⟩:=fpo b hb; Yx (Ym e)
 generalize hXC:cxC X N scope s.heap.objs.size fp { s with heap:=s.heap.push { cls:=.type "list",data:=.seq ([]:List P7).toArray } } H=XC at I4;have fok:∀(H':Hp) (P:List (Addr×Obj)),(∀b∈fp,H' b=none)->(∀p∈P,p.1 ∉ fp)->∀b∈fp,ZaF XC P H' b:=by
  intro H' P h1 h2 b hb;subst hXC;obtain⟨o,e⟩:=fpo b hb;refine⟨h1 b hb,Yx (VX (Ym e) ltC),fun hm => ?_,.inl (Yl _ hb),fun x c hx=>(hf b hb).2.2.2.2.1 x c (Zdj scope.names [] (fun y a z=>(by cases z)) hx),fun p hp hpe=>h2 p (by have hp':p∈[]++P:=hp; simpa using hp') (hpe ▸ hb)⟩;rcases Yn.mp (I.stkSub _ hm) with z | z
  ·exact (hf b hb).2.1 z
  ·exact (hf b hb).2.2.1 z
 have aok:∀(H':Hp),H' s.heap.objs.size=none->ZaF XC [] H' s.heap.objs.size:=by
  intro H' h1;subst hXC;refine⟨h1,Yx ltC,fun hm => ?_,.inl Yt,fun x c hx z => ?_,fun p hp=>by cases hp⟩
  ·rcases Yn.mp (I.stkSub _ hm) with z | z
   ·have:=I.lt;rw[<-z] at this;exact absurd this (Y8 _)
   ·exact I.nofs (Yi _) z
  ·obtain⟨v,o,ho',_⟩:=I.cell x c (Zdj scope.names [] (fun y a z=>(by cases z)) hx);exact absurd (z ▸ Ym ho') (Y8 _)
 have k4:∀b o,s.heap.get? b=some o->h₁.get? b=some o:=fun b o e=>hsb₁.extBut b o (Yx (VX (Ym e) ltC)) (Ye _ (Ye _ e));have hacc0:h₁.get? s.heap.objs.size=some { cls:=.type "list",data:=.seq ([]:List P7).toArray }:=hsb₁.extBut _ _ (Yx ltC) (Ye _ (Yq _ rfl));have eP:XC.prog=X.prog:=by subst hXC; rfl
 have eW:XC.w=X.w:=by subst hXC; rfl
 have eK:XC.K=X.K:=by subst hXC; rfl
 have eA:XC.A=X.A:=by subst hXC; rfl
 have eC:XC.calm=true:=by subst hXC; exact hc
 have eX:XC.xe=fun _ _=>False:=by subst hXC; rfl
 have eE:XC.env=compEnvC scope (Zas X.env scope.names []) (s.heap.push { cls:=.type "list",data:=.seq ([]:List P7).toArray }).objs.size X.env:=by subst hXC; rfl
 have loop:∀s4:P1,s4 = { s with heap:=h₁,toks:=s.toks+([]:List (Str×P7)).length } ->
   codeAny (model X.prog X.w) X.A (.compLoop (.ListComp elt [⟨tg,iter,ifs,0⟩] scope pos) 0 (.ref it) (.ref s.heap.objs.size) XC.env) (RR (.ref s.heap.objs.size) (s.heap.push { cls:=.type "list",data:=.seq ([]:List P7).toArray }).objs.size) s4:=by
  intro s4 es4;refine Zpg (fun n s' => ∃(i:Nat) (O':List Addr) (ρ':Ev) (st':Sto) (ds:List D) (vs:List V) (its:List P7) (nn:Nat) (H':Hp) (σc:L2.St),n+i=q.1.length/\Inv XC [] σc H' s'/\Keep X.K O H O' H'/\WR X.K O' H' st'/\REnv X.K O' H' ρ' σc/\tn i s'.heap /\
   (∀b∈fp,H' b=none)/\s'.heap.get? s.heap.objs.size=some { cls:=.type "list",data:=.seq its.toArray nn }/\H' s.heap.objs.size=none/\Vals vs its/\Reps X.K O' H' ds vs/\ds.length<=small/\Run X.K EX O' H' (Z1 q.2 t cond fe (q.1.drop i) ρ' st' ds) (New X.K Q)) ?_ q.1.length ?_
  ·rintro n s' ⟨i,O',ρ',st',ds,vs,its,nn,H',σc,hn,Ic,kp,W',E',htn,hfn,hacc,haccH,hv,hr,hz,hR⟩;have IcA:Inv XC (ZaD [s.heap.objs.size] s'.heap) σc H' s':=by
    have:=Ic.pinned (fp:=[s.heap.objs.size]) (fun b hb=>by rw[Ys] at hb; subst hb; exact aok H' haccH) (fun b hb=>by rw[Ys] at hb; subst hb; exact⟨_,hacc,fun v z=>by cases z⟩);simpa using this
   have pA:∀p∈ZaD [s.heap.objs.size] s'.heap,p.1 ∉ fp:=fun p hp hm=>by
    have:=(ZhZ hp).1;rw[Ys] at this;exact fpne _ hm this
   have fz:∀b o u,H b=some (.frz o u)->H' b=some (.frz o u):=by subst hXC; exact Ic.base.frzs
   have hpin:(s.heap.objs.size,({ cls:=.type "list",data:=.seq its.toArray nn }:Obj))∈ZaD [s.heap.objs.size] s'.heap:=Zec (Ys.mpr rfl) hacc;cases hd:q.1.drop i with
   | nil =>
    rw[hd] at hR;unfold Z1 at hR;by_cases hch:q.2 st'
    ·rw[Yg hch] at hR;have hl:q.1.length<=i:=List.drop_eq_nil_iff.mp hd;have hstop:=(hJ i O' H' st' kp fz W' hch).2 hl;have hw:=T.done XC eP eW eK eC i (ZaD [s.heap.objs.size] s'.heap) s' σc H' (fun _ _=>False) IcA (fok H' _ hfn pA) htn hstop;rw[eA] at hw;refine YW hw (fun r s1 hr1 => ?_) fun _ _ z=>z;obtain⟨rfl,I1⟩:=hr1;obtain⟨p1,p2,_⟩:=I1.pin _ (YK _ hpin);obtain⟨m,hm,_⟩:=I1.loc;have I1':Inv XC [] σc H' s1:=I1.pins_of fun p hp=>I1.pin p (Wn _ (by simpa using hp));have hCf:=I1.free;rw[eE] at hm hCf;refine hRR _ _ H' vs s1 m (VT ltC) hCf hm (Yx ltC) ?_ (Run.now (k:=New X.K Q) hR W' _ vs hr haccH);subst hXC;exact ZoR I hf I1' p1 haccH hv (by rw[<-hr.length]; exact YI hz ZaM)
    ·rw[Yh hch] at hR; exact hR.elim
   | cons x xs =>
    rw[hd] at hR;unfold Z1 at hR;have hx:q.1[i]?=some x:=by
     have:=Ub (xs:=q.1) (i:=i) (j:=0);rw[hd] at this;simpa using this.symm
    have hxs:q.1.drop (i+1)=xs:=by
     have:=UF (i:=1) (j:=i) (l:=q.1);rw[hd] at this;simpa using this.symm
    have hi:i<q.1.length:=(Yc.mp hx).1;by_cases hch:q.2 st'/\ds.length<small
    ·rw[Yg hch] at hR;obtain⟨hgo,hy⟩:=(hJ i O' H' st' kp fz W' hch.1).1 x hx;have hw:=T.item XC eP eW eK eC i (ZaD [s.heap.objs.size] s'.heap) s' σc H' (fun _ _=>False) IcA (fok H' _ hfn pA) htn hgo;rw[eA] at hw;refine YW hw (fun r s1 hr1 => ?_) fun _ _ z=>z;obtain⟨u,rfl,hw2⟩:=hr1;refine YW hw2 (fun _ s2 hr2 => ?_) fun _ _ z=>z;obtain⟨x',H1,I1,rx,hyl,htn1,hfn1⟩:=hr2;obtain⟨ky,Wy,ry⟩:=hy x' H1 hyl;cases ht:t x ρ' with
     | none=>rw[ht] at hR; exact hR.elim
     | some ρ1 =>
      rw[ht] at hR;dsimp only at hR;have I1':Inv XC (ZaD [s.heap.objs.size] s'.heap++ZaD fp s2.heap) σc H1 s2:=I1.pinned (fok H1 _ hfn1 pA) fun b hb=>T.obj (i+1) _ htn1 b hb;generalize hP2:ZaD [s.heap.objs.size] s'.heap++ZaD fp s2.heap=P2 at I1';have hpa:(s.heap.objs.size,({ cls:=.type "list",data:=.seq its.toArray nn }:Obj))∈P2:=hP2 ▸ Wn _ hpin;have hpf:∀b∈fp,∀o,s2.heap.get? b=some o->(b,o)∈P2:=fun b hb o e=>hP2 ▸ YK _ (Zec hb e);have back:∀{σ2:L2.St} {H2:Hp} {s3:P1},Inv XC P2 σ2 H2 s3->s3.heap.get? s.heap.objs.size=some { cls:=.type "list",data:=.seq its.toArray nn }/\H2 s.heap.objs.size=none/\(∀b∈fp,H2 b=none)/\(∀b∈fp,∀o,s2.heap.get? b=some o->s3.heap.get? b=some o)/\Inv XC [] σ2 H2 s3:=by
       intro σ2 H2 s3 I3;refine⟨(I3.pin _ (YK _ hpa)).1,(I3.pin _ (YK _ hpa)).2.1,fun b hb => ?_,fun b hb o e=>(I3.pin _ (YK _ (hpf b hb o e))).1,I3.pins_of fun p hp=>I3.pin p (Wn _ (by simpa using hp))⟩;obtain⟨o,e,_⟩:=T.obj (i+1) _ htn1 b hb;exact (I3.pin _ (YK _ (hpf b hb o e))).2.1
      have PG1:PGD XC tg t:=by subst hXC; exact B.tgt _ _ _ _
      have PT1:PTs XC ifs cond:=by subst hXC; exact B.tst _ _ _ _
      have PE1:PD XC EX0 elt fe:=by subst hXC; exact B.elt _ _ _ _
      have ha:=PG1 P2 s2 σc H1 x' u (fun σ' H''=>H''=H1/\REnv X.K O' H1 ρ1 σ') I1' rx ⟨O',x,ρ',ρ1,by rw[eK]; exact ry,by rw[eK]; exact E'.mono ky,ht,fun σ' E2=>⟨rfl,by rw[eK] at E2; exact E2⟩⟩;rw[eP,eW,eA,eX] at ha;refine YW ha (fun _ s3 hr3 => ?_) fun _ _ z=>z;obtain⟨σ2,H1',I3,rfl,E2⟩:=hr3;have hb:=PT1 P2 s3 σ2 H1' (fun b H'' => ∃O'' stb,cond ρ1 st' = .ok b stb/\Keep X.K O' H1' O'' H''/\WR X.K O'' H'' stb) I3 ⟨O',ρ1,st',by rw[eK]; exact Wy,by rw[eK]; exact E2,by
       rw[eK];cases hcnd:cond ρ1 st' with
       | ok b stb=>exact fun O'' H'' k W=>⟨O'',stb,rfl,k,W⟩
       | exc c stb=>rw[hcnd] at hR; exact hR.elim
       | bad=>rw[hcnd] at hR; exact hR.elim⟩
      rw[eP,eW,eA,eX] at hb;refine YW hb (fun ok s4 hr4 => ?_) fun _ _ z=>z;obtain⟨H2,I4',O2,stb,hcnd,kb,Wb⟩:=hr4;rw[hcnd] at hR;cases ok with
      | false =>
       dsimp only at hR;obtain⟨b1,b2,b3,b4,b5⟩:=back I4';refine⟨n - 1,by omega,i+1,O2,ρ1,stb,ds,vs,its,nn,H2,σ2,by omega,b5,kp.trans (ky.trans kb),Wb,E2.mono kb,T.keep _ _ _ htn1 b4,b3,b1,b2,hv,Reps.mono (ky.trans kb) _ _ hr,hz,?_⟩;rw[hxs];exact Run.later hR (ky.trans kb)
      | true =>
       dsimp only at hR;have he:=PE1 P2 s4 σ2 H2 (fun v H3 => ∃O3 st3 d,fe ρ1 stb = .ok d st3/\Keep X.K O2 H2 O3 H3/\WR X.K O3 H3 st3/\Rep X.K O3 H3 d v) I4' ⟨O2,ρ1,stb,by rw[eK]; exact Wb,by rw[eK]; exact E2.mono kb,by
        rw[eK];cases hfe:fe ρ1 stb with
        | ok d st3=>exact fun O3 H3 k W v r=>⟨O3,st3,d,rfl,k,W,r⟩
        | exc c st3=>rw[hfe] at hR; exact hR.elim
        | bad=>rw[hfe] at hR; exact hR.elim⟩
       rw[eP,eW,eA,eX] at he;refine YW he (fun uv s5 hr5 => ?_) fun _ _ z=>z;obtain⟨v,H3,I5,rv,O3,st3,d,hfe,ke,We,re⟩:=hr5;rw[hfe] at hR;dsimp only at hR;obtain⟨b1,b2,b3,b4,b5⟩:=back I5;refine Znh b1 (fun h6 hg6 hs6 => ?_) (by rw[<-hv.length,<-hr.length]; exact YI hz ZaM);obtain⟨f0,f1,f2,f3,f4,f5⟩:=aok H3 b2;have I6:Inv XC [] σ2 H3 { s5 with heap:=h6 }:=b5.turned (t':=s5.toks) (fun b o hb e=>(hs6.2 b hb).trans e) f0 f1 f3 f4 f5;refine⟨n - 1,by omega,i+1,O3,ρ1,st3,ds++[d],vs++[v],its++[uv],nn+1,H3,σ2,by omega,I6,kp.trans (ky.trans (kb.trans ke)),We,E2.mono (kb.trans ke),T.keep _ _ _ htn1 (fun b hb o e=>(hs6.2 b (fpne b hb)).trans (b4 b hb o e)),b3,hg6,b2,hv.append (.cons rv .nil),(Reps.mono (ky.trans (kb.trans ke)) _ _ hr).append (Reps.one re),by rw[Yy]; exact hch.2,?_⟩;rw[hxs];exact Run.later hR (ky.trans (kb.trans ke))
    ·rw[Yh hch] at hR; exact hR.elim
  ·subst es4;refine⟨0,O,Zat ρ caps nT,st,[],[],[],0,H,ZbG σ caps nT,rfl,I4,Keep.refl,W,ZmJ Er caps nT,T.keep _ _ _ h0 (fun b hb o e=>k4 b o e),fun b hb=>(hf b hb).1,hacc0,I.hok.fresh (Yi _),.nil,Reps.nil_i.mpr rfl,YV _,?_⟩;rw[Vl];exact R
 have e5:({ newEnv scope (s.heap.push { cls:=.type "list",data:=.seq ([]:List P7).toArray }).objs.size X.env.globals (Zas X.env scope.names []) X.env.qual none .none (some X.env) builtinsNs with scope:=relabel scope X.env }:Env)=XC.env:=by rw[eE]; rfl
 have h5:=loop _ rfl;refine codeAny_compStart_list ?_ ?_
 ·exact e5 ▸ h5
 ·exact T.self _ 0 _ _ _ (T.keep _ _ _ h0 (fun b hb o e=>k4 b o e)) (e5 ▸ h5)
end
end DL
end
section
namespace DL
open PySem PySem.Spec PyProof.Rows L2
section
variable{X:Cx}{EX:EXT}{scope:Scope}{N:List Str}{caps:List Nat}{nT:Nat}{elt tg iter:Expr}{ifs:List Expr}{pos spos py:Pos}{f:DI}{t:TgD}{cond:DT}{fe:DE}{y:Str}
theorem gone{pins:List (Addr×Obj)}{σ:L2.St}{H H1:Hp}{s s1:P1}{C:Addr}{h':Heap}(I:Inv X pins σ H s)(hC:s.heap.objs.size<=C){σ1:L2.St}(I1:Inv X pins σ1 H1 s1)(hn:H1 C=none)(hs:Heap.SameBut C s1.heap h'):Inv X pins σ1 H1 { s1 with heap:=h' }:=by
 refine I1.turned (t':=s1.toks) (fun b o hb e=>(hs.2 b hb).trans e) hn ?_ (.inr (YI I.sz hC)) ?_ ?_
 ·intro z;exact absurd (Yz I.lt (z ▸ hC)) (Y8 _)
 ·intro x c hx z;obtain⟨v,o,ho,_⟩:=I.cell x c hx;exact absurd (Yz (Ym ho) (z ▸ hC)) (Y8 _)
 ·intro p hp z;obtain⟨h1,_⟩:=I.pin p hp;exact absurd (Yz (Ym h1) (z ▸ hC)) (Y8 _)
def LcI(X:Cx)(EX:EXT)(pins:List (Addr×Obj))(σ:L2.St)(tg:Expr)(caps:List Nat)(nT:Nat)(t:TgD)(cond:DT)(fe:DE)(Q:VK)(itv:P7)(s2:P1):Prop :=
 ∃(it:Addr) (fp:List Addr) (tn:Nat->Heap->Prop) (J:It) (H1:Hp),itv = .ref it/\Inv X pins σ H1 s2/\Turn X.prog X.w X.K tg J fp it tn/\tn 0 s2.heap/\(∀b∈fp,ZaF X pins H1 b) /\
  ∃O1 ρ q st1 Q',ItF X.K J O1 H1 q/\WR X.K O1 H1 st1/\REnv X.K O1 H1 ρ σ/\Run X.K EX O1 H1 (Z1 q.2 t cond fe q.1 (Zat ρ caps nT) st1 []) (New X.K Q') /\
   ∀p vs H2,Q' (.ref p) (upd H2 p (.lst vs))->∃H3,Q (.ref p) H3/\(∀C,C≠p->H2 C=none->H3 C=none)/\∀σ' s',Inv X pins σ' (upd H2 p (.lst vs)) s'->Inv X pins σ' H3 s'
def PLc(X:Cx)(EX:EXT)(tg iter:Expr)(caps:List Nat)(nT:Nat)(t:TgD)(cond:DT)(fe:DE)(F:DA):Prop :=
 ∀(pins:List (Addr×Obj)) (s:P1) (σ:L2.St) (H:Hp) (Q:VK),Inv X pins σ H s->tDF X.K EX F σ H Q ->
  wpAny (model X.prog X.w) X.A (eval iter X.env) (fun v s1=>wpAny (model X.prog X.w) X.A (pyIter v) (LcI X EX pins σ tg caps nT t cond fe Q) X.xe s1) X.xe s
theorem Zpj(hi:PID X EX tg iter f):PLc X EX tg iter caps nT t cond fe (Za5 caps nT f t cond fe):=by
 rintro pins s σ H Q I ⟨O,ρ,st,W,E,R⟩;refine YW (hi pins s σ H (fun J H1 => ∃O1 ρ q st1,ItD X.K J O1 H1 q/\WR X.K O1 H1 st1/\REnv X.K O1 H1 ρ σ/\Run X.K EX O1 H1 (Z1 q.2 t cond fe q.1 (Zat ρ caps nT) st1 []) (New X.K Q)) I
  ⟨O,ρ,st,W,E,R.bind.mono fun q st1 O1 H1 k1 W1 R1 J hJ=>⟨O1,ρ,q,st1,hJ,W1,E.mono k1,R1⟩⟩) (fun xv s₁ h₁=>YW h₁ (fun itv s₂ h₂ => ?_) fun _ _ e=>e) fun _ _ e=>e
 obtain⟨it,fp,tn,J,H',rfl,I',T,h0,hf,O1,ρ,q,st1,hJ,W1,E1,R1⟩:=h₂;exact⟨it,fp,tn,J,H',rfl,I',T,h0,hf,O1,ρ,q,st1,Q,hJ.fz,W1,E1,R1,fun p vs H2 hq=>⟨_,hq,fun C hC e=>by rw[Zp hC]; exact e,fun _ _ I=>I⟩⟩
theorem ZpF{pins:List (Addr×Obj)}{σ:L2.St}{H:Hp}{s:P1}(B:Blk X.env.scope scope X.N N caps nT)(I:Inv X pins σ H s):closureFor scope X.env=pure (Zas X.env scope.names []) :=
 Zq1 fun y hy hk=>I.ok.has y.1 (B.free y hy hk)
theorem Zlt{F:DA}(hc:X.calm=true)(B:BlkOk X scope N caps nT tg elt ifs t cond fe)(hi:PLc X EX tg iter caps nT t cond fe F)(hs:∀x,foldedSetIterable iter X.env x=pure x:=by intro _; rfl):PDF X EX (.ListComp elt [⟨tg,iter,ifs,0⟩] scope pos) F:=by
 intro pins s σ H Q I h;rw[eval_ListComp];refine wpAny_comprehension_free (use:=none) rfl hs (ZpF B.blk I) B.blk.kind B.blk.names (YW (hi pins s σ H _ I h) (fun xv s₁ h₁=>YW h₁ (fun itv s₂ h₂ => ?_) fun _ _ e=>e) fun _ _ e=>e);obtain⟨it,fp,tn,J,H',rfl,I',T,h0,hf,O1,ρ,q,st1,Q',hJ,W1,E1,R1,thaw⟩:=h₂;refine Zqk (RR:=fun acc C=>compPost (model X.prog X.w) X.A X.xe none (EP X pins σ Q) acc C) hc B I' T h0 hf hJ W1 E1 R1 ?_;intro p C H2 vs s' m hC hn hns hpC I2 hq;obtain⟨H3,q3,n3,i3⟩:=thaw p vs H2 hq;refine⟨m,hns,fun h' hsb=>⟨.ref p,_,gone I' hC (i3 _ _ I2) (n3 C (Y7 hpC) hn) hsb,rfl,q3⟩⟩
theorem Zdx(hc:X.calm=true)(B:BlkOk X scope N caps nT tg elt ifs t cond fe)(hi:PID X EX tg iter f)(hs:∀x,foldedSetIterable iter X.env x=pure x:=by intro _; rfl):PDF X EX (.ListComp elt [⟨tg,iter,ifs,0⟩] scope pos) (Za5 caps nT f t cond fe):=Zlt hc B (Zpj hi) hs
end
end DL
end
section
namespace HT
open PySem PyProof.Rows
section
variable{prog:P5}{w:World}{A:P4}{E:P7->P1->Prop}{s:P1}
theorem Zrg{it t:Addr}{i:Nat}{items:Array P7}{x:P7}{Q:P7->P1->Prop}(hit:s.heap.IsTupleIter it t i)(ht:s.heap.IsTuple t items)(hx:items[i]?=some x)
  (hQ:∀h',h'.IsTupleIter it t (i+1)->Heap.SameBut it s.heap h'->Q x { s with heap:=h' }):wpAny (model prog w) A (Builtin.SmallTypes.nextOf (.ref it)) Q E s:=by
 obtain⟨o,ho,hc,hd⟩:=id hit;obtain⟨ol,hol,_,nl,hdl⟩:=ht;unfold Builtin.SmallTypes.nextOf;refine Ya (Wl (name:=Str.ofString "__next__") hit.typeIs Qv
  (YU Qv hit.typeIs F.entry_tuple_iterator_next ?_ (F.args_tuple_iterator_next_1 _)))
 show wpAny _ _ (field (.ref it) 0 >>= _) _ _ s;refine Ya (Q8 ho hd (x:=.ref t) rfl ?_);show wpAny _ _ (if (Value.ref t == Value.none)=true then _ else _) _ _ s;rw[Yh (show ¬ ((Value.ref t == Value.none)=true) from QN)];show wpAny _ _ (field (.ref it) 1 >>= _) _ _ s;refine Ya (Q8 ho hd (x:=.int i 0) rfl ?_);show wpAny _ _ (seqItems? (.ref t) >>= _) _ _ s;refine Ya (wpAny_seqItems hol hdl ?_);simp only[Wq,hx];refine Ya (WN ho hd (by simp) (Yb ⟨x,rfl,Yb (hQ _ ?_ (YH ..))⟩));exact⟨_,YL _ ho (W6 (Y5 hd _)),(QY ..).trans hc,by
  rw[Y5 hd]; simp[rawInt]⟩
theorem ZhW{it t:Addr}{i:Nat}{items:Array P7}{Q:P7->P1->Prop}(hh:A.handled=none)
  (hit:s.heap.IsTupleIter it t i) (ht:s.heap.IsTuple t items) (hx:items[i]?=none)
  (hE:∀h' e,Heap.ExtBut it s.heap h'->(∃o,h'.get? e=some o/\o.cls = .type "StopIteration")->E (.ref e) { s with heap:=h' }) :
  wpAny (model prog w) A (Builtin.SmallTypes.nextOf (.ref it)) Q E s:=by
 obtain⟨o,ho,hc,hd⟩:=id hit;obtain⟨ol,hol,_,nl,hdl⟩:=ht;unfold Builtin.SmallTypes.nextOf;refine Ya (Wl (name:=Str.ofString "__next__") hit.typeIs Qv
  (YU Qv hit.typeIs F.entry_tuple_iterator_next ?_ (F.args_tuple_iterator_next_1 _)))
 show wpAny _ _ (field (.ref it) 0 >>= _) _ _ s;refine Ya (Q8 ho hd (x:=.ref t) rfl ?_);show wpAny _ _ (if (Value.ref t == Value.none)=true then _ else _) _ _ s;rw[Yh (show ¬ ((Value.ref t == Value.none)=true) from QN)];show wpAny _ _ (field (.ref it) 1 >>= _) _ _ s;refine Ya (Q8 ho hd (x:=.int i 0) rfl ?_);show wpAny _ _ (seqItems? (.ref t) >>= _) _ _ s;refine Ya (wpAny_seqItems hol hdl ?_);simp only[Wq,hx];refine Ya (Wg (Ya (WN ho hd (by simp) ?_)));show wpAny _ _ (newExc (.type "StopIteration") [] >>= _) _ _ _;refine Ya ?_;simp only[newExc,newTuple];refine Ya (Y3 ?_ (by size_fits));refine Ya (m:=firstArgMember _ _) (V9 (a:=Value.none) (by first | rfl | (simp only[firstArgMember]; rfl)) ?_);refine Y3 ?_ (by size_fits);simp only[raiseNew];refine Ya (wpAny_handled ?_)
 first | rw[show A.in1.handled=none from hh] | rw[hh]
 refine Ya (Yb (wpAny_throw ?_));exact hE _ _ (((YH ..).extBut.push _).push _) ⟨_,Yq _ rfl,rfl⟩
end
end HT
end
section
namespace DL
open PySem PySem.Spec PyProof.Rows L2
theorem ZjZ{X:Cx}{pins:List (Addr×Obj)}{σ:L2.St}{H:Hp}{s:P1}(I:Inv X pins σ H s){a b:Addr}{xs:List V}(h:SqT X.K H a xs)(hf:ZaF X pins H b):a≠b:=by
 rintro rfl;rcases h with (h | ⟨ob,h⟩) | ⟨o,_,_,h,_⟩
 ·rw[hf.1] at h; cases h
 ·rw[hf.1] at h; cases h
 ·have hb:=I.ok.mod.kin a o h;rcases hf.2.2.2.1 with h1 | h1
  ·exact I.ok.noex a o hb h1
  ·exact absurd (Yz (Ym (I.ok.bs a o hb).1) h1) (Y8 _)
end DL
end
section
namespace DL
open PySem PySem.Spec PyProof.Rows L2
section
variable{X:Cx}{EX:EXT}{a b e o tg:Expr}{fa fb fo:DE}{g:DA}{pos p px apos cpos:Pos}{x:Str}
def ZaZ(fo fa:DE):DE:=fun ρ st=>(fo ρ st).bind fun d st1=>match d with
 | .res i=>match st1[i]? with
  | some (.lst _)=>(fa ρ st1).bind fun v st2=>match st2[i]? with
   | some (.lst xs)=>if xs.length<small then .ok .non (st2.set i (.lst (xs++[v]))) else .bad
   | _ => .bad
  | _ => .bad
 | _ => .bad
theorem Zg4{K:P3}{O:List Addr}{H:Hp}{st:Sto}(W:WR K O H st){i:Nat}{v:V}{xs:List D}(r:Rep K O H (.res i) v)(e:st[i]?=some (.lst xs)):∃a vs,v = .ref a/\O[i]?=some a/\H a=some (.lst vs)/\Reps K O H xs vs:=by
 rw[Rep.res_i] at r;obtain⟨a,rfl,q⟩:=r;obtain⟨vs,h1,h2⟩:=W.at_ _ _ _ q e;exact⟨a,vs,rfl,q,h1,h2⟩
theorem Zep(ho:PD X EX o fo)(ha:PD X EX a fa)(hbase:attributeBase o "append" X.env (eval o X.env)=eval o X.env:=by rfl)
  (hfew:((backTo cpos (starEach [a] X.env)).all (fun x => !x.1) && (backToKw cpos (keywordEach [] X.env)).all (fun x=>x.1.isSome)
   && decide ([a].length+([]:List Keyword).length+(if ([]:List Keyword).isEmpty then 0 else 1)<30))=true:=by rfl)
  (hline:(apos.endLine == cpos.line)=true:=by rfl) (hs:starEach [a] X.env=(false,eval a X.env) :: starEach [] X.env:=by rfl) (hplain:(backTo cpos (starEach [] X.env)).any (·.1)=false:=by rfl):PD X EX (.Call (.Attribute o "append" apos) [a] [] cpos) (ZaZ fo fa):=by
 refine PE.mono (ZpI PySem.F.plainAttrs_list PySem.F.slot_list_append PySem.F.type_list_append Zqt ho (Zd ha Zh hs) hbase hfew hline hs hplain) ?_;rintro σ H Q ⟨O,ρ,st,W,E,R⟩;refine⟨O,ρ,st,W,E,R.bind.mono fun d st1 O1 H1 k1 W1 R1 v r => ?_⟩;cases d with
 | res i =>
  dsimp only at R1;cases e1:st1[i]? with
  | none=>rw[e1] at R1; exact R1.elim
  | some s1 =>
   rw[e1] at R1;cases s1 with
   | ins C fs=>exact R1.elim
   | dct kvs=>exact R1.elim
   | dtt kvs=>exact R1.elim
   | fdc kvs=>exact R1.elim
   | lst xs0 =>
    dsimp only at R1;obtain⟨pa,vs0,rfl,q0,h0,_⟩:=Zg4 W1 r e1;refine⟨.inl ⟨rfl,_,SqL.of h0⟩,O1,ρ,st1,W1,E.mono k1,?_⟩;cases hfa:fa ρ st1 with
    | bad=>rw[hfa] at R1; exact R1.elim
    | exc c st2 =>
     rw[hfa] at R1;show Run X.K EX O1 H1 (Zc fa Ze ρ st1) _;unfold Zc;rw[hfa];exact R1
    | ok w st2 =>
     rw[hfa] at R1;show Run X.K EX O1 H1 (Zc fa Ze ρ st1) _;unfold Zc;rw[hfa];intro O2 H2 k2 W2 ws rs;obtain⟨u,rfl,ru⟩:=Reps.one_of rs;have R2:=Run.later R1 k2;dsimp only[Out.bind] at R2;cases e2:st2[i]? with
     | none=>rw[e2] at R2; exact R2.elim
     | some s2 =>
      rw[e2] at R2;cases s2 with
      | ins C fs=>exact R2.elim
      | dct kvs=>exact R2.elim
      | dtt kvs=>exact R2.elim
      | fdc kvs=>exact R2.elim
      | lst xs =>
       dsimp only at R2;by_cases hl:xs.length<small
       ·rw[Yg hl] at R2;obtain⟨pa',vs,e3,q,h1,h2⟩:=Zg4 W2 (Rep.mono k2 _ _ r) e2;cases e3;refine⟨pa,vs,u,rfl,rfl,h1,by rw[<-h2.length]; exact Yz hl ZaM,?_⟩;exact R2 O2 _ (Keep.write W2 q) (W2.writeL q (h2.append (Reps.one ru))) _ (Rep.non_i.mpr rfl)
       ·rw[Yh hl] at R2; exact R2.elim
 | _=>exact R1.elim
def Zeo(fo:DE):DE:=fun ρ st=>(fo ρ st).bind fun d st1=>match d with
 | .res i=>match st1[i]? with
  | some (.lst xs)=>match xs[xs.length - 1]? with
   | some v => .ok v (st1.set i (.lst xs.dropLast))
   | none => .bad
  | _ => .bad
 | _ => .bad
theorem Reps.dropLast{K:P3}{O:List Addr}{H:Hp}{ds:List D}{vs:List V}(r:Reps K O H ds vs):Reps K O H ds.dropLast vs.dropLast:=by
 rw[List.dropLast_eq_take,List.dropLast_eq_take,r.length];exact r.take _
theorem ZnB(ho:PD X EX o fo)(hbase:attributeBase o "pop" X.env (eval o X.env)=eval o X.env:=by rfl)(hline:(apos.endLine == cpos.line)=true:=by rfl):PD X EX (.Call (.Attribute o "pop" apos) [] [] cpos) (Zeo fo):=by
 refine PE.mono (Zmv PySem.F.plainAttrs_list PySem.F.slot_list_pop PySem.F.type_list_pop ZqJ ho hbase hline) ?_;rintro σ H Q ⟨O,ρ,st,W,E,R⟩;refine⟨O,ρ,st,W,E,R.bind.mono fun d st1 O1 H1 k1 W1 R1 v r => ?_⟩;cases d with
 | res i =>
  dsimp only at R1;cases e1:st1[i]? with
  | none=>rw[e1] at R1; exact R1.elim
  | some s1 =>
   rw[e1] at R1;cases s1 with
   | ins C fs=>exact R1.elim
   | dct kvs=>exact R1.elim
   | dtt kvs=>exact R1.elim
   | fdc kvs=>exact R1.elim
   | lst xs =>
    dsimp only at R1;obtain⟨pa,vs,rfl,q,h0,rs⟩:=Zg4 W1 r e1;cases e2:xs[xs.length - 1]? with
    | none=>rw[e2] at R1; exact R1.elim
    | some w =>
     rw[e2] at R1;obtain⟨u,h1,h2⟩:=rs.get e2;refine⟨.inl ⟨rfl,_,SqL.of h0⟩,pa,vs,u,rfl,rfl,h0,by rw[<-rs.length]; exact h1,?_⟩;exact R1 O1 _ (Keep.write W1 q) (W1.writeL q rs.dropLast) _ (Rep.mono (Keep.write W1 q) _ _ h2)
 | _=>exact R1.elim
end
end DL
end
section
namespace DL
open PySem PySem.Spec PyProof.Rows L2
section
variable{X:Cx}{EX:EXT}{a b c e o:Expr}{fa fb fc fo:DE}{pos p pT apos:Pos}
def Zfp(f:DE):DE:=fun ρ st=>(f ρ st).bind fun d st1=>match d with
 | .int i => .ok (.int (-i)) st1
 | _ => .bad
theorem ZqQ(ha:PD X EX a fa):PD X EX (.UnaryOp .USub a pos) (Zfp fa):=by
 refine PE.mono (Zls ZnO ha) ?_;rintro σ H Q ⟨O,ρ,st,W,E,R⟩;refine⟨O,ρ,st,W,E,R.bind.mono fun d st1 O1 H1 k1 W1 R1 v r => ?_⟩;cases d with
 | int i=>exact⟨i,Rep.int_i.mp r,Run.now (k:=Val X.K Q) R1 W1 _ (Rep.int_i.mpr rfl)⟩
 | _=>exact R1.elim
end
structure FnAt(P:P5)(w:World)(K:P3)(mg:Str->Option P7)(base:Heap)(x:Str)(k:Nat)(F:FD):Prop where
 ex:∃(f:Addr) (fd:P6) (ps:List Str),FnOk P w K mg base CX0 k f fd ps (spD K F)/\mg x=some (.ref f)/\PySem.W.keepIn K (.ref f)=true/\Binds K fd ps []
section
variable{X:Cx}{EX:EXT}{e:Expr}{es:List Expr}{pos p:Pos}{x:Str}{k j:Nat}{F:FD}{g:DA}
theorem Zz(h:FnAt X.prog X.w X.K X.mg X.base x j F)(hr:Room k X.A)(hj:j<=k)(hg:Gl X x)(ha:PDA X EX (e :: es) g)
  (hdb:(x == ("__debug__" : Str))=false:=by decide) (he:starEach (e :: es) X.env=(false,eval e X.env) :: starEach es X.env:=by rfl) (hpl:(backTo pos (starEach es X.env)).any (·.1)=false:=by rfl) :
  PD X EX (.Call (.Name x p) (e :: es) [] pos) (Zj F g):=by
 obtain⟨f,fd,ps,G,hm,hk,hb⟩:=h.ex;exact ZqM G (hr.mono hj) hg hm hk hb xe0 ha hdb he hpl
end
theorem fnAt{P:P5}{w:World}{K:P3}{mg:Str->Option P7}{base:Heap}{x qual:Str}{st:Stmt}{f:Addr}{fd:P6}{N ps:List Str}{k:Nat}{g:DS}(F:Fun K x qual st f fd)(S:FnScope N ps (Zf st))(hm:mg x=some (.ref f))(hb:Binds K fd ps [])
  (hbody:∀(cdv:P7) (A:P4) (outer:List Env) (s:P1) (H:Hp) (E:XK),Room k (A.deeper (envOfC qual (Zf st) s.heap.objs.size f cdv)) ->
   PDS (ZP CX0 P w K mg base N qual (Zf st) f cdv A outer s H E).nox EX0 (Zr st) g):FnAt P w K mg base x (k+1) (Zw N.length ps.length g) :=
 ⟨f,fd,ps,fnD F S hbody,hm,F.kp,hb⟩
end DL
end
section
namespace DL
open PySem PySem.Spec PyProof.Rows L2
def Zbz:List D->Option (List Bool)
 | []=>some []
 | .bl b :: ds=>(Zbz ds).map (b :: ·)
 | _=>none
theorem ZqR{K:P3}{O:List Addr}{H:Hp}:∀{ds:List D} {vs:List V} {us:List P7} {bs:List Bool},Zbz ds=some bs->Reps K O H ds vs->Vals vs us->PyProof.Rows.LSm.BoolsAre us bs:=by
 intro ds
 induction ds with
 | nil =>
  intro vs us bs e r q;cases e;rw[Reps.nil_i] at r;subst r;cases q;exact .nil
 | cons d ds ih =>
  intro vs us bs e r q;obtain⟨v,ws,rfl,r1,r2⟩:=Reps.cons_i.mp r;cases d with
  | bl b =>
   dsimp only[Zbz] at e;cases e2:Zbz ds with
   | none=>rw[e2] at e; cases e
   | some cs =>
    rw[e2] at e;cases e;rw[Rep.bl_i] at r1;subst r1;cases q with
    | cons q1 q2 =>
     cases q1;exact .cons b (ih e2 r2 q2)
  | _=>cases e
section
variable{X:Cx}{EX:EXT}
def leX:D->D->Sto->Out D
 | .int a,.int b,st => .ok (.bl (decide (a<=b))) st
 | .str a,.str b,st => .ok (.bl (!(decide (b.cps.toList<a.cps.toList)))) st
 | _,_,_ => .bad
theorem Zp0:OpD X EX (compareOp .LtE) leX:=by
 intro pins s σ H x y v u Q I rx ry h';obtain⟨O,a,b,st,W,ra,rb,R⟩:=h';cases a <;> cases b <;> first | exact R.elim | skip
 ·rename_i i j;rw[Rep.int_i] at ra rb;subst ra rb;exact Zpi pins s σ H _ _ v u Q I rx ry ⟨i,j,rfl,rfl,Run.now (k:=Val X.K Q) R W _ (Rep.bl_i.mpr rfl)⟩
 ·rename_i i j;rw[Rep.str_i] at ra rb;subst ra rb;obtain⟨t,rfl⟩:=rx;obtain⟨t',rfl⟩:=ry;exact PySem.P.le_str ⟨.bl _,H,I,rfl,Run.now (k:=Val X.K Q) R W _ (Rep.bl_i.mpr rfl)⟩
end
end DL
end
section
namespace DL
open PySem PySem.Spec PyProof.Rows L2
section
variable{X:Cx}{EX:EXT}{a b c e o i:Expr}{fa fb fc fo fi:DE}{pos p p2 apos:Pos}{ta tb:DT}
def Zgp(fo fi fv:DE):DS:=fun ρ st=>(fv ρ st).to fun v st1=>(fo ρ st1).to fun d st2=>(fi ρ st2).to fun i st3=>match d,i with
 | .res r,.int k=>match st3[r]? with
  | some (.lst xs)=>match ixN xs.length k with
   | some j => .nx ρ (st3.set r (.lst (xs.set j v)))
   | none => .bad
  | _ => .bad
 | _,_ => .bad
theorem ZkW{p1:Pos}(ho:PD X EX o fo)(hi:PD X EX i fi)(hv:PD X EX e fa)(hs:swapsWithSole [.Subscript o i p1] e pos.line X.env=pure false:=by rfl)(hw:swappedStores [.Subscript o i p1] e X.env=pure none:=by rfl)
  (h1:(assignEach [.Subscript o i p1] X.env).map (·.2)=[assign (.Subscript o i p1) X.env]:=by rfl)
  (ha:∀v,assign (.Subscript o i p1) X.env v=(do
   let ov <-holding [v] (eval o X.env)
   let iv <-holding [v,ov] (eval i X.env)
   standAt p1
   holding [v,ov,iv] (setItem ov iv v)
   release [v,ov,iv] []):=by intro _; rfl):PDs X EX (.Assign [.Subscript o i p1] e pos) (Zgp fo fi fa):=by
 refine PS.mono (ZkO hv (Zn8 ho hi set_list ha) hs hw h1) ?_;rintro Dn σ H ⟨O,ρ,st,W,E,R⟩;refine⟨O,ρ,st,W,E,R.to.mono fun w st1 O1 H1 k1 W1 R1 v r => ?_⟩;refine⟨O1,ρ,st1,W1,E.mono k1,R1.to.mono fun d st2 O2 H2 k2 W2 R2 u r2 => ?_⟩;refine⟨O2,ρ,st2,W2,E.mono (k1.trans k2),R2.to.mono fun j st3 O3 H3 k3 W3 R3 z r3 => ?_⟩;split at R3
 ·rename_i rr k;split at R3
  ·rename_i xs hx;split at R3
   ·rename_i jj hj;rw[Rep.int_i] at r3;subst r3;have r2':=Rep.mono k3 _ _ r2;rw[Rep.res_i] at r2';obtain⟨a,rfl,q⟩:=r2';obtain⟨vs,h1,h2⟩:=W3.at_ _ _ _ q hx;refine⟨a,vs,k,jj,rfl,rfl,h1,by rw[<-h2.length]; exact hj,?_⟩;have kw:Keep X.K O3 H3 O3 (upd H3 a (.lst (vs.set jj v))):=Keep.write W3 q;exact R3 O3 _ σ kw (W3.writeL q (h2.set (Rep.mono (k2.trans k3) _ _ r) jj)) (E.mono (k1.trans (k2.trans (k3.trans kw))))
   ·exact R3.elim
  ·exact R3.elim
 ·exact R3.elim
def ZjC:DS:=fun _ _ => .bad
theorem Zqy{s:Stmt}:PDs X EX s ZjC:=by
 rintro pins s σ H D I ⟨O,ρ,st,W,E,R⟩;exact R.elim
end
structure MtAt(P:P5)(w:World)(K:P3)(mg:Str->Option P7)(base:Heap)(C:Addr)(m:Str)(k:Nat)(F:FD):Prop where
 ex:∃(f:Addr) (fd:P6) (ps:List Str),FnOk P w K mg base CX0 k f fd ps (spD K F)/\Meth K C m f/\Binds K fd ps []
structure MkAt(P:P5)(w:World)(K:P3)(mg:Str->Option P7)(base:Heap)(x:Str)(C:Addr)(k:Nat)(F:FD):Prop where
 ex:∃(f:Addr) (fd:P6) (ps:List Str),FnOk P w K mg base CX0 k f fd ps (spD K F)/\Mk K C f/\Binds K fd ps []/\mg x=some (.ref C)
section
variable{X:Cx}{EX:EXT}{e o:Expr}{es:List Expr}{pos p apos:Pos}{x m:Str}{k j:Nat}{F:FD}{g:DA}{C:Addr}{fo:DE}
theorem ZbC{pl:Sem Bool}(h:MtAt X.prog X.w X.K X.mg X.base C m j F)(c:Cls X.K C)(hr:Room k X.A)(hj:j<=k)(he:PD X EX o fo)(ha:PDA X EX (e :: es) g)
  (hst:starEach (e :: es) X.env=(false,eval e X.env) :: starEach es X.env:=by rfl) (hpl:(backTo pos (starEach es X.env)).any (·.1)=false:=by rfl)
  (ht:eval (.Call (.Attribute o m apos) (e :: es) [] pos) X.env=(do
   let ov <-eval o X.env
   standAt apos.atName
   let (f,first) <-holding [ov] (getMethod ov m pl)
   callWith pos f first (backTo pos (starEach (e :: es) X.env)) (backToKw pos (keywordEach [] X.env))):=by rfl) :
  PD X EX (.Call (.Attribute o m apos) (e :: es) [] pos) (ZQ C m F fo g):=by
 obtain⟨f,fd,ps,G,hm,hb⟩:=h.ex;exact Zom he c hm G (hr.mono hj) hb xe0 ha hst hpl ht
theorem Zca{pl:Sem Bool}(h:MtAt X.prog X.w X.K X.mg X.base C m j F)(c:Cls X.K C)(hr:Room k X.A)(hj:j<=k)(he:PD X EX o fo)
  (ht:eval (.Call (.Attribute o m apos) [] [] pos) X.env=(do
   let ov <-eval o X.env
   standAt apos.atName
   let (f,first) <-holding [ov] (getMethod ov m pl)
   callWith pos f first (backTo pos (starEach [] X.env)) (backToKw pos (keywordEach [] X.env))):=by rfl) :
  PD X EX (.Call (.Attribute o m apos) [] [] pos) (ZQ C m F fo Ze):=by
 obtain⟨f,fd,ps,G,hm,hb⟩:=h.ex;exact Zmw he c hm G (hr.mono hj) hb xe0 ht
theorem ZhB(h:MkAt X.prog X.w X.K X.mg X.base x C j F)(hr:Room k X.A)(hj:j+1<=k)(hg:Gl X x)(ha:PDA X EX (e :: es) g)
  (hdb:(x == ("__debug__" : Str))=false:=by decide) (he:starEach (e :: es) X.env=(false,eval e X.env) :: starEach es X.env:=by rfl) (hpl:(backTo pos (starEach es X.env)).any (·.1)=false:=by rfl) :
  PD X EX (.Call (.Name x p) (e :: es) [] pos) (Zdd C F g):=by
 obtain⟨f,fd,ps,G,hm,hb,hx⟩:=h.ex;exact ZlG hm G (hr.mono hj) hg hx hb xe0 ha hdb he hpl
end
section
variable{P:P5}{w:World}{K:P3}{mg:Str->Option P7}{base:Heap}
theorem Zba{x qual:Str}{st:Stmt}{f C:Addr}{fd:P6}{N ps:List Str}{k:Nat}{g:DS}(F:Fun K x qual st f fd)(S:FnScope N ps (Zf st))(hm:Meth K C x f)(hb:Binds K fd ps [])
  (hbody:∀(cdv:P7) (A:P4) (outer:List Env) (s:P1) (H:Hp) (E:XK),Room k (A.deeper (envOfC qual (Zf st) s.heap.objs.size f cdv)) ->
   PDS (ZP CX0 P w K mg base N qual (Zf st) f cdv A outer s H E).nox EX0 (Zr st) g):MtAt P w K mg base C x (k+1) (Zw N.length ps.length g) :=
 ⟨f,fd,ps,fnD F S hbody,hm,hb⟩
theorem ZjW{x qual cn:Str}{st:Stmt}{f C:Addr}{fd:P6}{N ps:List Str}{k:Nat}{g:DS}(F:Fun K x qual st f fd)(S:FnScope N ps (Zf st))(hm:Mk K C f)(hb:Binds K fd ps [])(hx:mg cn=some (.ref C))
  (hbody:∀(cdv:P7) (A:P4) (outer:List Env) (s:P1) (H:Hp) (E:XK),Room k (A.deeper (envOfC qual (Zf st) s.heap.objs.size f cdv)) ->
   PDS (ZP CX0 P w K mg base N qual (Zf st) f cdv A outer s H E).nox EX0 (Zr st) g):MkAt P w K mg base cn C (k+1) (Zw N.length ps.length g) :=
 ⟨f,fd,ps,fnD F S hbody,hm,hb,hx⟩
def spA(K:P3)(F:(Nat->Addr)->FD):Sp:=fun vs H Q E => ∀cv,spD K (F cv) vs H Q E
theorem ZoO{k:Nat}{f:Addr}{fd:P6}{ps:List Str}{F:(Nat->Addr)->FD}{cv:Nat->Addr}(G:FnOk P w K mg base CX0 k f fd ps (spD K (F cv))):FnOk P w K mg base CX0 k f fd ps (spA K F) :=
 G.imp fun _ _ _ _ h=>h cv
end
section
variable{ρ:Ev}{st:Sto}{f fo fi fv:DE}{da:DA}{C:Addr}{x m:Str}{F:FD}
theorem Zav:ZQ C m F fo da ρ st=(fo ρ st).bind fun d st1=>match ZD C st1 d with
 | some (_,fs)=>if fs.lookup m=none then (da ρ st1).bind fun ds st2=>F (d :: ds) st2 else .bad
 | none => .bad:=rfl
theorem Zal:ZY C x fo ρ st=(fo ρ st).bind fun d st1=>match ZD C st1 d with
 | some (_,fs)=>match fs.lookup x with
  | some v => .ok v st1
  | none => .bad
 | none => .bad:=rfl
theorem Zh2:Zdd C F da ρ st=(da ρ st).bind fun ds st1=>(F (.res st1.length :: ds) (st1++[.ins C []])).bind fun d st2=>(Zeq d st2).bind fun _ st3 => .ok (.res st1.length) st3:=rfl
theorem Zfc:Za0 C x fo fv ρ st=(fv ρ st).to fun v st1=>(fo ρ st1).to fun d st2=>match ZD C st2 d with
 | some (i,fs)=>if fs.length<900 then .nx ρ (st2.set i (.ins C (Zap x v fs))) else .bad
 | none => .bad:=rfl
theorem Zn9:ZfI C x fo da ρ st=(da ρ st).to fun vs st1=>(fo ρ (st1++[.lst vs])).to fun d st2=>match ZD C st2 d with
 | some (i,fs)=>if fs.length<900 then .nx ρ (st2.set i (.ins C (Zap x (.res st1.length) fs))) else .bad
 | none => .bad:=rfl
theorem Zsd:Zfu C x fo fv ρ st=(fo ρ st).to fun d st1=>match ZD C st1 d with
 | some (i,fs)=>match fs.lookup x with
  | some (.int z)=>(fv ρ st1).to fun v st2=>match v with
   | .int y=>match ZD C st2 d with
    | some (j,fs')=>if fs'.length<900 then .nx ρ (st2.set j (.ins C (Zap x (.int (z+y)) fs'))) else .bad
    | none => .bad
   | _ => .bad
  | _ => .bad
 | none => .bad:=rfl
theorem Zk4:Zgp fo fi fv ρ st=(fv ρ st).to fun v st1=>(fo ρ st1).to fun d st2=>(fi ρ st2).to fun i st3=>match d,i with
 | .res r,.int k=>match st3[r]? with
  | some (.lst xs)=>match ixN xs.length k with
   | some j => .nx ρ (st3.set r (.lst (xs.set j v)))
   | none => .bad
  | _ => .bad
 | _,_ => .bad:=rfl
end
end DL
end
section
namespace DL
open PySem PySem.Spec PyProof.Rows L2
section
variable{X:Cx}{EX:EXT}{es:List Expr}{k:Nat}{pt p pos:Pos}{a:Expr}{f:DE}
def ZaO(n:Nat):List D->List D
 | []=>[]
 | x :: xs => .tup [.int (n:Int),x] :: ZaO (n+1) xs
theorem Zjm:∀(xs:List D) (n i:Nat),(ZaO n xs)[i]?=(xs[i]?).map fun x=>D.tup [.int ((n+i:Nat):Int),x]
 | [],n,i=>by simp[ZaO]
 | x :: xs,n,0=>by simp[ZaO]
 | x :: xs,n,i+1=>by
  have h:n+1+i=n+(i+1):=by omega
  simp[ZaO,Zjm xs (n+1) i,h]
theorem Zjb:∀(xs:List D) (n:Nat),(ZaO n xs).length=xs.length
 | [],n=>rfl
 | x :: xs,n=>by simp[ZaO,Zjb xs (n+1)]
end
end DL
end
section
namespace DL
open PySem PySem.Spec PyProof.Rows L2
structure CFn(K:P3)(C:Addr)(m:Str)(f:Addr):Prop where
 sg:PySem.W.specialIn K (.ref C) "__getattribute__" = some (some (.builtin "type.__getattribute__"))
 rd:PySem.W.readsIn K C (.type "type")=true
 fc:PySem.W.findCls K (.ref C) (.type "type") m=some (.val (.ref f))
 kp:PySem.W.keepIn K (.ref f)=true
section
variable{X:Cx}{EX:EXT}{CX:CXT}{k j:Nat}{f C:Addr}{fd:P6}{ps:List Str}{sp:Sp}{E:XK}{x m:Str}{p pos apos:Pos}{e:Expr}{es:List Expr}{t:TA}{F:FD}{g:DA}
theorem Zr3{pl:Sem Bool}(hg:Gl X x)(hm:X.mg x=some (.ref C))(c:CFn X.K C m f)(F:FnOk X.prog X.w X.K X.mg X.base CX k f fd ps sp)(hr:Room k X.A)(hb:Binds X.K fd ps [])(hx:Passes CX X E)(ha:PA X (e :: es) t)
  (hdb:(x == ("__debug__" : Str))=false:=by decide) (hst:starEach (e :: es) X.env=(false,eval e X.env) :: starEach es X.env:=by rfl) (hpl:(backTo pos (starEach es X.env)).any (·.1)=false:=by rfl)
  (ht:eval (.Call (.Attribute (.Name x p) m apos) (e :: es) [] pos) X.env=(do
   let ov <-eval (.Name x p) X.env
   standAt apos.atName
   let (f,first) <-holding [ov] (getMethod ov m pl)
   callWith pos f first (backTo pos (starEach (e :: es) X.env)) (backToKw pos (keywordEach [] X.env))):=by rfl) :
  PE X (.Call (.Attribute (.Name x p) m apos) (e :: es) [] pos) (ZkN sp [] E t):=by
 intro pins s σ H Q I h;refine VJ (pl:=pl) (thn (ZkJ (v:=.ref C) hg hm rfl hdb pins s σ H (fun v H'=>v = .ref C/\H'=H) I ⟨rfl,rfl⟩) fun u s1 ⟨y,H1,I1,rx,q1,q2⟩ => ?_) ht;subst q1 q2;obtain rfl:u=Value.ref C:=rx;refine PySem.W.method_cls I1.kIn c.sg (PySem.W.cls_value I1.kIn c.rd c.fc rfl ?_);have I2:Inv X pins σ H1 { s1 with toks:=s1.toks+1 }:=I1.tok _;refine Ve (first:=[]) (h₀:=X.base) I.ok.mod.kin c.kp (thn (ha pos pins _ σ H1 _ I2 h) fun us s2 ⟨vs,H2,I3,r,q3⟩=>⟨I3.kIn,?_⟩) hst hpl;exact ZeU (us:=us) F hr hb .nil hx I3 r q3
end
structure CfAt(P:P5)(w:World)(K:P3)(mg:Str->Option P7)(base:Heap)(x:Str)(C:Addr)(m:Str)(k:Nat)(F:FD):Prop where
 ex:∃(f:Addr) (fd:P6) (ps:List Str),FnOk P w K mg base CX0 k f fd ps (spD K F)/\CFn K C m f/\Binds K fd ps []/\mg x=some (.ref C)
section
variable{X:Cx}{EX:EXT}{k j:Nat}{C:Addr}{x m:Str}{p pos apos:Pos}{e:Expr}{es:List Expr}{F:FD}{g:DA}
theorem Zsa{pl:Sem Bool}(h:CfAt X.prog X.w X.K X.mg X.base x C m j F)(hr:Room k X.A)(hj:j<=k)(hg:Gl X x)(ha:PDA X EX (e :: es) g)
  (hdb:(x == ("__debug__" : Str))=false:=by decide) (hst:starEach (e :: es) X.env=(false,eval e X.env) :: starEach es X.env:=by rfl) (hpl:(backTo pos (starEach es X.env)).any (·.1)=false:=by rfl)
  (ht:eval (.Call (.Attribute (.Name x p) m apos) (e :: es) [] pos) X.env=(do
   let ov <-eval (.Name x p) X.env
   standAt apos.atName
   let (f,first) <-holding [ov] (getMethod ov m pl)
   callWith pos f first (backTo pos (starEach (e :: es) X.env)) (backToKw pos (keywordEach [] X.env))):=by rfl) :
  PD X EX (.Call (.Attribute (.Name x p) m apos) (e :: es) [] pos) (Zj F g):=by
 obtain⟨f,fd,ps,G,hc,hb,hm⟩:=h.ex;refine PE.mono (Zr3 (E:=eOf EX) hg hm hc G (hr.mono hj) hb xe0 ha hdb hst hpl ht) ?_;rintro σ H Q ⟨O,ρ,st,W,E,R⟩;refine⟨O,ρ,st,W,E,R.bind.mono fun ds st1 O1 H1 k1 W1 R2 vs r => ?_⟩;dsimp only;rw[Wo];exact⟨O1,ds,st1,W1,r,R2.eOf⟩
end
section
variable{P:P5}{w:World}{K:P3}{mg:Str->Option P7}{base:Heap}
theorem Zr2{x qual cn:Str}{st:Stmt}{f C:Addr}{fd:P6}{N ps:List Str}{k:Nat}{g:DS}(F:Fun K x qual st f fd)(S:FnScope N ps (Zf st))(hc:CFn K C x f)(hb:Binds K fd ps [])(hm:mg cn=some (.ref C))
  (hbody:∀(cdv:P7) (A:P4) (outer:List Env) (s:P1) (H:Hp) (E:XK),Room k (A.deeper (envOfC qual (Zf st) s.heap.objs.size f cdv)) ->
   PDS (ZP CX0 P w K mg base N qual (Zf st) f cdv A outer s H E).nox EX0 (Zr st) g):CfAt P w K mg base cn C x (k+1) (Zw N.length ps.length g) :=
 ⟨f,fd,ps,fnD F S hbody,hc,hb,hm⟩
end
end DL
end
section
namespace DL
open PySem PySem.Spec PyProof.Rows L2
noncomputable abbrev Cx.at(X:Cx)(A:P4)(pn:List (Addr×Obj))(E:P7->P1->Prop):Cx:={ X with A:=A,calm:=false,pn:=pn,xe:=E }
noncomputable abbrev Cx.pinned(X:Cx)(pn:List (Addr×Obj))(E:P7->P1->Prop):Cx:={ X with pn:=pn,xe:=E }
structure RoomH(k:Nat)(A:P4):Prop where
 dp:A.depth+3 * k+5<recursionLimit
 un:A.units+16 * k+200<cLine
theorem RoomH.mono{j k:Nat}{A:P4}(r:RoomH k A)(h:j<=k):RoomH j A:=⟨by have:=r.dp; omega,by have:=r.un; omega⟩
theorem RoomH.deeper{k:Nat}{A:P4}(r:RoomH (k+1) A)(env:Env):RoomH k (A.deeper env):=⟨by have:=r.dp; show A.depth+1+3 * k+5<_; omega,by have:=r.un; show A.units+3+16 * k+200<_; omega⟩
theorem RoomH.of{k:Nat}{A:P4}(r:Room k A)(e:Option P7):RoomH k (A.mark e):=⟨r.dp,r.un⟩
theorem RoomH.units{k:Nat}{A:P4}(r:RoomH k A):A.units+64<cLine:=by have:=r.un; omega
end DL
end
section
namespace DL
open PySem PySem.Spec PyProof.Rows L2
section
variable{ρ:Ev}{st:Sto}{f fo:DE}{da:DA}{g:DS}{C:Addr}
@[simp] theorem Zs7{α β:Type}(c:Addr)(st:Sto)(k:α->Sto->Out β):(Out.exc c st:Out α).bind k = .exc c st:=rfl
@[simp] theorem Ztw{α:Type}(c:Addr)(st:Sto)(k:α->Sto->OutS):(Out.exc c st:Out α).to k = .exc c st:=rfl
end
end DL
end
section
namespace DL
open PySem PySem.Spec PyProof.Rows L2
theorem us1{P:List P7->Prop}(h:∀a,P [a]):∀us:List P7,us.length=1->P us
 | [a],_=>h a
theorem us2{P:List P7->Prop}(h:∀a b,P [a,b]):∀us:List P7,us.length=2->P us
 | [a,b],_=>h a b
theorem us3{P:List P7->Prop}(h:∀a b c,P [a,b,c]):∀us:List P7,us.length=3->P us
 | [a,b,c],_=>h a b c
theorem us4{P:List P7->Prop}(h:∀a b c d,P [a,b,c,d]):∀us:List P7,us.length=4->P us
 | [a,b,c,d],_=>h a b c d
end DL
end
section
namespace SO
open PySem PySem.W PyProof.Rows
def ok{α:Type}(n:Nat)(lt:Nat->Nat->Bool):KasT α->(α->Prop)->Prop
 | .ret a,Q=>Q a
 | .ask i j k,Q=>i<n/\j<n/\ok n lt (k (lt i j)) Q
structure Ord(n:Nat)(lt:Nat->Nat->Bool):Prop where
 tot:∀i j,i<n->j<n->i≠j->lt i j=false->lt j i=true
 asy:∀i j,i<n->j<n->lt i j=true->lt j i=false
 trn:∀i j k,i<n->j<n->k<n->lt i j=true->lt j k=true->lt i k=true
def Al(n:Nat)(p:Array Nat):Prop:=p.toList.Perm (List.range n)
noncomputable abbrev G(p:Array Nat)(i:Nat):Nat:=p.getD i 0
section
variable{n:Nat}{lt:Nat->Nat->Bool}{p:Array Nat}
theorem Al.size(h:Al n p):p.size=n:=by have:=h.length_eq; simpa using this
theorem ZdQ(i:Nat)(h:i<p.size):G p i=p[i]:=by simp[G,Array.getD,h]
theorem Al.bel(h:Al n p)(i:Nat)(hn:0<n):G p i<n:=by
 by_cases hi:i<p.size
 ·rw[ZdQ i hi];have:p[i]∈p.toList:=by simp
  have:=h.mem_iff.mp this;simpa using this
 ·simp[G,Array.getD,hi,hn]
theorem Al.inj(h:Al n p){i j:Nat}(hi:i<n)(hj:j<n)(ne:i≠j):G p i≠G p j:=by
 have nd:p.toList.Nodup:=h.nodup_iff.mpr List.nodup_range;have hs:=h.size;rw[ZdQ i (by omega),ZdQ j (by omega)];intro e;have:=(QC (i:=i) (j:=j) (h₀:=by simpa using (by omega:i<p.size)) (h₁:=by simpa using (by omega:j<p.size)) nd).mp (by simpa using e);exact ne this
def SP(lt:Nat->Nat->Bool)(p:Array Nat)(k:Nat):Prop:=∀i j,i<j->j<k->lt (G p i) (G p j)=true
def DP(lt:Nat->Nat->Bool)(p:Array Nat)(k:Nat):Prop:=∀i j,i<j->j<k->lt (G p j) (G p i)=true
theorem SP.one:SP lt p 1:=fun i j h1 h2=>by omega
theorem SP.next(O:Ord n lt)(h:Al n p){m:Nat}(h1:1<=m)(hm:m<n)(s:SP lt p m)(e:lt (G p (m - 1)) (G p m)=true):SP lt p (m+1):=by
 intro i j hij hj;by_cases hjm:j<m
 ·exact s i j hij hjm
 ·have:j=m:=by omega
  subst this;by_cases hi:i=j - 1
  ·subst hi; exact e
  ·exact O.trn _ _ _ (h.bel _ (by omega)) (h.bel _ (by omega)) (h.bel _ (by omega)) (s i (j - 1) (by omega) (by omega)) e
theorem DP.next(O:Ord n lt)(h:Al n p){m:Nat}(h1:1<=m)(hm:m<n)(s:DP lt p m)(e:lt (G p m) (G p (m - 1))=true):DP lt p (m+1):=by
 intro i j hij hj;by_cases hjm:j<m
 ·exact s i j hij hjm
 ·have:j=m:=by omega
  subst this;by_cases hi:i=j - 1
  ·subst hi; exact e
  ·exact O.trn _ _ _ (h.bel _ (by omega)) (h.bel _ (by omega)) (h.bel _ (by omega)) e (s i (j - 1) (by omega) (by omega))
end
end SO
end
section
namespace SO
open PySem PySem.W PyProof.Rows
theorem SP.pw{n:Nat}{lt:Nat->Nat->Bool}{p:Array Nat}(h:Al n p)(s:SP lt p n):p.toList.Pairwise (fun i j=>lt i j=true):=by
 rw[Wa];intro i j hi hj hij;have hs:=h.size;simp only[Yo] at hi hj;have:=s i j hij (by omega);rw[ZdQ i hi,ZdQ j hj] at this;simpa using this
section
variable{prog:P5}{w:World}{A:P4}{E:P7->P1->Prop}{s:P1}
noncomputable abbrev KB(s:P1)(a:Addr)(h':Heap):Prop:=∀b o,b≠a->s.heap.get? b=some o->h'.get? b=some o
end
end SO
end
section
namespace TS
open PySem PyProof.Rows
def Za3:Bool->Keyed->Array Keyed->Nat->Nat->Nat->StateT SortSt Sem (Option Nat):=sortPriv% PySem.Builtin.gallop
def ZbD(left:Bool)(key:Keyed)(arr:Array Keyed)(base i:Nat):StateT SortSt Sem (Option Bool):=do
  let x <-elem' arr (base+i)
  if left then lt' x key else return (<-lt' key x).map (!·)
theorem ZqZ(left:Bool)(key:Keyed)(arr:Array Keyed)(base n hint:Nat):Za3 left key arr base n hint=(do
 let mut lastofs:=0
 let mut ofs:=1
 let mut lo:=0
 let mut hi:=0
 let some right <-ZbD left key arr base hint | return none
 if right then
  let maxofs:=n - hint
  for _ in [0:n] do
   if ofs ≥ maxofs then break
   let some more <-ZbD left key arr base (hint+ofs) | return none
   if !more then break
   lastofs:=ofs
   ofs:=2 * ofs+1
  lo:=hint+lastofs+1
  hi:=hint+min ofs maxofs
 else
  let maxofs:=hint+1
  for _ in [0:n] do
   if ofs ≥ maxofs then break
   let some found <-ZbD left key arr base (hint - ofs) | return none
   if found then break
   lastofs:=ofs
   ofs:=2 * ofs+1
  lo:=hint+1 - min ofs maxofs
  hi:=hint - lastofs
 for _ in [0:n] do
  if lo ≥ hi then break
  let m:=lo+(hi - lo) / 2
  let some more <-ZbD left key arr base m | return none
  if more then lo:=m+1 else hi:=m
 return some hi):=rfl
section
variable{M:Model}{A:P4}{E:P7->P1->Prop}{s:P1}{left:Bool}{key:Keyed}{arr:Array Keyed}{base n hint:Nat}{st:SortSt}{B:Nat->Bool}
theorem Zee{Q:Option Nat->SortSt->Prop}(hb:∀i,i<n->∀Q:Option Bool->SortSt->Prop,Q (some (B i)) st->wpS M A E s (ZbD left key arr base i) Q st)
  (mono:∀i j,i<=j->j<n->B j=true->B i=true) (hn:hint<n)
  (h:∀k,k<=n->(∀i,i<k->B i=true)->(∀i,k<=i->i<n->B i=false)->Q (some k) st):wpS M A E s (Za3 left key arr base n hint) Q st:=by
 have anti:∀i j,i<=j->j<n->B i=false->B j=false:=fun i j h1 h2 e=>by
  cases e2:B j with
  | false=>rfl
  | true=>rw[mono i j h1 h2 e2] at e; cases e
 rw[ZqZ];refine Yd (hb hint hn _ ?_);cases e:B hint with
 | true =>
  dsimp only;rw[Yg rfl];refine Yd (WG (Y0 (fun x c st'=>st=st'/\∃l o,c=(none,l,o)/\l<o/\x<o/\hint+l<n/\B (hint+l)=true)
   (Q:=fun c st'=>st=st'/\∃l o,c=(none,l,o)/\l<o/\hint+l<n/\B (hint+l)=true/\(o ≥ n - hint\/B (hint+o)=false)) ?_ ?_ ⟨rfl,0,1,rfl,by omega,by omega,hn,e⟩) ?_)
  ·rintro x c st' _ hx ⟨rfl,l,o,rfl,a1,a2,a3,a4⟩;dsimp only;by_cases c1:o ≥ n - hint
   ·rw[Yg c1];exact Yf ⟨rfl,l,o,rfl,a1,a3,a4,.inl c1⟩
   ·rw[Yh c1];refine Yd (hb _ (by omega) _ ?_);cases e2:B (hint+o) with
    | true =>
     dsimp only;rw[Yh (by simp)];exact Yf ⟨rfl,o,_,rfl,by omega,by omega,by omega,e2⟩
    | false =>
     dsimp only;rw[Yg (by simp)];exact Yf ⟨rfl,l,o,rfl,a1,a3,a4,.inr e2⟩
  ·rintro c st' ⟨rfl,l,o,rfl,a1,a2,a3,a4⟩;rw[Qk] at a2;exact⟨rfl,l,o,rfl,a1,a3,a4,.inl (by omega)⟩
  ·rintro c st' ⟨rfl,l,o,rfl,a1,a3,a4,a5⟩;dsimp only;have h1:hint+l+1<=hint+min o (n - hint):=by omega
   have h2:hint+min o (n - hint)<=n:=by omega
   have hl:∀i,i<hint+l+1->B i=true:=fun i hi=>mono i _ (by omega) a3 a4;have hh:∀i,hint+min o (n - hint)<=i->i<n->B i=false:=fun i h3 h4=>by
    rcases a5 with a5 | a5
    ·omega
    ·exact anti _ i (by omega) h4 a5
   refine Yd (WG (Y0 (fun x c st'=>st=st'/\∃lo hi,c=(none,lo,hi)/\lo<=hi/\hi<=n/\hi - lo+x<=n/\(∀i,i<lo->B i=true)/\∀i,hi<=i->i<n->B i=false)
    (Q:=fun c st'=>st=st'/\∃hi,c=(none,hi,hi)/\hi<=n/\(∀i,i<hi->B i=true)/\∀i,hi<=i->i<n->B i=false) ?_ ?_ ⟨rfl,hint+l+1,hint+min o (n - hint),rfl,h1,h2,by omega,hl,hh⟩) ?_)
   ·rintro x c st' _ hx ⟨rfl,lo,hi,rfl,a1,a2,a3,a4,a5⟩;dsimp only;by_cases c1:lo ≥ hi
    ·rw[Yg c1];obtain rfl:lo=hi:=by omega
     exact Yf ⟨rfl,lo,rfl,a2,a4,a5⟩
    ·rw[Yh c1];refine Yd (hb _ (by omega) _ ?_);cases e:B (lo+(hi - lo) / 2) with
     | true =>
      dsimp only;rw[Yg rfl];refine Yf ⟨rfl,_,_,rfl,by omega,a2,by omega,fun i hi'=>mono i _ (by omega) (by omega) e,a5⟩
     | false =>
      dsimp only;rw[Yh (by simp)];refine Yf ⟨rfl,_,_,rfl,by omega,by omega,by omega,a4,fun i h3 h4 => ?_⟩;cases e2:B i with
      | false=>rfl
      | true=>rw[mono _ i h3 h4 e2] at e; cases e
   ·rintro c st' ⟨rfl,lo,hi,rfl,a1,a2,a3,a4,a5⟩;rw[Qk] at a3;obtain rfl:lo=hi:=by omega
    exact⟨rfl,lo,rfl,a2,a4,a5⟩
   ·rintro c st' ⟨rfl,hi,rfl,a2,a4,a5⟩;exact Yf (h hi a2 a4 a5)
 | false =>
  dsimp only;rw[Yh (by simp)];refine Yd (WG (Y0 (fun x c st'=>st=st'/\∃l o,c=(none,l,o)/\l<o/\x<o/\l<=hint/\B (hint - l)=false)
   (Q:=fun c st'=>st=st'/\∃l o,c=(none,l,o)/\l<o/\l<=hint/\B (hint - l)=false/\(o ≥ hint+1\/B (hint - o)=true)) ?_ ?_ ⟨rfl,0,1,rfl,by omega,by omega,by omega,e⟩) ?_)
  ·rintro x c st' _ hx ⟨rfl,l,o,rfl,a1,a2,a3,a4⟩;dsimp only;by_cases c1:o ≥ hint+1
   ·rw[Yg c1];exact Yf ⟨rfl,l,o,rfl,a1,a3,a4,.inl c1⟩
   ·rw[Yh c1];refine Yd (hb _ (by omega) _ ?_);cases e2:B (hint - o) with
    | true =>
     dsimp only;rw[Yg rfl];exact Yf ⟨rfl,l,o,rfl,a1,a3,a4,.inr e2⟩
    | false =>
     dsimp only;rw[Yh (by simp)];exact Yf ⟨rfl,o,_,rfl,by omega,by omega,by omega,e2⟩
  ·rintro c st' ⟨rfl,l,o,rfl,a1,a2,a3,a4⟩;rw[Qk] at a2;exact⟨rfl,l,o,rfl,a1,a3,a4,.inl (by omega)⟩
  ·rintro c st' ⟨rfl,l,o,rfl,a1,a3,a4,a5⟩;dsimp only;have h1:hint+1 - min o (hint+1)<=hint - l:=by omega
   have h2:hint - l<=n:=by omega
   have hl:∀i,i<hint+1 - min o (hint+1)->B i=true:=fun i hi=>by
    rcases a5 with a5 | a5
    ·omega
    ·exact mono i _ (by omega) (by omega) a5
   have hh:∀i,hint - l<=i->i<n->B i=false:=fun i h3 h4=>anti _ i (by omega) h4 a4;refine Yd (WG (Y0 (fun x c st'=>st=st'/\∃lo hi,c=(none,lo,hi)/\lo<=hi/\hi<=n/\hi - lo+x<=n/\(∀i,i<lo->B i=true)/\∀i,hi<=i->i<n->B i=false)
    (Q:=fun c st'=>st=st'/\∃hi,c=(none,hi,hi)/\hi<=n/\(∀i,i<hi->B i=true)/\∀i,hi<=i->i<n->B i=false) ?_ ?_ ⟨rfl,hint+1 - min o (hint+1),hint - l,rfl,h1,h2,by omega,hl,hh⟩) ?_)
   ·rintro x c st' _ hx ⟨rfl,lo,hi,rfl,a1,a2,a3,a4,a5⟩;dsimp only;by_cases c1:lo ≥ hi
    ·rw[Yg c1];obtain rfl:lo=hi:=by omega
     exact Yf ⟨rfl,lo,rfl,a2,a4,a5⟩
    ·rw[Yh c1];refine Yd (hb _ (by omega) _ ?_);cases e:B (lo+(hi - lo) / 2) with
     | true =>
      dsimp only;rw[Yg rfl];refine Yf ⟨rfl,_,_,rfl,by omega,a2,by omega,fun i hi'=>mono i _ (by omega) (by omega) e,a5⟩
     | false =>
      dsimp only;rw[Yh (by simp)];refine Yf ⟨rfl,_,_,rfl,by omega,by omega,by omega,a4,fun i h3 h4 => ?_⟩;cases e2:B i with
      | false=>rfl
      | true=>rw[mono _ i h3 h4 e2] at e; cases e
   ·rintro c st' ⟨rfl,lo,hi,rfl,a1,a2,a3,a4,a5⟩;rw[Qk] at a3;obtain rfl:lo=hi:=by omega
    exact⟨rfl,lo,rfl,a2,a4,a5⟩
   ·rintro c st' ⟨rfl,hi,rfl,a2,a4,a5⟩;exact Yf (h hi a2 a4 a5)
end
end TS
end
section
namespace TS
open PySem PyProof.Rows
def Zf3:Array Keyed->Array Keyed->StateT SortSt Sem (Array Keyed):=sortPriv% PySem.Builtin.mergeLo
def setG:Nat->StateT SortSt Sem Unit:=sortPriv% PySem.Builtin.setMinGallop
theorem ZcI(g:Nat):setG g=modify fun s=>SortSt.mk' (kindOf s) (arrOf s) (pendingOf s) g (failedOf s):=rfl
theorem Zpv(a b:Array Keyed):Zf3 a b=(do
 rule "list.sort.merge-lo"
 let total:=a.size+b.size
 let done (out:Array Keyed) (ia ib:Nat):=out++a.extract ia a.size++b.extract ib b.size
 let lastOfA (out:Array Keyed) (ia ib:Nat):=out++b.extract ib b.size++a.extract ia a.size
 let mut out:Array Keyed:=#[<-elem' b 0]
 let mut ia:=0
 let mut ib:=1
 if ib == b.size then return done out ia ib
 if ia+1 == a.size then return lastOfA out ia ib
 let mut minGallop:=gallopOf (<-get)
 for _ in [0:total] do
  let mut acount:=0
  let mut bcount:=0
  for _ in [0:total] do
   let some bWins <-lt' (<-elem' b ib) (<-elem' a ia) | return done out ia ib
   if bWins then
    out:=out.push (<-elem' b ib); ib:=ib+1; bcount:=bcount+1; acount:=0
    if ib == b.size then return done out ia ib
    if bcount ≥ minGallop then break
   else
    out:=out.push (<-elem' a ia); ia:=ia+1; acount:=acount+1; bcount:=0
    if ia+1 == a.size then return lastOfA out ia ib
    if acount ≥ minGallop then break
  rule "list.sort.gallop"
  minGallop:=minGallop+1
  for _ in [0:total] do
   if minGallop > 1 then minGallop:=minGallop - 1
   setG minGallop
   let some k <-Za3 false (<-elem' b ib) a ia (a.size - ia) 0 | return done out ia ib
   acount:=k
   if k > 0 then
    out:=out++a.extract ia (ia+k); ia:=ia+k
    if ia+1 == a.size then return lastOfA out ia ib
    if ia == a.size then return done out ia ib
   out:=out.push (<-elem' b ib); ib:=ib+1
   if ib == b.size then return done out ia ib
   let some k <-Za3 true (<-elem' a ia) b ib (b.size - ib) 0 | return done out ia ib
   bcount:=k
   if k > 0 then
    out:=out++b.extract ib (ib+k); ib:=ib+k
    if ib == b.size then return done out ia ib
   out:=out.push (<-elem' a ia); ia:=ia+1
   if ia+1 == a.size then return lastOfA out ia ib
   if acount<7 && bcount<7 then break
  minGallop:=minGallop+1
  setG minGallop
 unsupported "internal:list.sort.merge-bound"):=rfl
structure JL(L:Keyed->Keyed->Prop)(S out A B:List Keyed):Prop where
 pm:(out++(A++B)).Perm S
 sr:out.Pairwise L
 lo:∀o∈out,∀z∈A++B,L o z
section
variable{L:Keyed->Keyed->Prop}{S out A B T:List Keyed}
theorem JL.takeA(h:JL L S out (T++A) B)(hp:(T++A).Pairwise L)(hx:∀t∈T,∀z∈B,L t z):JL L S (out++T) A B:=by
 have hq:=Y4.mp hp;refine⟨?_,Y4.mpr ⟨h.sr,hq.1,fun o ho t ht=>h.lo o ho t (by simp[ht])⟩,fun o ho z hz => ?_⟩
 ·simpa[Wi] using h.pm
 ·rcases YJ.mp ho with ho | ho
  ·refine h.lo o ho z ?_;rcases YJ.mp hz with hz | hz <;> simp[hz]
  ·rcases YJ.mp hz with hz | hz
   ·exact hq.2.2 o ho z hz
   ·exact hx o ho z hz
theorem JL.takeB(h:JL L S out A (T++B))(hp:(T++B).Pairwise L)(hx:∀t∈T,∀z∈A,L t z):JL L S (out++T) A B:=by
 have hq:=Y4.mp hp;refine⟨?_,Y4.mpr ⟨h.sr,hq.1,fun o ho t ht=>h.lo o ho t (by simp[ht])⟩,fun o ho z hz => ?_⟩
 ·refine List.Perm.trans ?_ h.pm;rw[Wi];refine List.Perm.append_left _ ?_;rw[<-Wi,<-Wi];exact List.Perm.append_right _ VM
 ·rcases YJ.mp ho with ho | ho
  ·refine h.lo o ho z ?_;rcases YJ.mp hz with hz | hz <;> simp[hz]
  ·rcases YJ.mp hz with hz | hz
   ·exact hx o ho z hz
   ·exact hq.2.2 o ho z hz
theorem JL.fin(h:JL L S out A B){X:List Keyed}(hX:X.Perm (A++B))(hp:X.Pairwise L):(out++X).Perm S/\(out++X).Pairwise L :=
 ⟨(List.Perm.append_left _ hX).trans h.pm,Y4.mpr ⟨h.sr,hp,fun o ho z hz=>h.lo o ho z (hX.mem_iff.mp hz)⟩⟩
end
structure AB(less:Keyed->Keyed->Bool)(a b:Array Keyed):Prop where
 tr:∀x∈a.toList++b.toList,∀y∈a.toList++b.toList,∀z∈a.toList++b.toList,less x y=true->less y z=true->less x z=true
 sa:a.toList.Pairwise (fun x y=>less x y=true)
 sb:b.toList.Pairwise (fun x y=>less x y=true)
 ne:∀x∈a.toList,∀y∈b.toList,less y x = !(less x y)
 za:0<a.size
 zb:0<b.size
 fi:∀x∈a.toList,less (b[0]'zb) x=true
 la:∀y∈b.toList,less y (a[a.size - 1]'(by omega))=true
def J(less:Keyed->Keyed->Bool)(a b out:Array Keyed)(ia ib:Nat):Prop:=JL (fun x y=>less x y=true) (a.toList++b.toList) out.toList (a.toList.drop ia) (b.toList.drop ib)
def Rz(less:Keyed->Keyed->Bool)(a b r:Array Keyed):Prop:=r.toList.Perm (a.toList++b.toList)/\r.toList.Pairwise (fun x y=>less x y=true)
noncomputable abbrev SG(st:SortSt)(g:Nat):SortSt:=SortSt.mk' (kindOf st) (arrOf st) (pendingOf st) g (failedOf st)
section
variable{less:Keyed->Keyed->Bool}{a b out:Array Keyed}{ia ib:Nat}
theorem drop_cons{x:Array Keyed}{i:Nat}(h:i<x.size):x.toList.drop i=[x[i]]++x.toList.drop (i+1):=by
 rw[List.drop_eq_getElem_cons (by simpa using h)];simp
theorem ZdC{x:Array Keyed}{i k:Nat}(h:i+k<=x.size):x.toList.drop i=(x.extract i (i+k)).toList++x.toList.drop (i+k):=by
 rw[W9,List.extract_eq_drop_take,show i+k - i=k by omega,<-UF,Wh]
theorem Zb3{x:Array Keyed}{i:Nat}:(x.extract i x.size).toList=x.toList.drop i:=by
 rw[W9,List.extract_eq_drop_take];exact Qh (by simp)
theorem ZI{x:Array Keyed}{i:Nat}(h:i<x.size):x[i]∈x.toList:=by simp
theorem ZeL{x:Array Keyed}{i:Nat}{z:Keyed}(h:z∈x.toList.drop i):∃j,i<=j/\∃hj:j<x.size,z=x[j]:=by
 obtain⟨j,hj,rfl⟩:=Qa.mp h;rw[WA] at hj;refine⟨i+j,by omega,by simp at hj; omega,?_⟩;rw[List.getElem_drop];simp
theorem Zhg{x:Array Keyed}{i k:Nat}{z:Keyed}(hk:i+k<=x.size)(h:z∈(x.extract i (i+k)).toList):∃j,j<k/\∃hj:i+j<x.size,z=x[i+j]:=by
 obtain⟨j,hj,rfl⟩:=Qa.mp h;have hj':j<k:=by simp at hj; omega
 exact⟨j,hj',by omega,by simp⟩
theorem Zcq{x:Array Keyed}(h:x.toList.Pairwise (fun x y=>less x y=true)){i j:Nat}(hij:i<j)(hj:j<x.size):less (x[i]'(by omega)) x[j]=true:=by
 have:=Wa.mp h i j (by simp; omega) (by simpa using hj) hij;simpa using this
theorem J.takeA(C:AB less a b)(h:J less a b out ia ib){k:Nat}(hk:ia+k<=a.size)(hx:∀j,j<k->∀hj:ia+j<a.size,∀z∈b.toList.drop ib,less a[ia+j] z=true):J less a b (out++a.extract ia (ia+k)) (ia+k) ib:=by
 unfold J at h ⊢;rw[ZdC hk] at h;rw[YN];refine h.takeA ?_ fun t ht z hz => ?_
 ·rw[<-ZdC hk];exact C.sa.sublist (WQ _ _)
 ·obtain⟨j,hj,hj2,rfl⟩:=Zhg hk ht;exact hx j hj hj2 z hz
theorem J.takeB(C:AB less a b)(h:J less a b out ia ib){k:Nat}(hk:ib+k<=b.size)(hx:∀j,j<k->∀hj:ib+j<b.size,∀z∈a.toList.drop ia,less b[ib+j] z=true):J less a b (out++b.extract ib (ib+k)) ia (ib+k):=by
 unfold J at h ⊢;rw[ZdC hk] at h;rw[YN];refine h.takeB ?_ fun t ht z hz => ?_
 ·rw[<-ZdC hk];exact C.sb.sublist (WQ _ _)
 ·obtain⟨j,hj,hj2,rfl⟩:=Zhg hk ht;exact hx j hj hj2 z hz
theorem J.pushA(C:AB less a b)(h:J less a b out ia ib)(hi:ia<a.size)(hx:∀z∈b.toList.drop ib,less a[ia] z=true):J less a b (out.push a[ia]) (ia+1) ib:=by
 unfold J at h ⊢;rw[drop_cons hi] at h;rw[Qd];refine h.takeA ?_ fun t ht z hz => ?_
 ·rw[<-drop_cons hi];exact C.sa.sublist (WQ _ _)
 ·rw[Ys.mp ht];exact hx z hz
theorem J.pushB(C:AB less a b)(h:J less a b out ia ib)(hi:ib<b.size)(hx:∀z∈a.toList.drop ia,less b[ib] z=true):J less a b (out.push b[ib]) ia (ib+1):=by
 unfold J at h ⊢;rw[drop_cons hi] at h;rw[Qd];refine h.takeB ?_ fun t ht z hz => ?_
 ·rw[<-drop_cons hi];exact C.sb.sublist (WQ _ _)
 ·rw[Ys.mp ht];exact hx z hz
theorem J.doneB(C:AB less a b)(h:J less a b out ia ib)(hb:ib=b.size):Rz less a b (out++a.extract ia a.size++b.extract ib b.size):=by
 subst hb;unfold Rz;rw[YN,YN,Zb3,Zb3,Wi];refine JL.fin h (List.Perm.refl _) ?_;rw[Vx (as:=b.toList) (by simp),Wo];exact C.sa.sublist (WQ _ _)
theorem J.doneA(C:AB less a b)(h:J less a b out ia ib)(hb:ia=a.size):Rz less a b (out++a.extract ia a.size++b.extract ib b.size):=by
 subst hb;unfold Rz;rw[YN,YN,Zb3,Zb3,Wi];refine JL.fin h (List.Perm.refl _) ?_;rw[Vx (by simp),VY];exact C.sb.sublist (WQ _ _)
theorem J.last(C:AB less a b)(h:J less a b out ia ib)(hb:ia+1=a.size):Rz less a b (out++b.extract ib b.size++a.extract ia a.size):=by
 unfold Rz;rw[YN,YN,Zb3,Zb3,Wi];refine JL.fin h VM (Y4.mpr ⟨C.sb.sublist (WQ _ _),C.sa.sublist (WQ _ _),fun y hy x hx => ?_⟩);obtain⟨j,h1,h2,rfl⟩:=ZeL hx;obtain rfl:j=a.size - 1:=by omega
 exact C.la y (List.mem_of_mem_drop hy)
theorem AB.all_a(C:AB less a b){y:Keyed}(hy:y∈a.toList++b.toList)(hi:ia<a.size)(h:less y a[ia]=true):∀z∈a.toList.drop ia,less y z=true:=by
 intro z hz;obtain⟨j,h1,h2,rfl⟩:=ZeL hz;by_cases e:j=ia
 ·subst e; exact h
 ·exact C.tr y hy a[ia] (by simp) a[j] (by simp) h (Zcq C.sa (by omega) h2)
theorem AB.all_b(C:AB less a b){y:Keyed}(hy:y∈a.toList++b.toList)(hi:ib<b.size)(h:less y b[ib]=true):∀z∈b.toList.drop ib,less y z=true:=by
 intro z hz;obtain⟨j,h1,h2,rfl⟩:=ZeL hz;by_cases e:j=ib
 ·subst e; exact h
 ·exact C.tr y hy b[ib] (by simp) b[j] (by simp) h (Zcq C.sb (by omega) h2)
end
section
variable{M:Model}{A:P4}{E:P7->P1->Prop}{s:P1}{less:Keyed->Keyed->Bool}{a b:Array Keyed}{st:SortSt}
theorem Zu{arr:Array Keyed}{i:Nat}{Q:Keyed->SortSt->Prop}(h:i<arr.size)(hq:Q arr[i] st):wpS M A E s (elem' arr i) Q st:=by
 rw[elem'_eq,Yp h];exact Yf hq
def HL(M:Model)(A:P4)(E:P7->P1->Prop)(s:P1)(κ:SortKind)(less:Keyed->Keyed->Bool)(xs:List Keyed):Prop:=∀x∈xs,∀y∈xs,∀(st:SortSt) (Q:Option Bool->SortSt->Prop),kindOf st=κ->Q (some (less x y)) st->wpS M A E s (lt' x y) Q st
theorem Zkt{xs:List Keyed}{key:Keyed}{arr:Array Keyed}{base i:Nat}(H:HL M A E s (kindOf st) less xs)(hk:key∈xs)(hi:base+i<arr.size)(hx:arr[base+i]∈xs)(Q:Option Bool->SortSt->Prop)(h:Q (some (less arr[base+i] key)) st):wpS M A E s (ZbD true key arr base i) Q st:=by
 unfold ZbD;refine Yd (Zu hi ?_);rw[Yg rfl];exact H _ hx _ hk st _ rfl h
theorem ZiU{xs:List Keyed}{key:Keyed}{arr:Array Keyed}{base i:Nat}(H:HL M A E s (kindOf st) less xs)(hk:key∈xs)(hi:base+i<arr.size)(hx:arr[base+i]∈xs)(Q:Option Bool->SortSt->Prop)(h:Q (some (!less key arr[base+i])) st):wpS M A E s (ZbD false key arr base i) Q st:=by
 unfold ZbD;refine Yd (Zu hi ?_);rw[Yh (by simp)];refine Yd (H _ hk _ hx st _ rfl ?_);exact Yf h
theorem Zer{Q:Option Nat->SortSt->Prop}(C:AB less a b)(H:HL M A E s (kindOf st) less (a.toList++b.toList)){ia hint m:Nat}(hm:ia+m<=a.size)(hh:hint<m){y:Keyed}(hy:y∈b.toList)
  (h:∀k,k<=m->(∀i,i<k->∀hi:ia+i<a.size,less a[ia+i] y=true)->(∀i,k<=i->i<m->∀hi:ia+i<a.size,less y a[ia+i]=true)->Q (some k) st):wpS M A E s (Za3 false y a ia m hint) Q st:=by
 refine Zee (B:=fun i=>if hi:ia+i<a.size then less a[ia+i] y else false) (fun i hi Q hq => ?_) (fun i j hij hj hb => ?_) hh fun k h1 h2 h3=>h k h1 (fun i hi hi2 => ?_) fun i h4 h5 hi2 => ?_
 ·have hi':ia+i<a.size:=by omega
  rw[Wu hi'] at hq;refine ZiU H (by simp[hy]) hi' (by simp) Q ?_;rw[C.ne _ (by simp) y hy,Us];exact hq
 ·have hj':ia+j<a.size:=by omega
  have hi':ia+i<a.size:=by omega
  rw[Wu hj'] at hb;rw[Wu hi'];by_cases e:i=j
  ·subst e; exact hb
  ·exact C.tr _ (by simp) _ (by simp) y (by simp[hy]) (Zcq C.sa (by omega) hj') hb
 ·have:=h2 i hi;rw[Wu hi2] at this;exact this
 ·have:=h3 i h4 h5;rw[Wu hi2] at this;rw[C.ne _ (by simp) y hy,this];rfl
theorem ZbH{Q:Option Nat->SortSt->Prop}(C:AB less a b)(H:HL M A E s (kindOf st) less (a.toList++b.toList)){ib hint m:Nat}(hm:ib+m<=b.size)(hh:hint<m){x:Keyed}(hx:x∈a.toList)
  (h:∀k,k<=m->(∀i,i<k->∀hi:ib+i<b.size,less b[ib+i] x=true)->(∀i,k<=i->i<m->∀hi:ib+i<b.size,less x b[ib+i]=true)->Q (some k) st):wpS M A E s (Za3 true x b ib m hint) Q st:=by
 refine Zee (B:=fun i=>if hi:ib+i<b.size then less b[ib+i] x else false) (fun i hi Q hq => ?_) (fun i j hij hj hb => ?_) hh fun k h1 h2 h3=>h k h1 (fun i hi hi2 => ?_) fun i h4 h5 hi2 => ?_
 ·have hi':ib+i<b.size:=by omega
  rw[Wu hi'] at hq;exact Zkt H (by simp[hx]) hi' (by simp) Q hq
 ·have hj':ib+j<b.size:=by omega
  have hi':ib+i<b.size:=by omega
  rw[Wu hj'] at hb;rw[Wu hi'];by_cases e:i=j
  ·subst e; exact hb
  ·exact C.tr _ (by simp) _ (by simp) x (by simp[hx]) (Zcq C.sb (by omega) hj') hb
 ·have:=h2 i hi;rw[Wu hi2] at this;exact this
 ·have:=h3 i h4 h5;rw[Wu hi2] at this;rw[C.ne x hx _ (by simp)] at this;simpa using this
end
section
variable{M:Model}{A:P4}{E:P7->P1->Prop}{s:P1}{less:Keyed->Keyed->Bool}{a b:Array Keyed}{st:SortSt}
theorem Zi{α:Type}{c:Prop}[Decidable c]{x y:StateT SortSt Sem α}{Q:α->SortSt->Prop}(h1:c->wpS M A E s x Q st)(h2:¬ c->wpS M A E s y Q st):wpS M A E s (if c then x else y) Q st:=by
 by_cases h:c
 ·rw[Yg h]; exact h1 h
 ·rw[Yh h]; exact h2 h
def In2(less:Keyed->Keyed->Bool)(a b:Array Keyed)(st:SortSt)(base:Nat)(c:Option (Array Keyed)×Array Keyed×Nat×Nat×Nat×Nat×Nat)(st':SortSt):Prop:=∃g out ia ib mg ac bc,st'=SG st g/\c=(none,out,ia,ib,mg,ac,bc)/\J less a b out ia ib/\ia+1<a.size/\ib<b.size/\base<=ia+ib
def Po2(less:Keyed->Keyed->Bool)(a b:Array Keyed)(st:SortSt)(base:Nat)(c:Option (Array Keyed)×Array Keyed×Nat×Nat×Nat×Nat×Nat)(st':SortSt):Prop:=(∃g r q,st'=SG st g/\c=(some r,q)/\Rz less a b r)\/In2 less a b st base c st'
def In1(less:Keyed->Keyed->Bool)(a b:Array Keyed)(st':SortSt)(base:Nat)(c:Option (Array Keyed)×Array Keyed×Nat×Nat×Nat×Nat)(st'':SortSt):Prop:=∃out ia ib ac bc,st''=st'/\c=(none,out,ia,ib,ac,bc)/\J less a b out ia ib/\ia+1<a.size/\ib<b.size/\base<=ia+ib
def Po1(less:Keyed->Keyed->Bool)(a b:Array Keyed)(st':SortSt)(base:Nat)(c:Option (Array Keyed)×Array Keyed×Nat×Nat×Nat×Nat)(st'':SortSt):Prop:=(∃r q,st''=st'/\c=(some r,q)/\Rz less a b r)\/In1 less a b st' base c st''
theorem ZsE{Q:Array Keyed->SortSt->Prop}(C:AB less a b)(H:HL M A E s (kindOf st) less (a.toList++b.toList))(hr:∀{Q':Unit->P1->Prop} (x:String),Q' () s->wpAny M A (rule x) Q' E s)(h:∀r g,Rz less a b r->Q r (SG st g)):wpS M A E s (Zf3 a b) Q st:=by
 rw[Zpv];refine Yd (VE (hr _ ⟨rfl,?_⟩));have za:=C.za;have zb:=C.zb;refine Yd (Zu zb ?_);have j0:J less a b #[b[0]] 0 1:=by
  have:J less a b #[] 0 0:=⟨by simp,by simp,by simp⟩;exact J.pushB C this zb fun z hz=>C.fi z (List.mem_of_mem_drop hz)
 refine Zi (fun c=>Yf (h _ (gallopOf st) (j0.doneB C (by simpa using c)))) fun c => ?_;refine Zi (fun c'=>Yf (h _ (gallopOf st) (j0.last C (by simpa using c')))) fun c' => ?_;refine Yd (Qr ?_);have g1:0+1<a.size:=by simp at c'; omega
 have g2:1<b.size:=by simp at c; omega
 refine Yd (WG (Y0 (fun x c st' => ∃g out ia ib mg,st'=SG st g/\c=(none,out,ia,ib,mg)/\J less a b out ia ib/\ia+1<a.size/\ib<b.size/\x+1<=ia+ib)
  (Q:=fun c st' => ∃g r q,st'=SG st g/\c=(some r,q)/\Rz less a b r) ?_ ?_ ⟨gallopOf st,_,0,1,_,rfl,rfl,j0,g1,g2,by omega⟩) ?_)
 ·rintro x c st' _ hx ⟨g,out,ia,ib,mg,rfl,rfl,j,h1,h2,h3⟩;dsimp only;refine Yd (WG (Y0 (fun y c st'=>In1 less a b (SG st g) (ia+ib+y) c st') (Q:=fun c st'=>Po1 less a b (SG st g) (ia+ib+1) c st') ?_ ?_ ⟨_,_,_,_,_,rfl,rfl,j,h1,h2,by omega⟩) ?_)
  ·rintro y c st' _ hy ⟨out,ia',ib',ac,bc,rfl,rfl,j,h1,h2,h3⟩;dsimp only;refine Yd (Zu h2 ?_);refine Yd (Zu (by omega) ?_);refine Yd (H _ (by simp) _ (by simp) _ _ rfl ?_);dsimp only;refine Zi (fun e => ?_) fun e => ?_
   ·refine Yd (Zu h2 ?_);have jb:=J.pushB C j h2 (C.all_a (by simp) (by omega) e);refine Zi (fun c4=>Yf (.inl ⟨_,_,rfl,rfl,jb.doneB C (by simpa using c4)⟩)) fun c4 => ?_;have h2':ib' + 1<b.size:=by simp at c4; omega
    refine Zi (fun c5=>Yf (.inr ⟨_,_,_,_,_,rfl,rfl,jb,h1,h2',by omega⟩)) fun c5=>Yf ⟨_,_,_,_,_,rfl,rfl,jb,h1,h2',by omega⟩
   ·refine Yd (Zu (by omega) ?_);have e':less (a[ia']'(by omega)) b[ib']=true:=by
     have:=C.ne (a[ia']'(by omega)) (by simp) b[ib'] (by simp);rw[this] at e;simpa using e
    have ja:=J.pushA C j (by omega) (C.all_b (by simp) h2 e');refine Zi (fun c4=>Yf (.inl ⟨_,_,rfl,rfl,ja.last C (by simpa using c4)⟩)) fun c4 => ?_;have h1':ia' + 1+1<a.size:=by simp at c4; omega
    refine Zi (fun c5=>Yf (.inr ⟨_,_,_,_,_,rfl,rfl,ja,h1',h2,by omega⟩)) fun c5=>Yf ⟨_,_,_,_,_,rfl,rfl,ja,h1',h2,by omega⟩
  ·rintro c st' ⟨out,ia',ib',ac,bc,e1,e2,j,h1,h2,h3⟩;rw[Qk] at h3;exact .inr ⟨out,ia',ib',ac,bc,e1,e2,j,h1,h2,by omega⟩
  rintro c st' (⟨r,q,rfl,rfl,hz⟩ | ⟨out,ia',ib',ac,bc,rfl,rfl,j,h1,h2,h4⟩)
  ·exact Yf ⟨_,r,_,rfl,rfl,hz⟩
  dsimp only;refine Yd (VE (hr _ ⟨rfl,?_⟩));refine Yd (WG (Y0 (fun y c st'=>In2 less a b st (x+2) c st') (Q:=fun c st'=>Po2 less a b st (x+2) c st') ?_ ?_ ⟨g,_,_,_,_,_,_,rfl,rfl,j,h1,h2,by omega⟩) ?_)
  ·clear h4 h3 j h1 h2;rintro y c st' _ hy ⟨g,out,ia,ib,mg,ac,bc,rfl,rfl,j,h1,h2,h3⟩;dsimp only;refine Zi (fun c0 => ?_) fun c0 => ?_
   ·rw[ZcI];refine Yd (WB ?_);show wpS _ _ _ _ _ _ (SG st (mg - 1));refine Yd (Zu h2 ?_);refine Yd (Zer (st:=SG st (mg - 1)) C H (ia:=ia) (hint:=0) (m:=a.size - ia) (by omega) (by omega) (ZI h2) fun k k1 k2 k3 => ?_);dsimp only;refine Zi (fun c1 => ?_) fun c1 => ?_
    ·have ja:=j.takeA C (k:=k) (by omega) (fun i hi hi2 z hz=>C.all_b (by simp) h2 (k2 i hi hi2) z hz);refine Zi (fun c2=>Yf (.inl ⟨_,_,_,rfl,rfl,ja.last C (by simpa using c2)⟩)) fun c2 => ?_;refine Zi (fun c3=>Yf (.inl ⟨_,_,_,rfl,rfl,ja.doneA C (by simpa using c3)⟩)) fun c3 => ?_;have h1':ia+k+1<a.size:=by simp at c2 c3; omega
     have hz:∀z∈a.toList.drop (ia+k),less b[ib] z=true:=C.all_a (by simp) (by omega) (k3 k (Yi _) (by omega) (by omega));refine Yd (Zu h2 ?_);have jb:=J.pushB C ja h2 hz;refine Zi (fun c4=>Yf (.inl ⟨_,_,_,rfl,rfl,jb.doneB C (by simpa using c4)⟩)) fun c4 => ?_;have h2':ib+1<b.size:=by simp at c4; omega
     refine Yd (Zu (by omega) ?_);refine Yd (ZbH (st:=SG st (mg - 1)) C H (ib:=ib+1) (hint:=0) (m:=b.size - (ib+1)) (by omega) (by omega) (ZI (show ia+k<a.size by omega)) fun q q1 q2 q3 => ?_);dsimp only;refine Zi (fun c5 => ?_) fun c5 => ?_
     ·have jc:=jb.takeB C (k:=q) (by omega) (fun i hi hi2 z hz=>C.all_a (by simp) (show ia+k<a.size by omega) (q2 i hi hi2) z hz);refine Zi (fun c6=>Yf (.inl ⟨_,_,_,rfl,rfl,jc.doneB C (by simpa using c6)⟩)) fun c6 => ?_;have h2z:ib+1+q<b.size:=by simp at c6; omega
      have hy:∀z∈b.toList.drop (ib+1+q),less (a[ia+k]'(by omega)) z=true:=C.all_b (by simp) h2z (q3 q (Yi _) (by omega) h2z);refine Yd (Zu (by omega) ?_);have jd:=J.pushA C jc (show ia+k<a.size by omega) hy;refine Zi (fun c7=>Yf (.inl ⟨_,_,_,rfl,rfl,jd.last C (by simpa using c7)⟩)) fun c7 => ?_;have h1z:ia+k+1+1<a.size:=by simp at c7; omega
      refine Zi (fun c8=>Yf (.inr ⟨_,_,_,_,_,_,_,rfl,rfl,jd,h1z,by omega,by omega⟩)) fun c8 => ?_;exact Yf ⟨_,_,_,_,_,_,_,rfl,rfl,jd,h1z,by omega,by omega⟩
     ·obtain rfl:q=0:=by omega
      have hy:∀z∈b.toList.drop (ib+1),less (a[ia+k]'(by omega)) z=true:=C.all_b (by simp) h2' (q3 0 (Yi _) (by omega) h2');refine Yd (Zu (by omega) ?_);have jd:=J.pushA C jb (show ia+k<a.size by omega) hy;refine Zi (fun c7=>Yf (.inl ⟨_,_,_,rfl,rfl,jd.last C (by simpa using c7)⟩)) fun c7 => ?_;have h1z:ia+k+1+1<a.size:=by simp at c7; omega
      refine Zi (fun c8=>Yf (.inr ⟨_,_,_,_,_,_,_,rfl,rfl,jd,h1z,by omega,by omega⟩)) fun c8 => ?_;exact Yf ⟨_,_,_,_,_,_,_,rfl,rfl,jd,h1z,by omega,by omega⟩
    ·obtain rfl:k=0:=by omega
     have hz:∀z∈a.toList.drop ia,less b[ib] z=true:=C.all_a (by simp) (by omega) (k3 0 (Yi _) (by omega) (by omega));refine Yd (Zu h2 ?_);have jb:=J.pushB C j h2 hz;refine Zi (fun c4=>Yf (.inl ⟨_,_,_,rfl,rfl,jb.doneB C (by simpa using c4)⟩)) fun c4 => ?_;have h2':ib+1<b.size:=by simp at c4; omega
     refine Yd (Zu (by omega) ?_);refine Yd (ZbH (st:=SG st (mg - 1)) C H (ib:=ib+1) (hint:=0) (m:=b.size - (ib+1)) (by omega) (by omega) (ZI (show ia<a.size by omega)) fun q q1 q2 q3 => ?_);dsimp only;refine Zi (fun c5 => ?_) fun c5 => ?_
     ·have jc:=jb.takeB C (k:=q) (by omega) (fun i hi hi2 z hz=>C.all_a (by simp) (show ia<a.size by omega) (q2 i hi hi2) z hz);refine Zi (fun c6=>Yf (.inl ⟨_,_,_,rfl,rfl,jc.doneB C (by simpa using c6)⟩)) fun c6 => ?_;have h2z:ib+1+q<b.size:=by simp at c6; omega
      have hy:∀z∈b.toList.drop (ib+1+q),less (a[ia]'(by omega)) z=true:=C.all_b (by simp) h2z (q3 q (Yi _) (by omega) h2z);refine Yd (Zu (by omega) ?_);have jd:=J.pushA C jc (show ia<a.size by omega) hy;refine Zi (fun c7=>Yf (.inl ⟨_,_,_,rfl,rfl,jd.last C (by simpa using c7)⟩)) fun c7 => ?_;have h1z:ia+1+1<a.size:=by simp at c7; omega
      refine Zi (fun c8=>Yf (.inr ⟨_,_,_,_,_,_,_,rfl,rfl,jd,h1z,by omega,by omega⟩)) fun c8 => ?_;exact Yf ⟨_,_,_,_,_,_,_,rfl,rfl,jd,h1z,by omega,by omega⟩
     ·obtain rfl:q=0:=by omega
      have hy:∀z∈b.toList.drop (ib+1),less (a[ia]'(by omega)) z=true:=C.all_b (by simp) h2' (q3 0 (Yi _) (by omega) h2');refine Yd (Zu (by omega) ?_);have jd:=J.pushA C jb (show ia<a.size by omega) hy;refine Zi (fun c7=>Yf (.inl ⟨_,_,_,rfl,rfl,jd.last C (by simpa using c7)⟩)) fun c7 => ?_;have h1z:ia+1+1<a.size:=by simp at c7; omega
      refine Zi (fun c8=>Yf (.inr ⟨_,_,_,_,_,_,_,rfl,rfl,jd,h1z,by omega,by omega⟩)) fun c8 => ?_;exact Yf ⟨_,_,_,_,_,_,_,rfl,rfl,jd,h1z,by omega,by omega⟩
   ·rw[ZcI];refine Yd (WB ?_);show wpS _ _ _ _ _ _ (SG st mg);refine Yd (Zu h2 ?_);refine Yd (Zer (st:=SG st mg) C H (ia:=ia) (hint:=0) (m:=a.size - ia) (by omega) (by omega) (ZI h2) fun k k1 k2 k3 => ?_);dsimp only;refine Zi (fun c1 => ?_) fun c1 => ?_
    ·have ja:=j.takeA C (k:=k) (by omega) (fun i hi hi2 z hz=>C.all_b (by simp) h2 (k2 i hi hi2) z hz);refine Zi (fun c2=>Yf (.inl ⟨_,_,_,rfl,rfl,ja.last C (by simpa using c2)⟩)) fun c2 => ?_;refine Zi (fun c3=>Yf (.inl ⟨_,_,_,rfl,rfl,ja.doneA C (by simpa using c3)⟩)) fun c3 => ?_;have h1':ia+k+1<a.size:=by simp at c2 c3; omega
     have hz:∀z∈a.toList.drop (ia+k),less b[ib] z=true:=C.all_a (by simp) (by omega) (k3 k (Yi _) (by omega) (by omega));refine Yd (Zu h2 ?_);have jb:=J.pushB C ja h2 hz;refine Zi (fun c4=>Yf (.inl ⟨_,_,_,rfl,rfl,jb.doneB C (by simpa using c4)⟩)) fun c4 => ?_;have h2':ib+1<b.size:=by simp at c4; omega
     refine Yd (Zu (by omega) ?_);refine Yd (ZbH (st:=SG st mg) C H (ib:=ib+1) (hint:=0) (m:=b.size - (ib+1)) (by omega) (by omega) (ZI (show ia+k<a.size by omega)) fun q q1 q2 q3 => ?_);dsimp only;refine Zi (fun c5 => ?_) fun c5 => ?_
     ·have jc:=jb.takeB C (k:=q) (by omega) (fun i hi hi2 z hz=>C.all_a (by simp) (show ia+k<a.size by omega) (q2 i hi hi2) z hz);refine Zi (fun c6=>Yf (.inl ⟨_,_,_,rfl,rfl,jc.doneB C (by simpa using c6)⟩)) fun c6 => ?_;have h2z:ib+1+q<b.size:=by simp at c6; omega
      have hy:∀z∈b.toList.drop (ib+1+q),less (a[ia+k]'(by omega)) z=true:=C.all_b (by simp) h2z (q3 q (Yi _) (by omega) h2z);refine Yd (Zu (by omega) ?_);have jd:=J.pushA C jc (show ia+k<a.size by omega) hy;refine Zi (fun c7=>Yf (.inl ⟨_,_,_,rfl,rfl,jd.last C (by simpa using c7)⟩)) fun c7 => ?_;have h1z:ia+k+1+1<a.size:=by simp at c7; omega
      refine Zi (fun c8=>Yf (.inr ⟨_,_,_,_,_,_,_,rfl,rfl,jd,h1z,by omega,by omega⟩)) fun c8 => ?_;exact Yf ⟨_,_,_,_,_,_,_,rfl,rfl,jd,h1z,by omega,by omega⟩
     ·obtain rfl:q=0:=by omega
      have hy:∀z∈b.toList.drop (ib+1),less (a[ia+k]'(by omega)) z=true:=C.all_b (by simp) h2' (q3 0 (Yi _) (by omega) h2');refine Yd (Zu (by omega) ?_);have jd:=J.pushA C jb (show ia+k<a.size by omega) hy;refine Zi (fun c7=>Yf (.inl ⟨_,_,_,rfl,rfl,jd.last C (by simpa using c7)⟩)) fun c7 => ?_;have h1z:ia+k+1+1<a.size:=by simp at c7; omega
      refine Zi (fun c8=>Yf (.inr ⟨_,_,_,_,_,_,_,rfl,rfl,jd,h1z,by omega,by omega⟩)) fun c8 => ?_;exact Yf ⟨_,_,_,_,_,_,_,rfl,rfl,jd,h1z,by omega,by omega⟩
    ·obtain rfl:k=0:=by omega
     have hz:∀z∈a.toList.drop ia,less b[ib] z=true:=C.all_a (by simp) (by omega) (k3 0 (Yi _) (by omega) (by omega));refine Yd (Zu h2 ?_);have jb:=J.pushB C j h2 hz;refine Zi (fun c4=>Yf (.inl ⟨_,_,_,rfl,rfl,jb.doneB C (by simpa using c4)⟩)) fun c4 => ?_;have h2':ib+1<b.size:=by simp at c4; omega
     refine Yd (Zu (by omega) ?_);refine Yd (ZbH (st:=SG st mg) C H (ib:=ib+1) (hint:=0) (m:=b.size - (ib+1)) (by omega) (by omega) (ZI (show ia<a.size by omega)) fun q q1 q2 q3 => ?_);dsimp only;refine Zi (fun c5 => ?_) fun c5 => ?_
     ·have jc:=jb.takeB C (k:=q) (by omega) (fun i hi hi2 z hz=>C.all_a (by simp) (show ia<a.size by omega) (q2 i hi hi2) z hz);refine Zi (fun c6=>Yf (.inl ⟨_,_,_,rfl,rfl,jc.doneB C (by simpa using c6)⟩)) fun c6 => ?_;have h2z:ib+1+q<b.size:=by simp at c6; omega
      have hy:∀z∈b.toList.drop (ib+1+q),less (a[ia]'(by omega)) z=true:=C.all_b (by simp) h2z (q3 q (Yi _) (by omega) h2z);refine Yd (Zu (by omega) ?_);have jd:=J.pushA C jc (show ia<a.size by omega) hy;refine Zi (fun c7=>Yf (.inl ⟨_,_,_,rfl,rfl,jd.last C (by simpa using c7)⟩)) fun c7 => ?_;have h1z:ia+1+1<a.size:=by simp at c7; omega
      refine Zi (fun c8=>Yf (.inr ⟨_,_,_,_,_,_,_,rfl,rfl,jd,h1z,by omega,by omega⟩)) fun c8 => ?_;exact Yf ⟨_,_,_,_,_,_,_,rfl,rfl,jd,h1z,by omega,by omega⟩
     ·obtain rfl:q=0:=by omega
      have hy:∀z∈b.toList.drop (ib+1),less (a[ia]'(by omega)) z=true:=C.all_b (by simp) h2' (q3 0 (Yi _) (by omega) h2');refine Yd (Zu (by omega) ?_);have jd:=J.pushA C jb (show ia<a.size by omega) hy;refine Zi (fun c7=>Yf (.inl ⟨_,_,_,rfl,rfl,jd.last C (by simpa using c7)⟩)) fun c7 => ?_;have h1z:ia+1+1<a.size:=by simp at c7; omega
      refine Zi (fun c8=>Yf (.inr ⟨_,_,_,_,_,_,_,rfl,rfl,jd,h1z,by omega,by omega⟩)) fun c8 => ?_;exact Yf ⟨_,_,_,_,_,_,_,rfl,rfl,jd,h1z,by omega,by omega⟩
  ·rintro c st' hI;exact .inr hI
  rintro c st' (⟨g,r,q,rfl,rfl,hz⟩ | ⟨g,out,ia,ib,mg,ac,bc,rfl,rfl,j,h1,h2,h3⟩)
  ·exact Yf ⟨_,r,_,rfl,rfl,hz⟩
  dsimp only;rw[ZcI];refine Yd (WB ?_);exact Yf ⟨_,_,_,_,_,rfl,rfl,j,h1,h2,by omega⟩
 ·rintro c st' ⟨g,out,ia,ib,mg,rfl,rfl,j,h1,h2,h3⟩;rw[Qk] at h3;omega
 ·rintro c st' ⟨g,r,q,rfl,rfl,hz⟩;exact Yf (h r g hz)
end
end TS
end
section
namespace TS
open PySem PyProof.Rows
def Zfz:Array Keyed->Array Keyed->StateT SortSt Sem (Array Keyed):=sortPriv% PySem.Builtin.mergeHi
theorem Zoy(a b:Array Keyed):Zfz a b=(do
 rule "list.sort.merge-hi"
 let total:=a.size+b.size
 let done (out:Array Keyed) (na nb:Nat):=a.extract 0 na++b.extract 0 nb++out.reverse
 let firstOfB (out:Array Keyed) (na nb:Nat):=b.extract 0 nb++a.extract 0 na++out.reverse
 let mut na:=a.size - 1
 let mut nb:=b.size
 let mut out:Array Keyed:=#[<-elem' a na]
 if na == 0 then return done out na nb
 if nb == 1 then return firstOfB out na nb
 let mut minGallop:=gallopOf (<-get)
 for _ in [0:total] do
  let mut acount:=0
  let mut bcount:=0
  for _ in [0:total] do
   let some aWins <-lt' (<-elem' b (nb - 1)) (<-elem' a (na - 1)) | return done out na nb
   if aWins then
    na:=na - 1; out:=out.push (<-elem' a na); acount:=acount+1; bcount:=0
    if na == 0 then return done out na nb
    if acount ≥ minGallop then break
   else
    nb:=nb - 1; out:=out.push (<-elem' b nb); bcount:=bcount+1; acount:=0
    if nb == 1 then return firstOfB out na nb
    if bcount ≥ minGallop then break
  rule "list.sort.gallop"
  minGallop:=minGallop+1
  for _ in [0:total] do
   if minGallop > 1 then minGallop:=minGallop - 1
   setG minGallop
   let some at_ <-Za3 false (<-elem' b (nb - 1)) a 0 na (na - 1) | return done out na nb
   let k:=na - at_
   acount:=k
   if k > 0 then
    out:=out++(a.extract at_ na).reverse; na:=at_
    if na == 0 then return done out na nb
   nb:=nb - 1; out:=out.push (<-elem' b nb)
   if nb == 1 then return firstOfB out na nb
   let some at_ <-Za3 true (<-elem' a (na - 1)) b 0 nb (nb - 1) | return done out na nb
   let k:=nb - at_
   bcount:=k
   if k > 0 then
    out:=out++(b.extract at_ nb).reverse; nb:=at_
    if nb == 1 then return firstOfB out na nb
    if nb == 0 then return done out na nb
   na:=na - 1; out:=out.push (<-elem' a na)
   if na == 0 then return done out na nb
   if acount<7 && bcount<7 then break
  minGallop:=minGallop+1
  setG minGallop
 unsupported "internal:list.sort.merge-bound"):=rfl
def JH(less:Keyed->Keyed->Bool)(a b out:Array Keyed)(na nb:Nat):Prop:=JL (fun x y=>less y x=true) (a.toList++b.toList) out.toList (a.toList.take na).reverse (b.toList.take nb).reverse
section
variable{less:Keyed->Keyed->Bool}{a b out:Array Keyed}{na nb:Nat}
theorem take_cons{x:Array Keyed}{n:Nat}(h:n<x.size):(x.toList.take (n+1)).reverse=[x[n]]++(x.toList.take n).reverse:=by
 rw[VF (by simpa using h)];simp
theorem Ze0{x:Array Keyed}{i n:Nat}(h:i<=n)(hn:n<=x.size):(x.toList.take n).reverse=(x.extract i n).reverse.toList++(x.toList.take i).reverse:=by
 rw[QB,W9,List.extract_eq_drop_take,<-List.reverse_append];congr 1;obtain⟨k,rfl⟩:∃k,n=i+k:=⟨n - i,by omega⟩;rw[show i+k - i=k by omega,List.take_add]
theorem Zcb{x:Array Keyed}{n:Nat}:(x.extract 0 n).toList=x.toList.take n:=by
 rw[W9,List.extract_eq_drop_take];simp
theorem ZdV{x:Array Keyed}{n:Nat}{z:Keyed}(h:z∈(x.toList.take n).reverse):∃j,j<n/\∃hj:j<x.size,z=x[j]:=by
 rw[QG] at h;obtain⟨j,hj,rfl⟩:=Qa.mp h;rw[Y1] at hj;refine⟨j,by omega,by simp at hj; omega,?_⟩;rw[List.getElem_take];simp
theorem Zkq{x:Array Keyed}{i n:Nat}{z:Keyed}(hk:n<=x.size)(h:z∈(x.extract i n).reverse.toList):∃j,i<=j/\j<n/\∃hj:j<x.size,z=x[j]:=by
 rw[QB,QG] at h;obtain⟨j,hj,rfl⟩:=Qa.mp h;have hj':j<n - i:=by simp at hj; omega
 exact⟨i+j,by omega,by omega,by omega,by simp⟩
theorem ZeF{x:Array Keyed}(h:x.toList.Pairwise (fun x y=>less x y=true))(n:Nat):(x.toList.take n).reverse.Pairwise (fun x y=>less y x=true):=VN.mpr (h.sublist (Qx _ _))
theorem JH.takeA(C:AB less a b)(h:JH less a b out na nb){i:Nat}(hi:i<=na)(hn:na<=a.size)(hx:∀j,i<=j->j<na->∀hj:j<a.size,∀z∈(b.toList.take nb).reverse,less z a[j]=true):JH less a b (out++(a.extract i na).reverse) i nb:=by
 unfold JH at h ⊢;rw[Ze0 hi hn] at h;rw[YN];refine h.takeA ?_ fun t ht z hz => ?_
 ·rw[<-Ze0 hi hn];exact ZeF C.sa _
 ·obtain⟨j,h1,h2,h3,rfl⟩:=Zkq hn ht;exact hx j h1 h2 h3 z hz
theorem JH.takeB(C:AB less a b)(h:JH less a b out na nb){i:Nat}(hi:i<=nb)(hn:nb<=b.size)(hx:∀j,i<=j->j<nb->∀hj:j<b.size,∀z∈(a.toList.take na).reverse,less z b[j]=true):JH less a b (out++(b.extract i nb).reverse) na i:=by
 unfold JH at h ⊢;rw[Ze0 hi hn] at h;rw[YN];refine h.takeB ?_ fun t ht z hz => ?_
 ·rw[<-Ze0 hi hn];exact ZeF C.sb _
 ·obtain⟨j,h1,h2,h3,rfl⟩:=Zkq hn ht;exact hx j h1 h2 h3 z hz
theorem JH.pushA(C:AB less a b){m:Nat}(h:JH less a b out (m+1) nb)(hi:m<a.size)(hx:∀z∈(b.toList.take nb).reverse,less z a[m]=true):JH less a b (out.push a[m]) m nb:=by
 unfold JH at h ⊢;rw[take_cons hi] at h;rw[Qd];refine h.takeA ?_ fun t ht z hz => ?_
 ·rw[<-take_cons hi];exact ZeF C.sa _
 ·rw[Ys.mp ht];exact hx z hz
theorem JH.pushB(C:AB less a b){m:Nat}(h:JH less a b out na (m+1))(hi:m<b.size)(hx:∀z∈(a.toList.take na).reverse,less z b[m]=true):JH less a b (out.push b[m]) na m:=by
 unfold JH at h ⊢;rw[take_cons hi] at h;rw[Qd];refine h.takeB ?_ fun t ht z hz => ?_
 ·rw[<-take_cons hi];exact ZeF C.sb _
 ·rw[Ys.mp ht];exact hx z hz
theorem JH.close(h:JH less a b out na nb){X:List Keyed}(hX:X.Perm (a.toList.take na++b.toList.take nb))(hp:X.Pairwise (fun x y=>less x y=true)):(X++out.toList.reverse).Perm (a.toList++b.toList)/\(X++out.toList.reverse).Pairwise (fun x y=>less x y=true):=by
 have:=JL.fin h (X:=X.reverse) ((Qz X).trans (hX.trans ((List.Perm.append (Qz _) (Qz _)).symm))) (VN.mpr hp);rw[show X++out.toList.reverse=(out.toList++X.reverse).reverse by simp];exact⟨(Qz _).trans this.1,VN.mpr this.2⟩
theorem JH.doneA(C:AB less a b)(h:JH less a b out na nb)(hb:na=0):Rz less a b (a.extract 0 na++b.extract 0 nb++out.reverse):=by
 subst hb;unfold Rz;rw[YN,YN,Zcb,Zcb,QB];refine h.close (List.Perm.refl _) ?_;rw[Vk,VY];exact C.sb.sublist (Qx _ _)
theorem JH.doneB(C:AB less a b)(h:JH less a b out na nb)(hb:nb=0):Rz less a b (a.extract 0 na++b.extract 0 nb++out.reverse):=by
 subst hb;unfold Rz;rw[YN,YN,Zcb,Zcb,QB];refine h.close (List.Perm.refl _) ?_;rw[Vk,Wo];exact C.sa.sublist (Qx _ _)
theorem JH.first(C:AB less a b)(h:JH less a b out na nb)(hb:nb=1):Rz less a b (b.extract 0 nb++a.extract 0 na++out.reverse):=by
 subst hb;unfold Rz;rw[YN,YN,Zcb,Zcb,QB];refine h.close VM (Y4.mpr ⟨C.sb.sublist (Qx _ _),C.sa.sublist (Qx _ _),fun y hy x hx => ?_⟩);obtain⟨j,h1,h2,rfl⟩:=ZdV (QG.mpr hy);obtain rfl:j=0:=by omega
 exact C.fi x (VZ hx)
theorem AB.all_a'(C:AB less a b){y:Keyed}(hy:y∈a.toList++b.toList){m:Nat}(hi:m<a.size)(h:less a[m] y=true):∀z∈(a.toList.take (m+1)).reverse,less z y=true:=by
 intro z hz;obtain⟨j,h1,h2,rfl⟩:=ZdV hz;by_cases e:j=m
 ·subst e; exact h
 ·exact C.tr a[j] (by simp) a[m] (by simp) y hy (Zcq C.sa (by omega) hi) h
theorem AB.all_b'(C:AB less a b){y:Keyed}(hy:y∈a.toList++b.toList){m:Nat}(hi:m<b.size)(h:less b[m] y=true):∀z∈(b.toList.take (m+1)).reverse,less z y=true:=by
 intro z hz;obtain⟨j,h1,h2,rfl⟩:=ZdV hz;by_cases e:j=m
 ·subst e; exact h
 ·exact C.tr b[j] (by simp) b[m] (by simp) y hy (Zcq C.sb (by omega) hi) h
end
section
variable{M:Model}{A:P4}{E:P7->P1->Prop}{s:P1}{less:Keyed->Keyed->Bool}{a b:Array Keyed}{st:SortSt}
def Hn2(less:Keyed->Keyed->Bool)(a b:Array Keyed)(st:SortSt)(base:Nat)(c:Option (Array Keyed)×Nat×Nat×Array Keyed×Nat×Nat×Nat)(st':SortSt):Prop:=∃g out na nb mg ac bc,st'=SG st g/\c=(none,na,nb,out,mg,ac,bc)/\JH less a b out na nb/\0<na/\1<nb/\na<=a.size/\nb<=b.size/\na+nb+base<=a.size+b.size
def Ho2(less:Keyed->Keyed->Bool)(a b:Array Keyed)(st:SortSt)(base:Nat)(c:Option (Array Keyed)×Nat×Nat×Array Keyed×Nat×Nat×Nat)(st':SortSt):Prop:=(∃g r q,st'=SG st g/\c=(some r,q)/\Rz less a b r)\/Hn2 less a b st base c st'
def Hn1(less:Keyed->Keyed->Bool)(a b:Array Keyed)(st':SortSt)(base:Nat)(c:Option (Array Keyed)×Nat×Nat×Array Keyed×Nat×Nat)(st'':SortSt):Prop:=∃out na nb ac bc,st''=st'/\c=(none,na,nb,out,ac,bc)/\JH less a b out na nb/\0<na/\1<nb/\na<=a.size/\nb<=b.size/\na+nb+base<=a.size+b.size
def Ho1(less:Keyed->Keyed->Bool)(a b:Array Keyed)(st':SortSt)(base:Nat)(c:Option (Array Keyed)×Nat×Nat×Array Keyed×Nat×Nat)(st'':SortSt):Prop:=(∃r q,st''=st'/\c=(some r,q)/\Rz less a b r)\/Hn1 less a b st' base c st''
theorem Zn7{Q:Array Keyed->SortSt->Prop}(C:AB less a b)(H:HL M A E s (kindOf st) less (a.toList++b.toList))(hr:∀{Q':Unit->P1->Prop} (x:String),Q' () s->wpAny M A (rule x) Q' E s)(h:∀r g,Rz less a b r->Q r (SG st g)):wpS M A E s (Zfz a b) Q st:=by
 rw[Zoy];refine Yd (VE (hr _ ⟨rfl,?_⟩));have za:=C.za;have zb:=C.zb;obtain⟨n,hn⟩:∃n,a.size=n+1:=⟨a.size - 1,by omega⟩;have hn':a.size - 1=n:=by omega
 dsimp only;refine Yd (Zu (show a.size - 1<a.size by omega) ?_);have j0:JH less a b #[a[a.size - 1]'(by omega)] (a.size - 1) b.size:=by
  have e:JH less a b #[] a.size b.size:=by
   refine⟨?_,by simp,by simp⟩;rw[<-Yo,VD,<-Yo (xs:=b),VD];simpa using (List.Perm.append (Qz _) (Qz _))
  have e2:JH less a b #[] (a.size - 1+1) b.size:=by rw[show a.size - 1+1=a.size by omega]; exact e
  exact JH.pushA C e2 (show a.size - 1<a.size by omega) fun z hz=>C.la z (VZ (QG.mp hz))
 refine Zi (fun c=>Yf (h _ (gallopOf st) (j0.doneA C (by simpa using c)))) fun c => ?_;refine Zi (fun c'=>Yf (h _ (gallopOf st) (j0.first C (by simpa using c')))) fun c' => ?_;refine Yd (Qr ?_);have g1:0<a.size - 1:=by simp at c; omega
 have g2:1<b.size:=by simp at c'; omega
 refine Yd (WG (Y0 (fun x c st' => ∃g out na nb mg,st'=SG st g/\c=(none,na,nb,out,mg)/\JH less a b out na nb/\0<na/\1<nb/\na<=a.size/\nb<=b.size/\na+nb+(x+1)<=a.size+b.size)
  (Q:=fun c st' => ∃g r q,st'=SG st g/\c=(some r,q)/\Rz less a b r) ?_ ?_ ⟨gallopOf st,_,_,_,_,rfl,rfl,j0,g1,g2,by omega,by omega,by omega⟩) ?_)
 ·rintro x c st' _ hx ⟨g,out,na,nb,mg,rfl,rfl,j,h1,h2,h5,h6,h3⟩;dsimp only;refine Yd (WG (Y0 (fun y c st'=>Hn1 less a b (SG st g) (x+1+y) c st') (Q:=fun c st'=>Ho1 less a b (SG st g) (x+2) c st') ?_ ?_ ⟨_,_,_,_,_,rfl,rfl,j,h1,h2,h5,h6,by omega⟩) ?_)
  ·clear j h1 h2 h5 h6 h3;rintro y c st' _ hy ⟨out,na',nb',ac,bc,rfl,rfl,j,h1,h2,h5,h6,h3⟩;obtain⟨p,rfl⟩:∃p,na'=p+1:=⟨na' - 1,by omega⟩;obtain⟨q,rfl⟩:∃q,nb'=q+1:=⟨nb' - 1,by omega⟩;dsimp only;show wpS _ _ _ _ (elem' b q >>= _) _ _;refine Yd (Zu (show q<b.size by omega) ?_);show wpS _ _ _ _ (elem' a p >>= _) _ _;refine Yd (Zu (show p<a.size by omega) ?_);refine Yd (H _ (by simp) _ (by simp) _ _ rfl ?_);dsimp only;refine Zi (fun e => ?_) fun e => ?_
   ·show wpS _ _ _ _ (elem' a p >>= _) _ _;refine Yd (Zu (show p<a.size by omega) ?_);have ja:=JH.pushA C j (show p<a.size by omega) (C.all_b' (by simp) (show q<b.size by omega) e);refine Zi (fun c4=>Yf (.inl ⟨_,_,rfl,rfl,ja.doneA C (by simpa using c4)⟩)) fun c4 => ?_;have h1':0<p:=by simp at c4; omega
    refine Zi (fun c5=>Yf (.inr ⟨_,_,_,_,_,rfl,rfl,ja,h1',h2,by omega,by omega,by omega⟩)) fun c5=>Yf ⟨_,_,_,_,_,rfl,rfl,ja,h1',h2,by omega,by omega,by omega⟩
   ·show wpS _ _ _ _ (elem' b q >>= _) _ _;refine Yd (Zu (show q<b.size by omega) ?_);have e':less (a[p]'(by omega)) (b[q]'(by omega))=true:=by
     have:=C.ne (a[p]'(by omega)) (by simp) (b[q]'(by omega)) (by simp);rw[this] at e;simpa using e
    have jb:=JH.pushB C j (show q<b.size by omega) (C.all_a' (by simp) (show p<a.size by omega) e');refine Zi (fun c4=>Yf (.inl ⟨_,_,rfl,rfl,jb.first C (by simpa using c4)⟩)) fun c4 => ?_;have h2':1<q:=by simp at c4; omega
    refine Zi (fun c5=>Yf (.inr ⟨_,_,_,_,_,rfl,rfl,jb,h1,h2',by omega,by omega,by omega⟩)) fun c5=>Yf ⟨_,_,_,_,_,rfl,rfl,jb,h1,h2',by omega,by omega,by omega⟩
  ·rintro c st' ⟨out,na',nb',ac,bc,e1,e2,j,h1,h2,h5,h6,h3⟩;rw[Qk] at h3;exact .inr ⟨out,na',nb',ac,bc,e1,e2,j,h1,h2,h5,h6,by omega⟩
  clear j h1 h2 h5 h6 h3;rintro c st' (⟨r,q,rfl,rfl,hz⟩ | ⟨out,na,nb,ac,bc,rfl,rfl,j,h1,h2,h5,h6,h4⟩)
  ·exact Yf ⟨_,r,_,rfl,rfl,hz⟩
  dsimp only;refine Yd (VE (hr _ ⟨rfl,?_⟩));refine Yd (WG (Y0 (fun y c st'=>Hn2 less a b st (x+2) c st') (Q:=fun c st'=>Ho2 less a b st (x+2) c st') ?_ ?_ ⟨g,_,_,_,_,_,_,rfl,rfl,j,h1,h2,h5,h6,by omega⟩) ?_)
  ·clear h4 j h1 h2 h5 h6;rintro y c st' _ hy ⟨g,out,na,nb,mg,ac,bc,rfl,rfl,j,h1,h2,h5,h6,h3⟩;obtain⟨p,rfl⟩:∃p,na=p+1:=⟨na - 1,by omega⟩;obtain⟨q,rfl⟩:∃q,nb=q+1+1:=⟨nb - 2,by omega⟩;dsimp only;refine Zi (fun c0 => ?_) fun c0 => ?_
   ·rw[ZcI];refine Yd (WB ?_);show wpS _ _ _ _ _ _ (SG st (mg - 1));show wpS _ _ _ _ (elem' b (q+1) >>= _) _ _;refine Yd (Zu (show q+1<b.size by omega) ?_);refine Yd (Zer (st:=SG st (mg - 1)) C H (ia:=0) (hint:=p+1 - 1) (m:=p+1) (by omega) (by omega) (ZI (show q+1<b.size by omega)) fun at_ k1 k2 k3 => ?_);dsimp only;refine Zi (fun c1 => ?_) fun c1 => ?_
    ·have ja:=j.takeA C (i:=at_) k1 (by omega) (fun i hi hi2 hi3 z hz=>C.all_b' (by simp) (show q+1<b.size by omega) (by have:=k3 i hi hi2 (by omega); simpa using this) z hz);refine Zi (fun c3=>Yf (.inl ⟨_,_,_,rfl,rfl,ja.doneA C (by simpa using c3)⟩)) fun c3 => ?_;obtain⟨v,rfl⟩:∃v,at_=v+1:=⟨at_ - 1,by simp at c3; omega⟩;have hz:∀z∈(a.toList.take (v+1)).reverse,less z (b[q+1]'(by omega))=true:=C.all_a' (by simp) (show v<a.size by omega) (by have:=k2 v (by omega) (by omega); simpa using this);show wpS _ _ _ _ (elem' b (q+1) >>= _) _ _;refine Yd (Zu (show q+1<b.size by omega) ?_);have jb:=JH.pushB C ja (show q+1<b.size by omega) hz;refine Zi (fun c4=>Yf (.inl ⟨_,_,_,rfl,rfl,jb.first C (by simpa using c4)⟩)) fun c4 => ?_;have h2':0<q:=by simp at c4; omega
     show wpS _ _ _ _ (elem' a (v) >>= _) _ _;refine Yd (Zu (show v<a.size by omega) ?_);refine Yd (ZbH (st:=SG st (mg - 1)) C H (ib:=0) (hint:=q+1 - 1) (m:=q+1) (by omega) (by omega) (ZI (show v<a.size by omega)) fun at2 r1 r2 r3 => ?_);dsimp only;refine Zi (fun c5 => ?_) fun c5 => ?_
     ·have jc:=jb.takeB C (i:=at2) r1 (by omega) (fun i hi hi2 hi3 z hz=>C.all_a' (by simp) (show v<a.size by omega) (by have:=r3 i hi hi2 (by omega); simpa using this) z hz);refine Zi (fun c6=>Yf (.inl ⟨_,_,_,rfl,rfl,jc.first C (by simpa using c6)⟩)) fun c6 => ?_;refine Zi (fun c9=>Yf (.inl ⟨_,_,_,rfl,rfl,jc.doneB C (by simpa using c9)⟩)) fun c9 => ?_;have h2z:1<at2:=by simp at c6 c9; omega
      obtain⟨u,rfl⟩:∃u,at2=u+1:=⟨at2 - 1,by omega⟩;have hy:∀z∈(b.toList.take (u+1)).reverse,less z (a[v]'(by omega))=true:=C.all_b' (by simp) (show u<b.size by omega) (by have:=r2 u (by omega) (by omega); simpa using this);refine Yd (Zu (show v<a.size by omega) ?_);have jd:=JH.pushA C jc (show v<a.size by omega) hy;refine Zi (fun c7=>Yf (.inl ⟨_,_,_,rfl,rfl,jd.doneA C (by simpa using c7)⟩)) fun c7 => ?_;have h1z:0<v:=by simp at c7; omega
      refine Zi (fun c8=>Yf (.inr ⟨_,_,_,_,_,_,_,rfl,rfl,jd,h1z,by omega,by omega,by omega,by omega⟩)) fun c8 => ?_;exact Yf ⟨_,_,_,_,_,_,_,rfl,rfl,jd,h1z,by omega,by omega,by omega,by omega⟩
     ·obtain rfl:at2=q+1:=by omega
      have hy:∀z∈(b.toList.take (q+1)).reverse,less z (a[v]'(by omega))=true:=C.all_b' (by simp) (show q<b.size by omega) (by have:=r2 q (by omega) (by omega); simpa using this);refine Yd (Zu (show v<a.size by omega) ?_);have jd:=JH.pushA C jb (show v<a.size by omega) hy;refine Zi (fun c7=>Yf (.inl ⟨_,_,_,rfl,rfl,jd.doneA C (by simpa using c7)⟩)) fun c7 => ?_;have h1z:0<v:=by simp at c7; omega
      refine Zi (fun c8=>Yf (.inr ⟨_,_,_,_,_,_,_,rfl,rfl,jd,h1z,by omega,by omega,by omega,by omega⟩)) fun c8 => ?_;exact Yf ⟨_,_,_,_,_,_,_,rfl,rfl,jd,h1z,by omega,by omega,by omega,by omega⟩
    ·obtain rfl:at_=p+1:=by omega
     have hz:∀z∈(a.toList.take (p+1)).reverse,less z (b[q+1]'(by omega))=true:=C.all_a' (by simp) (show p<a.size by omega) (by have:=k2 p (by omega) (by omega); simpa using this);show wpS _ _ _ _ (elem' b (q+1) >>= _) _ _;refine Yd (Zu (show q+1<b.size by omega) ?_);have jb:=JH.pushB C j (show q+1<b.size by omega) hz;refine Zi (fun c4=>Yf (.inl ⟨_,_,_,rfl,rfl,jb.first C (by simpa using c4)⟩)) fun c4 => ?_;have h2':0<q:=by simp at c4; omega
     show wpS _ _ _ _ (elem' a (p) >>= _) _ _;refine Yd (Zu (show p<a.size by omega) ?_);refine Yd (ZbH (st:=SG st (mg - 1)) C H (ib:=0) (hint:=q+1 - 1) (m:=q+1) (by omega) (by omega) (ZI (show p<a.size by omega)) fun at2 r1 r2 r3 => ?_);dsimp only;refine Zi (fun c5 => ?_) fun c5 => ?_
     ·have jc:=jb.takeB C (i:=at2) r1 (by omega) (fun i hi hi2 hi3 z hz=>C.all_a' (by simp) (show p<a.size by omega) (by have:=r3 i hi hi2 (by omega); simpa using this) z hz);refine Zi (fun c6=>Yf (.inl ⟨_,_,_,rfl,rfl,jc.first C (by simpa using c6)⟩)) fun c6 => ?_;refine Zi (fun c9=>Yf (.inl ⟨_,_,_,rfl,rfl,jc.doneB C (by simpa using c9)⟩)) fun c9 => ?_;have h2z:1<at2:=by simp at c6 c9; omega
      obtain⟨u,rfl⟩:∃u,at2=u+1:=⟨at2 - 1,by omega⟩;have hy:∀z∈(b.toList.take (u+1)).reverse,less z (a[p]'(by omega))=true:=C.all_b' (by simp) (show u<b.size by omega) (by have:=r2 u (by omega) (by omega); simpa using this);refine Yd (Zu (show p<a.size by omega) ?_);have jd:=JH.pushA C jc (show p<a.size by omega) hy;refine Zi (fun c7=>Yf (.inl ⟨_,_,_,rfl,rfl,jd.doneA C (by simpa using c7)⟩)) fun c7 => ?_;have h1z:0<p:=by simp at c7; omega
      refine Zi (fun c8=>Yf (.inr ⟨_,_,_,_,_,_,_,rfl,rfl,jd,h1z,by omega,by omega,by omega,by omega⟩)) fun c8 => ?_;exact Yf ⟨_,_,_,_,_,_,_,rfl,rfl,jd,h1z,by omega,by omega,by omega,by omega⟩
     ·obtain rfl:at2=q+1:=by omega
      have hy:∀z∈(b.toList.take (q+1)).reverse,less z (a[p]'(by omega))=true:=C.all_b' (by simp) (show q<b.size by omega) (by have:=r2 q (by omega) (by omega); simpa using this);refine Yd (Zu (show p<a.size by omega) ?_);have jd:=JH.pushA C jb (show p<a.size by omega) hy;refine Zi (fun c7=>Yf (.inl ⟨_,_,_,rfl,rfl,jd.doneA C (by simpa using c7)⟩)) fun c7 => ?_;have h1z:0<p:=by simp at c7; omega
      refine Zi (fun c8=>Yf (.inr ⟨_,_,_,_,_,_,_,rfl,rfl,jd,h1z,by omega,by omega,by omega,by omega⟩)) fun c8 => ?_;exact Yf ⟨_,_,_,_,_,_,_,rfl,rfl,jd,h1z,by omega,by omega,by omega,by omega⟩
   ·rw[ZcI];refine Yd (WB ?_);show wpS _ _ _ _ _ _ (SG st mg);show wpS _ _ _ _ (elem' b (q+1) >>= _) _ _;refine Yd (Zu (show q+1<b.size by omega) ?_);refine Yd (Zer (st:=SG st mg) C H (ia:=0) (hint:=p+1 - 1) (m:=p+1) (by omega) (by omega) (ZI (show q+1<b.size by omega)) fun at_ k1 k2 k3 => ?_);dsimp only;refine Zi (fun c1 => ?_) fun c1 => ?_
    ·have ja:=j.takeA C (i:=at_) k1 (by omega) (fun i hi hi2 hi3 z hz=>C.all_b' (by simp) (show q+1<b.size by omega) (by have:=k3 i hi hi2 (by omega); simpa using this) z hz);refine Zi (fun c3=>Yf (.inl ⟨_,_,_,rfl,rfl,ja.doneA C (by simpa using c3)⟩)) fun c3 => ?_;obtain⟨v,rfl⟩:∃v,at_=v+1:=⟨at_ - 1,by simp at c3; omega⟩;have hz:∀z∈(a.toList.take (v+1)).reverse,less z (b[q+1]'(by omega))=true:=C.all_a' (by simp) (show v<a.size by omega) (by have:=k2 v (by omega) (by omega); simpa using this);show wpS _ _ _ _ (elem' b (q+1) >>= _) _ _;refine Yd (Zu (show q+1<b.size by omega) ?_);have jb:=JH.pushB C ja (show q+1<b.size by omega) hz;refine Zi (fun c4=>Yf (.inl ⟨_,_,_,rfl,rfl,jb.first C (by simpa using c4)⟩)) fun c4 => ?_;have h2':0<q:=by simp at c4; omega
     show wpS _ _ _ _ (elem' a (v) >>= _) _ _;refine Yd (Zu (show v<a.size by omega) ?_);refine Yd (ZbH (st:=SG st mg) C H (ib:=0) (hint:=q+1 - 1) (m:=q+1) (by omega) (by omega) (ZI (show v<a.size by omega)) fun at2 r1 r2 r3 => ?_);dsimp only;refine Zi (fun c5 => ?_) fun c5 => ?_
     ·have jc:=jb.takeB C (i:=at2) r1 (by omega) (fun i hi hi2 hi3 z hz=>C.all_a' (by simp) (show v<a.size by omega) (by have:=r3 i hi hi2 (by omega); simpa using this) z hz);refine Zi (fun c6=>Yf (.inl ⟨_,_,_,rfl,rfl,jc.first C (by simpa using c6)⟩)) fun c6 => ?_;refine Zi (fun c9=>Yf (.inl ⟨_,_,_,rfl,rfl,jc.doneB C (by simpa using c9)⟩)) fun c9 => ?_;have h2z:1<at2:=by simp at c6 c9; omega
      obtain⟨u,rfl⟩:∃u,at2=u+1:=⟨at2 - 1,by omega⟩;have hy:∀z∈(b.toList.take (u+1)).reverse,less z (a[v]'(by omega))=true:=C.all_b' (by simp) (show u<b.size by omega) (by have:=r2 u (by omega) (by omega); simpa using this);refine Yd (Zu (show v<a.size by omega) ?_);have jd:=JH.pushA C jc (show v<a.size by omega) hy;refine Zi (fun c7=>Yf (.inl ⟨_,_,_,rfl,rfl,jd.doneA C (by simpa using c7)⟩)) fun c7 => ?_;have h1z:0<v:=by simp at c7; omega
      refine Zi (fun c8=>Yf (.inr ⟨_,_,_,_,_,_,_,rfl,rfl,jd,h1z,by omega,by omega,by omega,by omega⟩)) fun c8 => ?_;exact Yf ⟨_,_,_,_,_,_,_,rfl,rfl,jd,h1z,by omega,by omega,by omega,by omega⟩
     ·obtain rfl:at2=q+1:=by omega
      have hy:∀z∈(b.toList.take (q+1)).reverse,less z (a[v]'(by omega))=true:=C.all_b' (by simp) (show q<b.size by omega) (by have:=r2 q (by omega) (by omega); simpa using this);refine Yd (Zu (show v<a.size by omega) ?_);have jd:=JH.pushA C jb (show v<a.size by omega) hy;refine Zi (fun c7=>Yf (.inl ⟨_,_,_,rfl,rfl,jd.doneA C (by simpa using c7)⟩)) fun c7 => ?_;have h1z:0<v:=by simp at c7; omega
      refine Zi (fun c8=>Yf (.inr ⟨_,_,_,_,_,_,_,rfl,rfl,jd,h1z,by omega,by omega,by omega,by omega⟩)) fun c8 => ?_;exact Yf ⟨_,_,_,_,_,_,_,rfl,rfl,jd,h1z,by omega,by omega,by omega,by omega⟩
    ·obtain rfl:at_=p+1:=by omega
     have hz:∀z∈(a.toList.take (p+1)).reverse,less z (b[q+1]'(by omega))=true:=C.all_a' (by simp) (show p<a.size by omega) (by have:=k2 p (by omega) (by omega); simpa using this);show wpS _ _ _ _ (elem' b (q+1) >>= _) _ _;refine Yd (Zu (show q+1<b.size by omega) ?_);have jb:=JH.pushB C j (show q+1<b.size by omega) hz;refine Zi (fun c4=>Yf (.inl ⟨_,_,_,rfl,rfl,jb.first C (by simpa using c4)⟩)) fun c4 => ?_;have h2':0<q:=by simp at c4; omega
     show wpS _ _ _ _ (elem' a (p) >>= _) _ _;refine Yd (Zu (show p<a.size by omega) ?_);refine Yd (ZbH (st:=SG st mg) C H (ib:=0) (hint:=q+1 - 1) (m:=q+1) (by omega) (by omega) (ZI (show p<a.size by omega)) fun at2 r1 r2 r3 => ?_);dsimp only;refine Zi (fun c5 => ?_) fun c5 => ?_
     ·have jc:=jb.takeB C (i:=at2) r1 (by omega) (fun i hi hi2 hi3 z hz=>C.all_a' (by simp) (show p<a.size by omega) (by have:=r3 i hi hi2 (by omega); simpa using this) z hz);refine Zi (fun c6=>Yf (.inl ⟨_,_,_,rfl,rfl,jc.first C (by simpa using c6)⟩)) fun c6 => ?_;refine Zi (fun c9=>Yf (.inl ⟨_,_,_,rfl,rfl,jc.doneB C (by simpa using c9)⟩)) fun c9 => ?_;have h2z:1<at2:=by simp at c6 c9; omega
      obtain⟨u,rfl⟩:∃u,at2=u+1:=⟨at2 - 1,by omega⟩;have hy:∀z∈(b.toList.take (u+1)).reverse,less z (a[p]'(by omega))=true:=C.all_b' (by simp) (show u<b.size by omega) (by have:=r2 u (by omega) (by omega); simpa using this);refine Yd (Zu (show p<a.size by omega) ?_);have jd:=JH.pushA C jc (show p<a.size by omega) hy;refine Zi (fun c7=>Yf (.inl ⟨_,_,_,rfl,rfl,jd.doneA C (by simpa using c7)⟩)) fun c7 => ?_;have h1z:0<p:=by simp at c7; omega
      refine Zi (fun c8=>Yf (.inr ⟨_,_,_,_,_,_,_,rfl,rfl,jd,h1z,by omega,by omega,by omega,by omega⟩)) fun c8 => ?_;exact Yf ⟨_,_,_,_,_,_,_,rfl,rfl,jd,h1z,by omega,by omega,by omega,by omega⟩
     ·obtain rfl:at2=q+1:=by omega
      have hy:∀z∈(b.toList.take (q+1)).reverse,less z (a[p]'(by omega))=true:=C.all_b' (by simp) (show q<b.size by omega) (by have:=r2 q (by omega) (by omega); simpa using this);refine Yd (Zu (show p<a.size by omega) ?_);have jd:=JH.pushA C jb (show p<a.size by omega) hy;refine Zi (fun c7=>Yf (.inl ⟨_,_,_,rfl,rfl,jd.doneA C (by simpa using c7)⟩)) fun c7 => ?_;have h1z:0<p:=by simp at c7; omega
      refine Zi (fun c8=>Yf (.inr ⟨_,_,_,_,_,_,_,rfl,rfl,jd,h1z,by omega,by omega,by omega,by omega⟩)) fun c8 => ?_;exact Yf ⟨_,_,_,_,_,_,_,rfl,rfl,jd,h1z,by omega,by omega,by omega,by omega⟩
  ·rintro c st' hI;exact .inr hI
  rintro c st' (⟨g,r,q,rfl,rfl,hz⟩ | ⟨g,out,na,nb,mg,ac,bc,rfl,rfl,j,h1,h2,h5,h6,h3⟩)
  ·exact Yf ⟨_,r,_,rfl,rfl,hz⟩
  dsimp only;rw[ZcI];refine Yd (WB ?_);exact Yf ⟨_,_,_,_,_,rfl,rfl,j,h1,h2,h5,h6,by omega⟩
 ·rintro c st' ⟨g,out,na,nb,mg,rfl,rfl,j,h1,h2,h5,h6,h3⟩;rw[Qk] at h3;omega
 ·rintro c st' ⟨g,r,q,rfl,rfl,hz⟩;exact Yf (h r g hz)
end
end TS
end
section
namespace TS
open PySem PyProof.Rows
theorem Zog(i:Nat):mergeAt' i=(do
 let s <-get
 let (some (sa,na,power),some (sb,nb,_)):=((pendingOf s)[i]?,(pendingOf s)[i+1]?) | unsupported "internal:list.sort.pending"
 set (setPending s (((pendingOf s).setIfInBounds i (sa,na+nb,power)).eraseIdxIfInBounds (i+1)))
 let some k <-Za3 false (<-elem' (arrOf s) sb) (arrOf s) sa na 0 | return false
 let (sa,na):=(sa+k,na - k)
 if na == 0 then return true
 let some nb <-Za3 true (<-elem' (arrOf s) (sa+na - 1)) (arrOf s) sb nb (nb - 1) | return false
 if nb == 0 then return true
 let x:=(arrOf s).extract sa sb
 let y:=(arrOf s).extract sb (sb+nb)
 let merged <-if na<=nb then Zf3 x y else Zfz x y
 modify fun s=>setArr s (merged.toList.zipIdx.foldl (fun a (p,j)=>a.setIfInBounds (sa+j) p) (arrOf s))
 return (failedOf (<-get)).isNone):=rfl
theorem ZoV{M:Model}{A:P4}{E:P7->P1->Prop}{s:P1}{st:SortSt}{x:SortSt}{Q:PUnit->SortSt->Prop}(h:Q ⟨⟩ x):wpS M A E s (set x:StateT SortSt Sem PUnit) Q st:=by
 unfold wpS; rw[StateT.run_set]; exact Yb ⟨rfl,h⟩
theorem splice(k:Nat):∀(r:List Keyed) (o:Nat) (arr:Array Keyed),k+o+r.length<=arr.size->((r.zipIdx o).foldl (fun a x=>a.setIfInBounds (k+x.snd) x.fst) arr).toList=arr.toList.take (k+o)++r++arr.toList.drop (k+o+r.length)
 | [],o,arr,h=>by simp
 | x :: r,o,arr,h=>by
  rw[List.zipIdx_cons,Va,splice k r (o+1) _ (by simp at h ⊢; omega)];have hlt:k+o<arr.size:=by simp at h; omega
  have e1:(arr.setIfInBounds (k+o) x).toList.take (k+(o+1))=arr.toList.take (k+o)++[x]:=by
   rw[Q7,show k+(o+1)=k+o+1 by omega,VF (by simpa using hlt),List.take_set_of_le (Yi _)];simp
  have e2:(arr.setIfInBounds (k+o) x).toList.drop (k+(o+1)+r.length)=arr.toList.drop (k+o+(x :: r).length):=by
   rw[Q7,List.drop_set_of_lt (by omega)];simp;congr 1;omega
  rw[e1,e2];simp
structure Tot(less:Keyed->Keyed->Bool)(xs:List Keyed):Prop where
 tr:∀x∈xs,∀y∈xs,∀z∈xs,less x y=true->less y z=true->less x z=true
 ne:xs.Pairwise (fun x y=>less y x = !(less x y))
theorem Tot.perm{less:Keyed->Keyed->Bool}{xs ys:List Keyed}(T:Tot less xs)(h:ys.Perm xs):Tot less ys :=
 ⟨fun x hx y hy z hz=>T.tr x (h.mem_iff.mp hx) y (h.mem_iff.mp hy) z (h.mem_iff.mp hz),(h.pairwise_iff (fun {x y} e=>by rw[e,Us])).mpr T.ne⟩
theorem Tot.at_{less:Keyed->Keyed->Bool}{x:Array Keyed}(T:Tot less x.toList){i j:Nat}(hi:i<x.size)(hj:j<x.size)(h:i≠j):less x[j] x[i] = !(less x[i] x[j]):=by
 rcases Nat.lt_or_gt_of_ne h with h | h
 ·have:=Wa.mp T.ne i j (by simpa using hi) (by simpa using hj) h;simp only[Array.getElem_toList] at this;exact this
 ·have:=Wa.mp T.ne j i (by simpa using hj) (by simpa using hi) h;simp only[Array.getElem_toList] at this;rw[this,Us]
def Srt(less:Keyed->Keyed->Bool)(x:Array Keyed)(lo hi:Nat):Prop:=∀i j (hij:i<j) (hj:j<x.size),lo<=i->j<hi->less (x[i]'(by omega)) x[j]=true
theorem ZbL{x:Array Keyed}{i n:Nat}{z:Keyed}(h:z∈(x.extract i n).toList):∃j,i<=j/\j<n/\∃hj:j<x.size,z=x[j]:=by
 obtain⟨j,hj,rfl⟩:=Qa.mp h;have hj':j<min n x.size - i:=by simp at hj; omega
 exact⟨i+j,by omega,by omega,by omega,by simp⟩
theorem ZdW{less:Keyed->Keyed->Bool}{x:Array Keyed}{i n:Nat}(h:Srt less x i n):(x.extract i n).toList.Pairwise (fun x y=>less x y=true):=by
 rw[Wa];intro p q hp hq hpq;have hq':q<min n x.size - i:=by simp at hq; omega
 have:=h (i+p) (i+q) (by omega) (by omega) (by omega) (by omega);simpa using this
theorem ZiC{less:Keyed->Keyed->Bool}{x:Array Keyed}(h:Srt less x 0 x.size):x.toList.Pairwise (fun x y=>less x y=true):=by
 have:=ZdW h;rw[Zb3] at this;simpa using this
section
variable{M:Model}{A:P4}{E:P7->P1->Prop}{s:P1}{less:Keyed->Keyed->Bool}{st:SortSt}
theorem Znj{Q:Bool->SortSt->Prop}{n1 n2 pw:Nat}(hp:pendingOf st = #[(0,n1,pw),(n1,n2,0)])(hf:failedOf st=none)(hs:(arrOf st).size=n1+n2)(h1:0<n1)(h2:0<n2)
  (T:Tot less (arrOf st).toList) (s1:Srt less (arrOf st) 0 n1) (s2:Srt less (arrOf st) n1 (n1+n2)) (H:HL M A E s (kindOf st) less (arrOf st).toList) (hr:∀{Q':Unit->P1->Prop} (x:String),Q' () s->wpAny M A (rule x) Q' E s)
  (h:∀arr' g,arr'.toList.Perm (arrOf st).toList->arr'.toList.Pairwise (fun x y=>less x y=true)->Q true (SortSt.mk' (kindOf st) arr' #[(0,n1+n2,pw)] g none)):wpS M A E s (mergeAt' 0) Q st:=by
 rw[Zog];refine Yd (Qr ?_);rw[hp];dsimp only;show wpS _ _ _ _ (set _ >>= _) _ _;refine Yd (ZoV ?_);have hpend:(((#[(0,n1,pw),(n1,n2,0)]:Array (Nat×Nat×Nat)).setIfInBounds 0 (0,n1+n2,pw)).eraseIdxIfInBounds (0+1)) = #[(0,n1+n2,pw)]:=by
  apply Ut.mp;simp[Array.eraseIdxIfInBounds]
 rw[hpend];have hst:∀Q':Bool->SortSt->Prop,True:=fun _=>trivial;generalize hx:arrOf st=x at *;rw[show setPending st #[(0,n1+n2,pw)]=SortSt.mk' (kindOf st) x #[(0,n1+n2,pw)] (gallopOf st) (failedOf st) from by rw[<-hx]];have whole0:Srt less x 0 x.size->Q true (SortSt.mk' (kindOf st) x #[(0,n1+n2,pw)] (gallopOf st) none):=fun w=>h x _ (List.Perm.refl _) (ZiC w);refine Yd (Zu (show n1<x.size by omega) ?_);refine Yd (Zee (st:=SortSt.mk' (kindOf st) x #[(0,n1+n2,pw)] (gallopOf st) (failedOf st)) (B:=fun i=>if hi:i<x.size then less x[i] (x[n1]'(by omega)) else false) (fun i hi Q hq => ?_) (fun i j hij hj hb => ?_) h1 fun k k1 k2 k3 => ?_)
 ·have hi':i<x.size:=by omega
  rw[Wu hi'] at hq;refine ZiU (st:=SortSt.mk' (kindOf st) x #[(0,n1+n2,pw)] (gallopOf st) (failedOf st)) H (ZI (show n1<x.size by omega)) (show 0+i<x.size by omega) (ZI (show 0+i<x.size by omega)) Q ?_;have:=T.at_ hi' (show n1<x.size by omega) (by omega);simp only[Wv];rw[this,Us];exact hq
 ·have hj':j<x.size:=by omega
  have hi':i<x.size:=by omega
  rw[Wu hj'] at hb;rw[Wu hi'];by_cases e:i=j
  ·subst e; exact hb
  ·exact T.tr _ (by simp) _ (by simp) _ (by simp) (s1 i j (by omega) hj' (by omega) hj) hb
 have low:∀i (hi:i<k) (hi':i<x.size),less x[i] (x[n1]'(by omega))=true:=fun i hi hi'=>by
  have:=k2 i hi;rw[Wu hi'] at this;exact this
 have high:∀i (hi:k<=i) (hi':i<n1),less (x[n1]'(by omega)) (x[i]'(by omega))=true:=fun i hi hi'=>by
  have:=k3 i hi hi';rw[Wu (show i<x.size by omega)] at this;rw[T.at_ (show i<x.size by omega) (show n1<x.size by omega) (by omega),this];rfl
 have lowb:∀i (hi:i<k) j (hj:n1<=j) (hj':j<x.size),less (x[i]'(by omega)) x[j]=true:=fun i hi j hj hj'=>by
  by_cases e:j=n1
  ·subst e; exact low i hi (by omega)
  ·exact T.tr _ (by simp) _ (by simp) _ (by simp) (low i hi (by omega)) (s2 n1 j (by omega) hj' (by omega) (by omega))
 dsimp only;refine Zi (fun c => ?_) fun c => ?_
 ·have hk:k=n1:=by simp at c; omega
  have hz:=whole0 fun i j hij hj _ _=>by
   by_cases e1:j<n1
   ·exact s1 i j hij hj (by omega) e1
   ·by_cases e2:n1<=i
    ·exact s2 i j hij hj e2 (by omega)
    ·exact lowb i (by omega) j (by omega) hj
  rw[<-hf] at hz;exact Yf hz
 have hk:k<n1:=by simp at c; omega
 refine Yd (Zu (show 0+k+(n1 - k) - 1<x.size by omega) ?_);have ei:0+k+(n1 - k) - 1=n1 - 1:=by omega
 simp only[ei];refine Yd (Zee (st:=SortSt.mk' (kindOf st) x #[(0,n1+n2,pw)] (gallopOf st) (failedOf st)) (B:=fun i=>if hi:n1+i<x.size then less x[n1+i] (x[n1 - 1]'(by omega)) else false) (fun i hi Q hq => ?_) (fun i j hij hj hb => ?_) (show n2 - 1<n2 by omega) fun m m1 m2 m3 => ?_)
 ·have hi':n1+i<x.size:=by omega
  rw[Wu hi'] at hq;exact Zkt (st:=SortSt.mk' (kindOf st) x #[(0,n1+n2,pw)] (gallopOf st) (failedOf st)) H (ZI (show n1 - 1<x.size by omega)) hi' (ZI hi') Q hq
 ·have hj':n1+j<x.size:=by omega
  have hi':n1+i<x.size:=by omega
  rw[Wu hj'] at hb;rw[Wu hi'];by_cases e:i=j
  ·subst e; exact hb
  ·exact T.tr _ (by simp) _ (by simp) _ (by simp) (s2 (n1+i) (n1+j) (by omega) hj' (by omega) (by omega)) hb
 have low2:∀i (hi:i<m) (hi':n1+i<x.size),less x[n1+i] (x[n1 - 1]'(by omega))=true:=fun i hi hi'=>by
  have:=m2 i hi;rw[Wu hi'] at this;exact this
 have high2:∀i (hi:m<=i) (hi':i<n2),less (x[n1 - 1]'(by omega)) (x[n1+i]'(by omega))=true:=fun i hi hi'=>by
  have:=m3 i hi hi';rw[Wu (show n1+i<x.size by omega)] at this;rw[T.at_ (show n1+i<x.size by omega) (show n1 - 1<x.size by omega) (by omega),this];rfl
 have higha:∀i (hi:i<n1) j (hj:n1+m<=j) (hj':j<x.size),less (x[i]'(by omega)) x[j]=true:=fun i hi j hj hj'=>by
  have e0:=high2 (j - n1) (by omega) (by omega);simp only[show n1+(j - n1)=j by omega] at e0;by_cases e:i=n1 - 1
  ·subst e; exact e0
  ·exact T.tr _ (by simp) _ (ZI (show n1 - 1<x.size by omega)) _ (by simp) (s1 i (n1 - 1) (by omega) (by omega) (by omega) (by omega)) e0
 dsimp only;refine Zi (fun c2 => ?_) fun c2 => ?_
 ·have hm:m=0:=by simpa using c2
  have hz:=whole0 fun i j hij hj _ _=>by
   by_cases e1:j<n1
   ·exact s1 i j hij hj (by omega) e1
   ·by_cases e2:n1<=i
    ·exact s2 i j hij hj e2 (by omega)
    ·exact higha i (by omega) j (by omega) hj
  rw[<-hf] at hz;exact Yf hz
 have hm:0<m:=by simp at c2; omega
 have hsub:∀z∈(x.extract (0+k) n1).toList++(x.extract n1 (n1+m)).toList,z∈x.toList:=fun z hz=>by
  rcases YJ.mp hz with hz | hz
  ·obtain⟨j,_,_,hj,rfl⟩:=ZbL hz;simp
  ·obtain⟨j,_,_,hj,rfl⟩:=ZbL hz;simp
 have C:AB less (x.extract (0+k) n1) (x.extract n1 (n1+m)):=by
  have z1:0<(x.extract (0+k) n1).size:=by simp; omega
  have z2:0<(x.extract n1 (n1+m)).size:=by simp; omega
  refine⟨fun u hu v hv w hw=>T.tr u (hsub u hu) v (hsub v hv) w (hsub w hw),ZdW fun i j a b c d=>s1 i j a b (by omega) d,ZdW fun i j a b c d=>s2 i j a b c (by omega),fun u hu v hv => ?_,z1,z2,fun u hu => ?_,fun v hv => ?_⟩
  ·obtain⟨i,i1,i2,hi,rfl⟩:=ZbL hu;obtain⟨j,j1,j2,hj,rfl⟩:=ZbL hv;exact T.at_ hi hj (by omega)
  ·obtain⟨i,i1,i2,hi,rfl⟩:=ZbL hu;have:=high i (by omega) i2;simpa using this
  ·obtain⟨j,j1,j2,hj,rfl⟩:=ZbL hv;have:=low2 (j - n1) (by omega) (by omega);simp only[show n1+(j - n1)=j by omega] at this;have el:(x.extract (0+k) n1).size - 1=n1 - 1 - k:=by simp; omega
   simp only[Array.getElem_extract,el,show 0+k+(n1 - 1 - k)=n1 - 1 by omega];exact this
 have whole:∀r,Rz less (x.extract (0+k) n1) (x.extract n1 (n1+m)) r->(r.toList.zipIdx.foldl (fun a x=>a.setIfInBounds (0+k+x.snd) x.fst) x).toList.Perm x.toList/\(r.toList.zipIdx.foldl (fun a x=>a.setIfInBounds (0+k+x.snd) x.fst) x).toList.Pairwise (fun x y=>less x y=true):=by
  rintro r ⟨r1,r2⟩;have hlen:r.toList.length=n1+m - k:=by
   rw[r1.length_eq];simp;omega
  rw[splice (0+k) r.toList 0 x (by omega),hlen];simp only[Uu,Wv] at r1 ⊢;rw[show k+(n1+m - k)=n1+m by omega];have hdec:x.toList=x.toList.take k++((x.extract k n1).toList++(x.extract n1 (n1+m)).toList)++x.toList.drop (n1+m):=by
   have e1:(x.extract k n1).toList++(x.extract n1 (n1+m)).toList=(x.extract k (n1+m)).toList:=by
    rw[<-YN,Array.extract_append_extract];congr 2
    ·omega
    ·omega
   rw[e1,Wi,show n1+m=k+(n1+m - k) by omega,<-ZdC (by omega),Wh]
  have mem:∀v∈r.toList,(∃j,k<=j/\j<n1/\∃hj:j<x.size,v=x[j])\/∃j,n1<=j/\j<n1+m/\∃hj:j<x.size,v=x[j]:=fun v hv=>by
   rcases YJ.mp (r1.mem_iff.mp hv) with hv | hv
   ·exact .inl (ZbL hv)
   ·exact .inr (ZbL hv)
  constructor
  ·conv=>rhs; rw[hdec]
   exact ((r1.append_left _).append_right _)
  ·refine Y4.mpr ⟨Y4.mpr ⟨?_,r2,fun u hu v hv => ?_⟩,?_,fun u hu w hw => ?_⟩
   ·have:=ZdW (x:=x) (i:=0) (n:=k) fun i j a b c d=>s1 i j a b c (by omega);rw[Zcb] at this;exact this
   ·obtain⟨i,i1,hi,rfl⟩:=ZdV (QG.mpr hu);rcases mem v hv with⟨j,j1,j2,hj,rfl⟩ | ⟨j,j1,j2,hj,rfl⟩
    ·exact s1 i j (by omega) hj (by omega) j2
    ·exact lowb i i1 j j1 hj
   ·have:=ZdW (x:=x) (i:=n1+m) (n:=x.size) fun i j a b c d=>s2 i j a b (by omega) (by omega);rw[Zb3] at this;exact this
   ·obtain⟨j,j1,hj,rfl⟩:=ZeL hw;rcases YJ.mp hu with hu | hu
    ·obtain⟨i,i1,hi,rfl⟩:=ZdV (QG.mpr hu);exact lowb i i1 j (by omega) hj
    ·rcases mem u hu with⟨i,i1,i2,hi,rfl⟩ | ⟨i,i1,i2,hi,rfl⟩
     ·exact higha i i2 j j1 hj
     ·exact s2 i j (by omega) hj i1 (by omega)
 refine Zi (fun c3 => ?_) fun c3 => ?_
 ·refine Yd (ZsE (st:=SortSt.mk' (kindOf st) x #[(0,n1+n2,pw)] (gallopOf st) (failedOf st)) C (fun x hx y hy st Q e q=>H x (hsub x hx) y (hsub y hy) st Q e q) hr fun r g R => ?_);refine Yd (WB (Yd (Qr (Yf ?_))));have hz:=h _ g (whole r R).1 (whole r R).2;rw[<-hf] at hz;have hi:(failedOf st).isNone=true:=by rw[hf]; rfl
  rw[<-hi] at hz;exact hz
 ·refine Yd (Zn7 (st:=SortSt.mk' (kindOf st) x #[(0,n1+n2,pw)] (gallopOf st) (failedOf st)) C (fun x hx y hy st Q e q=>H x (hsub x hx) y (hsub y hy) st Q e q) hr fun r g R => ?_);refine Yd (WB (Yd (Qr (Yf ?_))));have hz:=h _ g (whole r R).1 (whole r R).2;rw[<-hf] at hz;have hi:(failedOf st).isNone=true:=by rw[hf]; rfl
  rw[<-hi] at hz;exact hz
end
end TS
end
section
namespace TS
open PySem PyProof.Rows
section
variable{less:Keyed->Keyed->Bool}{x:Array Keyed}
theorem Zpr{i j k:Nat}(hj:j<=x.size)(hk:k<x.size):(mirror x i j ((j - i) / 2))[k]'(by rw[mirror_size]; exact hk)=if h:i<=k/\k<j then x[i+j - 1 - k]'(by omega) else x[k]:=by
 have e:=getElem?_mirror_all (i:=i) hj k;rw[Yp (by rw[mirror_size]; exact hk)] at e;by_cases h:i<=k/\k<j
 ·rw[Yg h,Yp (by omega)] at e;rw[Wu h];exact Option.some.inj e
 ·rw[Yh h,Yp hk] at e;rw[dif_neg h];exact Option.some.inj e
theorem ZqH{src d k:Nat}(hs:src<x.size)(hd:d<=src)(hk:k<x.size):(bubble x src d)[k]'(by rw[bubble_size]; exact hk)=if k=src - d then x[src] else if src - d<k/\k<=src then x[k - 1]'(by omega) else x[k]:=by
 have e:=getElem?_bubble hs d hd k;rw[Yp (by rw[bubble_size]; exact hk)] at e;by_cases h:k=src - d
 ·rw[Yg h,Yp hs] at e;rw[Yg h];exact Option.some.inj e
 ·rw[Yh h] at e;rw[Yh h];by_cases h2:src - d<k/\k<=src
  ·rw[Yg h2,Yp (by omega)] at e;rw[Yg h2];exact Option.some.inj e
  ·rw[Yh h2,Yp hk] at e;rw[Yh h2];exact Option.some.inj e
def Dsc(less:Keyed->Keyed->Bool)(x:Array Keyed)(lo hi:Nat):Prop:=∀i j (hij:i<j) (hj:j<x.size),lo<=i->j<hi->less x[j] (x[i]'(by omega))=true
theorem Srt.next(T:Tot less x.toList){lo m:Nat}(h:Srt less x lo (lo+m))(h1:1<=m)(hm:lo+m<x.size)(e:less (x[lo+m - 1]'(by omega)) x[lo+m]=true):Srt less x lo (lo+(m+1)):=by
 intro i j hij hj hi hj2;by_cases c:j<lo+m
 ·exact h i j hij hj hi c
 ·obtain rfl:j=lo+m:=by omega
  by_cases c2:i=lo+m - 1
  ·subst c2; exact e
  ·exact T.tr _ (ZI (by omega)) _ (ZI (by omega)) _ (ZI (by omega)) (h i (lo+m - 1) (by omega) (by omega) hi (by omega)) e
theorem Dsc.next(T:Tot less x.toList){lo m:Nat}(h:Dsc less x lo (lo+m))(h1:1<=m)(hm:lo+m<x.size)(e:less x[lo+m] (x[lo+m - 1]'(by omega))=true):Dsc less x lo (lo+(m+1)):=by
 intro i j hij hj hi hj2;by_cases c:j<lo+m
 ·exact h i j hij hj hi c
 ·obtain rfl:j=lo+m:=by omega
  by_cases c2:i=lo+m - 1
  ·subst c2; exact e
  ·exact T.tr _ (ZI (by omega)) _ (ZI (by omega)) _ (ZI (by omega)) e (h i (lo+m - 1) (by omega) (by omega) hi (by omega))
theorem Srt.one{lo:Nat}:Srt less x lo (lo+1):=fun i j hij hj hi hj2=>by omega
def Out_(x y:Array Keyed)(lo hi:Nat):Prop:=y.size=x.size/\∀k (h1:k<x.size) (h2:k<y.size),k<lo\/hi<=k->y[k]=x[k]
theorem Out_.refl{lo hi:Nat}:Out_ x x lo hi:=⟨rfl,fun _ _ _ _=>rfl⟩
end
section
variable{M:Model}{A:P4}{E:P7->P1->Prop}{s:P1}{less:Keyed->Keyed->Bool}{st:SortSt}
theorem Zdr{i j:Nat}{Q:Option Bool->SortSt->Prop}(H:HL M A E s (kindOf st) less (arrOf st).toList)(hi:i<(arrOf st).size)(hj:j<(arrOf st).size)(h:Q (some (less (arrOf st)[i] (arrOf st)[j])) st):wpS M A E s (ltAt' i j) Q st:=by
 rw[ltAt'_eq];refine Yd (Qr ?_);dsimp only;refine Yd (Zu hi (Yd (Zu hj ?_)));exact H _ (ZI hi) _ (ZI hj) st _ rfl h
theorem Zhj{Q:Option Nat->SortSt->Prop}{lo nrem:Nat}(H:HL M A E s (kindOf st) less (arrOf st).toList)(T:Tot less (arrOf st).toList)(h1:1<=nrem)(hz:lo+nrem<=(arrOf st).size)(hr:∀{Q':Unit->P1->Prop} (x:String),Q' () s->wpAny M A (rule x) Q' E s)
  (h:∀m y,1<=m->m<=nrem->y.toList.Perm (arrOf st).toList->Out_ (arrOf st) y lo (lo+nrem)->Srt less y lo (lo+m)->Q (some m) (setArr st y)):wpS M A E s (countRun' lo nrem) Q st:=by
 rw[countRun'_eq];obtain⟨x,hx⟩:∃x,x=arrOf st:=⟨_,rfl⟩;rw[<-hx] at T hz h;have hxs:(arrOf st).size=x.size:=by rw[hx]
 have ES:setArr st x=st:=by rw[hx]
 have fin0:∀m,1<=m->m<=nrem->Srt less x lo (lo+m)->Q (some m) st:=fun m a1 a2 a3=>by
  have:=h m x a1 a2 (List.Perm.refl _) Out_.refl a3;rw[ES] at this;exact this
 refine Yd (WG (Y0 (fun y c st'=>st=st'/\c=(none,y)/\Srt less (arrOf st) lo (lo+y)) (Q:=fun c st'=>st=st'/\∃n,c=(none,n)/\1<=n/\n<=nrem/\Srt less (arrOf st) lo (lo+n)/\(n=nrem\/∃h:lo+n<(arrOf st).size,less (arrOf st)[lo+n] ((arrOf st)[lo+n - 1]'(by omega))=true)) ?_ ?_ ⟨rfl,rfl,Srt.one⟩) ?_)
 ·rintro y c st' hy1 hy2 ⟨rfl,rfl,hS⟩;dsimp only;refine Yd (Zdr H (show lo+y<(arrOf st).size by omega) (show lo+y - 1<(arrOf st).size by omega) ?_);dsimp only;refine Zi (fun e=>Yf ⟨rfl,y,rfl,hy1,by omega,hS,.inr ⟨by omega,e⟩⟩) fun e=>Yf ⟨rfl,rfl,?_⟩;refine hS.next (hx ▸ T) (by omega) (by omega) ?_;have:=Tot.at_ (hx ▸ T) (show lo+y - 1<(arrOf st).size by omega) (show lo+y<(arrOf st).size by omega) (by omega);rw[this] at e;simpa using e
 ·rintro c st' ⟨rfl,rfl,hS⟩;rw[VG (by omega)] at hS ⊢;exact⟨rfl,nrem,rfl,by omega,Yi _,hS,.inl rfl⟩
 rintro c st' ⟨rfl,n,rfl,n1,n2,hS,hE⟩;rw[<-hx] at hS;dsimp only;refine Zi (fun c1=>Yf (fin0 n n1 n2 hS)) fun c1 => ?_;have hn:n<nrem:=by simp at c1; omega
 refine Zi (fun c2 => ?_) fun c2 => ?_
 ·refine Yd (Zdr H (show lo<(arrOf st).size by rw[<-hx]; omega) (show lo+n - 1<(arrOf st).size by rw[<-hx]; omega) ?_);dsimp only;refine Zi (fun e=>Yf (fin0 n n1 n2 hS)) fun e=>absurd ?_ e;have:=hS lo (lo+n - 1) (by omega) (by omega) (Yi _) (by omega);simpa only[hx] using this
 obtain rfl:n=1:=by omega
 have e0:less (x[lo+1]'(by omega)) (x[lo]'(by omega))=true:=by
  rcases hE with hE | ⟨hE,e⟩
  ·omega
  ·simpa only[hx,Nat.add_sub_cancel] using e
 refine Yd (VE (hr _ ⟨rfl,?_⟩));refine Yd (WG (Y0 (fun y c st'=>st=st'/\c=(none,y,0)/\Dsc less x lo (lo+y)) (Q:=fun c st'=>st=st'/\∃n,c=(none,n,0)/\2<=n/\n<=nrem/\Dsc less x lo (lo+n)) ?_ ?_ ⟨rfl,rfl,?_⟩) ?_)
 ·rintro y c st' hy1 hy2 ⟨rfl,rfl,hD⟩;dsimp only;refine Yd (Zdr H (show lo+y<(arrOf st).size by rw[<-hx]; omega) (show lo+y - 1<(arrOf st).size by rw[<-hx]; omega) ?_);dsimp only;refine Zi (fun e => ?_) fun e => ?_
  ·refine Zi (fun c3=>absurd c3 (by omega)) fun c3=>Yf ⟨rfl,rfl,?_⟩;exact hD.next T (by omega) (by omega) (by simpa only[hx] using e)
  ·refine Yd (Zdr H (show lo+y - 1<(arrOf st).size by rw[<-hx]; omega) (show lo+y<(arrOf st).size by rw[<-hx]; omega) ?_);dsimp only;refine Zi (fun e2=>Yf ⟨rfl,y,rfl,by omega,by omega,hD⟩) fun e2=>absurd ?_ e2;have:=Tot.at_ T (show lo+y - 1<x.size by omega) (show lo+y<x.size by omega) (by omega);simp only[hx] at this;rw[this] at e;simpa using e
 ·rintro c st' ⟨rfl,rfl,hD⟩;rw[VG (by omega)] at hD ⊢;exact⟨rfl,nrem,rfl,by omega,Yi _,hD⟩
 ·intro i j hij hj hi hj2;obtain rfl:i=lo:=by omega
  obtain rfl:j=i+1:=by omega
  exact e0
 rintro c st' ⟨rfl,n,rfl,n3,n4,hD⟩;dsimp only;refine Zi (fun c3=>absurd c3 (by omega)) fun c3 => ?_;rw[reverseSlice'_eq];refine Yd (WB ?_);rw[<-hx];obtain⟨y,hy⟩:∃y,y=mirror x lo (lo+n) ((lo+n - lo) / 2):=⟨_,rfl⟩;rw[<-hy];have hp:y.toList.Perm x.toList:=by rw[hy]; exact (mirror_perm _ _ _ _).toList
 have hsz:y.size=x.size:=by rw[hy,mirror_size]
 have hat:∀k (hk:k<x.size) (hk':k<y.size),y[k]=if h:lo<=k/\k<lo+n then x[lo+(lo+n) - 1 - k]'(by omega) else x[k]:=fun k hk hk'=>by
  subst hy;exact Zpr (by omega) hk
 have hO:Out_ x y lo (lo+nrem):=⟨hsz,fun k k1 k2 k3=>by rw[hat k k1 k2,dif_neg (by omega)]⟩;have hS2:Srt less y lo (lo+n):=by
  intro i j hij hj hi hj2;rw[hat i (by omega) (by omega),hat j (by omega) hj,Wu (by omega),Wu (by omega)];exact hD (lo+(lo+n) - 1 - j) (lo+(lo+n) - 1 - i) (by omega) (by omega) (by omega) (by omega)
 have T2:Tot less y.toList:=T.perm hp;have H2:HL M A E s (kindOf (setArr st y)) less (arrOf (setArr st y)).toList:=fun u hu v hv=>H u (by rw[<-hx]; exact hp.mem_iff.mp hu) v (by rw[<-hx]; exact hp.mem_iff.mp hv);refine Yd (WG (Y0 (fun q c st'=>setArr st y=st'/\c=(none,q)/\Srt less y lo (lo+q)) (Q:=fun c st'=>setArr st y=st'/\∃k0,c=(none,k0)/\n<=k0/\k0<=nrem/\Srt less y lo (lo+k0)/\True) ?_ ?_ ⟨rfl,rfl,hS2⟩) ?_)
 ·rintro q c st' hy1 hy2 ⟨rfl,rfl,hS⟩;dsimp only;refine Yd (Zdr (st:=setArr st y) H2 (show lo+q<(y).size by omega) (show lo+q - 1<(y).size by omega) ?_);dsimp only;refine Zi (fun e=>Yf ⟨rfl,q,rfl,hy1,by omega,hS,trivial⟩) fun e=>Yf ⟨rfl,rfl,?_⟩;refine hS.next T2 (by omega) (by omega) ?_;have:=Tot.at_ T2 (show lo+q - 1<(y).size by omega) (show lo+q<(y).size by omega) (by omega);rw[this] at e;simpa using e
 ·rintro c st' ⟨rfl,rfl,hS⟩;rw[VG (by omega)] at hS ⊢;exact⟨rfl,nrem,rfl,by omega,Yi _,hS,trivial⟩
 rintro c st' ⟨rfl,m,rfl,m1,m2,hS3,_⟩;exact Yf (h m y (by omega) m2 hp hO hS3)
theorem Zi4{Q:Bool->SortSt->Prop}{lo n ok:Nat}(H:HL M A E s (kindOf st) less (arrOf st).toList)(T:Tot less (arrOf st).toList)(h1:1<=ok)(hok:ok<=n)(hz:lo+n<=(arrOf st).size)(hs:Srt less (arrOf st) lo (lo+ok))
  (h:∀y,y.toList.Perm (arrOf st).toList->Out_ (arrOf st) y lo (lo+n)->Srt less y lo (lo+n)->Q true (setArr st y)):wpS M A E s (binarySort' lo n ok) Q st:=by
 rw[binarySort'_eq];rw[show max ok 1=ok by omega];obtain⟨x,hx⟩:∃x,x=arrOf st:=⟨_,rfl⟩;rw[<-hx] at T hz h hs;have ES:st=setArr st x:=by rw[hx]
 refine Yd (WG (Y0 (fun k c st'=>c=(none,())/\∃y,st'=setArr st y/\y.toList.Perm x.toList/\Out_ x y lo (lo+n)/\Srt less y lo (lo+k)) (Q:=fun c st'=>c=(none,())/\∃y,st'=setArr st y/\y.toList.Perm x.toList/\Out_ x y lo (lo+n)/\Srt less y lo (lo+n)) ?_ ?_ ⟨rfl,x,ES,List.Perm.refl _,Out_.refl,hs⟩) ?_)
 ·rintro k c st' hk1 hk2 ⟨rfl,y,rfl,hp,hO,hS⟩;have T2:Tot less y.toList:=T.perm hp;have H2:HL M A E s (kindOf (setArr st y)) less (arrOf (setArr st y)).toList:=fun u hu v hv=>H u (by rw[<-hx]; exact hp.mem_iff.mp hu) v (by rw[<-hx]; exact hp.mem_iff.mp hv);have hsz:=hO.1;dsimp only;refine Yd (WG (Y0 (fun z c st'=>st'=setArr st y/\∃l r,c=(none,l,r)/\l<=r/\r<=k/\r - l+z<=k/\(∀i (hi:i<l) (hi2:i<k),less (y[lo+i]'(by omega)) (y[lo+k]'(by omega))=true)/\∀i (hi:r<=i) (hi2:i<k),less (y[lo+k]'(by omega)) (y[lo+i]'(by omega))=true)
   (Q:=fun c st'=>st'=setArr st y/\∃l,c=(none,l,l)/\l<=k/\(∀i (hi:i<l) (hi2:i<k),less (y[lo+i]'(by omega)) (y[lo+k]'(by omega))=true)/\∀i (hi:l<=i) (hi2:i<k),less (y[lo+k]'(by omega)) (y[lo+i]'(by omega))=true) ?_ ?_ ⟨rfl,0,k,rfl,by omega,by omega,by omega,fun i hi hi2=>by omega,fun i hi hi2=>by omega⟩) ?_)
  ·rintro z c st' _ hz2 ⟨rfl,l,r,rfl,a1,a2,a3,a4,a5⟩;dsimp only;refine Zi (fun c1 => ?_) fun c1 => ?_
   ·obtain rfl:l=r:=by omega
    exact Yf ⟨rfl,l,rfl,a2,a4,a5⟩
   ·refine Yd (Zdr (st:=setArr st y) H2 (show lo+k<y.size by omega) (show lo+(l+r) / 2<y.size by omega) ?_);dsimp only;refine Zi (fun e => ?_) fun e => ?_
    ·refine Yf ⟨rfl,l,_,rfl,by omega,by omega,by omega,a4,fun i hi hi2 => ?_⟩;by_cases c2:i=(l+r) / 2
     ·subst c2; exact e
     ·exact T2.tr _ (ZI (by omega)) _ (ZI (show lo+(l+r) / 2<y.size by omega)) _ (ZI (by omega)) e (hS (lo+(l+r) / 2) (lo+i) (by omega) (by omega) (by omega) (by omega))
    ·refine Yf ⟨rfl,_,r,rfl,by omega,by omega,by omega,fun i hi hi2 => ?_,a5⟩;have e':less (y[lo+(l+r) / 2]'(by omega)) (y[lo+k]'(by omega))=true:=by
      have:=Tot.at_ T2 (show lo+(l+r) / 2<y.size by omega) (show lo+k<y.size by omega) (by omega);have e2:¬ less (y[lo+k]'(by omega)) (y[lo+(l+r) / 2]'(by omega))=true:=e;rw[this] at e2;simpa using e2
     by_cases c2:i=(l+r) / 2
     ·subst c2; exact e'
     ·exact T2.tr _ (ZI (by omega)) _ (ZI (show lo+(l+r) / 2<y.size by omega)) _ (ZI (by omega)) (hS (lo+i) (lo+(l+r) / 2) (by omega) (by omega) (by omega) (by omega)) e'
  ·rintro c st' ⟨rfl,l,r,rfl,a1,a2,a3,a4,a5⟩;rw[Qk] at a3;obtain rfl:l=r:=by omega
   exact⟨rfl,l,rfl,a2,a4,a5⟩
  rintro c st' ⟨rfl,l,rfl,a2,a4,a5⟩;dsimp only;rw[moveDown'_eq];refine Yd (WB (Yf ?_));show _/\∃v,SortSt.mk' _ _ _ _ _=setArr st v/\_;obtain⟨v,hv⟩:∃v,v=bubble y (lo+k) (lo+k - (lo+l)):=⟨_,rfl⟩;have hvs:v.size=y.size:=by rw[hv,bubble_size]
  have hat:∀j (hj:j<y.size) (hj':j<v.size),v[j]=if j=lo+l then y[lo+k]'(by omega) else if lo+l<j/\j<=lo+k then y[j - 1]'(by omega) else y[j]:=fun j hj hj'=>by
   subst hv;rw[ZqH (by omega) (by omega) hj];simp only[show lo+k - (lo+k - (lo+l))=lo+l by omega]
  refine⟨rfl,v,by rw[hv],?_,⟨by omega,fun j j1 j2 j3 => ?_⟩,fun i j hij hj hi hj2 => ?_⟩
  ·rw[hv];exact (bubble_perm _ _ _).toList.trans hp
  ·rw[hat j (by omega) j2,Yh (by omega),Yh (by omega)];exact hO.2 j j1 (by omega) j3
  ·rw[hat i (by omega) (by omega),hat j (by omega) hj];by_cases c1:j=lo+l
   ·rw[Yg c1,Yh (by omega),Yh (by omega)];have:=a4 (i - lo) (by omega) (by omega);simpa only[show lo+(i - lo)=i by omega] using this
   ·rw[Yh c1];by_cases c2:lo+l<j/\j<=lo+k
    ·rw[Yg c2];by_cases c3:i=lo+l
     ·rw[Yg c3];have:=a5 (j - 1 - lo) (by omega) (by omega);simpa only[show lo+(j - 1 - lo)=j - 1 by omega] using this
     ·rw[Yh c3];by_cases c4:lo+l<i/\i<=lo+k
      ·rw[Yg c4];exact hS (i - 1) (j - 1) (by omega) (by omega) (by omega) (by omega)
      ·rw[Yh c4];exact hS i (j - 1) (by omega) (by omega) (by omega) (by omega)
    ·rw[Yh c2,Yh (by omega),Yh (by omega)];exact hS i j hij (by omega) hi (by omega)
 ·rintro c st' ⟨rfl,y,rfl,hp,hO,hS⟩;rw[VG hok] at hS;exact⟨rfl,y,rfl,hp,hO,hS⟩
 ·rintro c st' ⟨rfl,y,rfl,hp,hO,hS⟩;exact Yf (h y hp hO hS)
end
end TS
end
section
namespace TS
open PySem PyProof.Rows
theorem ZrB{n:Nat}(h2:2<=n)(h:n<=127):1<=minRun' n n 0/\minRun' n n 0<=n/\n<=2 * minRun' n n 0:=by
 obtain⟨k,hk⟩:∃k,n=k+2:=⟨n - 2,by omega⟩;have e:minRun' n n 0=if n<64 then n+0 else if n / 2<64 then n / 2+max 0 (n % 2) else minRun' k (n / 2 / 2) (max (max 0 (n % 2)) (n / 2 % 2)):=by
  conv=>lhs; arg 1; rw[hk]
  rw[minRun'_succ,minRun'_succ]
 rw[e];by_cases c:n<64
 ·rw[Yg c]; omega
 ·rw[Yh c,Yg (by omega)]; omega
section
variable{M:Model}{A:P4}{E:P7->P1->Prop}{s:P1}{less:Keyed->Keyed->Bool}{st:SortSt}
noncomputable abbrev ST(st:SortSt)(y:Array Keyed)(p:Array (Nat×Nat×Nat))(g:Nat):SortSt:=SortSt.mk' (kindOf st) y p g none
def Two(less:Keyed->Keyed->Bool)(x:Array Keyed)(st st':SortSt):Prop:=∃y g,y.toList.Perm x.toList/\((∃pw,st'=ST st y #[(0,x.size,pw)] g/\Srt less y 0 x.size)\/∃n1 n2 pw,st'=ST st y #[(0,n1,pw),(n1,n2,0)] g/\0<n1/\0<n2/\n1+n2=x.size/\Srt less y 0 n1/\Srt less y n1 (n1+n2))
theorem Zse{Q:Unit->SortSt->Prop}(H:HL M A E s (kindOf st) less (arrOf st).toList)(T:Tot less (arrOf st).toList)(hp:pendingOf st = #[])(hf:failedOf st=none)(h2:2<=(arrOf st).size)(h127:(arrOf st).size<=127)
  (hr:∀{Q':Unit->P1->Prop} (x:String),Q' () s->wpAny M A (rule x) Q' E s) (h:∀st',(arrOf st').toList.Perm (arrOf st).toList->(arrOf st').toList.Pairwise (fun x y=>less x y=true)->failedOf st'=none->Q () st'):wpS M A E s sortRuns' Q st:=by
 rw[sortRuns'_eq];refine Yd (Qr ?_);obtain⟨x,hx⟩:∃x,x=arrOf st:=⟨_,rfl⟩;dsimp only;rw[<-hx] at T h2 h127 h H ⊢;have ES:st=ST st x #[] (gallopOf st):=by
  have e1:ST st x #[] (gallopOf st)=SortSt.mk' (kindOf st) (arrOf st) (pendingOf st) (gallopOf st) (failedOf st):=by rw[hp,hf,hx]
  rw[e1]
 obtain⟨r1,r2,r3⟩:=ZrB h2 h127;generalize minRun' x.size x.size 0=mr at *;have HH:∀(y:Array Keyed) (p:Array (Nat×Nat×Nat)) (g:Nat),y.toList.Perm x.toList->HL M A E s (kindOf (ST st y p g)) less (arrOf (ST st y p g)).toList:=fun y p g hy u hu v hv=>H u (hy.mem_iff.mp hu) v (hy.mem_iff.mp hv);refine Yd (WG (Y0 (fun k c st'=>(k=0/\c=(none,0)/\st'=ST st x #[] (gallopOf st))\/(k=1/\∃n1 y,c=(none,n1)/\st'=ST st y #[(0,n1,0)] (gallopOf st)/\y.toList.Perm x.toList/\Srt less y 0 n1/\mr<=n1/\n1<x.size)\/(c=(none,x.size)/\Two less x st st'))
  (Q:=fun c st'=>c=(none,x.size)/\Two less x st st') ?_ ?_ (.inl ⟨rfl,rfl,ES⟩)) ?_)
 ·rintro k c st' _ hk (⟨rfl,rfl,rfl⟩ | ⟨rfl,n1,y,rfl,rfl,hy,hS,g1,g2⟩ | ⟨rfl,hT⟩)
  ·dsimp only;refine Zi (fun c1=>absurd c1 (by omega)) fun _ => ?_;refine Yd (Zhj (st:=ST st x #[] (gallopOf st)) (HH x #[] _ (List.Perm.refl _)) T (show 1<=x.size - 0 by omega) (show 0+(x.size - 0)<=x.size by omega) hr fun m y m1 m2 hy hO hS => ?_);have hsz:y.size=x.size:=hO.1;have fin:∀n z,1<=n->mr<=n->n<=x.size->z.toList.Perm x.toList->Srt less z 0 n->(0+1=0/\((none:Option Unit),0+n)=(none,0)/\ST st z #[(0,n,0)] (gallopOf st)=ST st x #[] (gallopOf st))\/(0+1=1/\∃n1 y,((none:Option Unit),0+n)=(none,n1)/\ST st z #[(0,n,0)] (gallopOf st)=ST st y #[(0,n1,0)] (gallopOf st)/\y.toList.Perm x.toList/\Srt less y 0 n1/\mr<=n1/\n1<x.size)\/(((none:Option Unit),0+n)=(none,x.size)/\Two less x st (ST st z #[(0,n,0)] (gallopOf st))):=fun n z a1 a2 a3 a4 a5=>by
    by_cases c2:n<x.size
    ·exact .inr (.inl ⟨rfl,n,z,by rw[Wv],rfl,a4,a5,a2,c2⟩)
    ·obtain rfl:n=x.size:=by omega
     exact .inr (.inr ⟨by rw[Wv],z,_,a4,.inl ⟨0,rfl,a5⟩⟩)
   dsimp only;refine Zi (fun c1 => ?_) fun c1 => ?_
   ·refine Yd (VE (hr _ ⟨rfl,?_⟩));rw[show min (x.size - 0) mr=mr by omega];refine Yd (Zi4 (st:=ST st y #[] (gallopOf st)) (HH y #[] _ hy) (T.perm hy) m1 (show m<=mr by omega) (show 0+mr<=y.size by omega) hS fun z hz hO2 hS2 => ?_);refine Zi (fun c2=>absurd c2 (by simp)) fun _ => ?_;refine Yd (Qr ?_);show wpS _ _ _ _ (modify _ >>= _) _ _;refine Yd (WB (Yf ?_));exact fin mr z r1 (Yi _) r2 (hz.trans hy) (by simpa only[Wv] using hS2)
   ·refine Yd (Qr ?_);show wpS _ _ _ _ (modify _ >>= _) _ _;refine Yd (WB (Yf ?_));exact fin m y m1 (by omega) (by omega) hy (by simpa only[Wv] using hS)
  ·have hys:y.size=x.size:=by
    have:=hy.length_eq;simpa using this
   dsimp only;refine Zi (fun c1=>absurd c1 (by omega)) fun _ => ?_;refine Yd (Zhj (st:=ST st y #[(0,n1,0)] (gallopOf st)) (HH y _ _ hy) (T.perm hy) (show 1<=x.size - n1 by omega) (show n1+(x.size - n1)<=y.size by omega) hr fun m z m1 m2 hz hO hS2 => ?_);have hzs:z.size=y.size:=hO.1;have low:∀v:Array Keyed,Out_ y v n1 x.size->Srt less v 0 n1:=fun v hv i j hij hj hi hj2=>by
    rw[hv.2 i (by have:=hv.1; omega) (by omega) (.inl (by omega)),hv.2 j (by have:=hv.1; omega) hj (.inl hj2)];exact hS i j hij (by have:=hv.1; omega) hi hj2
   have fin:∀v:Array Keyed,v.toList.Perm x.toList->Srt less v 0 n1->Srt less v n1 (n1+(x.size - n1))->∀pw,(1+1=0/\((none:Option Unit),n1+(x.size - n1))=(none,0)/\ST st v #[(0,n1,pw),(n1,x.size - n1,0)] (gallopOf st)=ST st x #[] (gallopOf st))\/(1+1=1/\∃m1 y,((none:Option Unit),n1+(x.size - n1))=(none,m1)/\ST st v #[(0,n1,pw),(n1,x.size - n1,0)] (gallopOf st)=ST st y #[(0,m1,0)] (gallopOf st)/\y.toList.Perm x.toList/\Srt less y 0 m1/\mr<=m1/\m1<x.size)\/(((none:Option Unit),n1+(x.size - n1))=(none,x.size)/\Two less x st (ST st v #[(0,n1,pw),(n1,x.size - n1,0)] (gallopOf st))):=fun v a1 a2 a3 pw =>
    .inr (.inr ⟨by rw[show n1+(x.size - n1)=x.size by omega],v,_,a1,.inr ⟨n1,x.size - n1,pw,rfl,by omega,by omega,by omega,a2,a3⟩⟩)
   have ex:n1+(x.size - n1)=x.size:=by omega
   dsimp only;refine Zi (fun c1 => ?_) fun c1 => ?_
   ·refine Yd (VE (hr _ ⟨rfl,?_⟩));rw[show min (x.size - n1) mr=x.size - n1 by omega];refine Yd (Zi4 (st:=ST st z #[(0,n1,0)] (gallopOf st)) (HH z _ _ (hz.trans hy)) (T.perm (hz.trans hy)) m1 (show m<=x.size - n1 by omega) (show n1+(x.size - n1)<=z.size by omega) hS2 fun v hv hO2 hS3 => ?_);refine Zi (fun c2=>absurd c2 (by simp)) fun _ => ?_;have hO2:Out_ z v n1 (n1+(x.size - n1)):=hO2;have hO:Out_ y z n1 (n1+(x.size - n1)):=hO;have hO3:Out_ y v n1 x.size:=⟨by have:=hO2.1; omega,fun k k1 k2 k3=>by rw[ex] at hO hO2; rw[hO2.2 k (by omega) k2 k3,hO.2 k k1 (by omega) k3]⟩;refine Yd (Qr ?_);show wpS _ _ _ _ (forIn _ _ _ >>= _) _ _;refine Yd (WG (Y0 (fun k c st'=>k=0/\c=(none,())/\st'=ST st v #[(0,n1,0)] (gallopOf st)) (Q:=fun c st'=>c=(none,())/\st'=ST st v #[(0,n1,0)] (gallopOf st)) ?_ ?_ ⟨rfl,rfl,rfl⟩) ?_)
    ·rintro k c st' _ _ ⟨rfl,rfl,rfl⟩;refine Yd (Qr ?_);exact Yf ⟨rfl,rfl⟩
    ·rintro c st' ⟨h0,h1,h3⟩;exact⟨h1,h3⟩
    rintro c st' ⟨rfl,rfl⟩;dsimp only;refine Yd (WB (Yd (WB (Yf ?_))));exact fin v (hv.trans (hz.trans hy)) (low v hO3) hS3 _
   ·obtain rfl:m=x.size - n1:=by omega
    have hO3:Out_ y z n1 x.size:=by rw[ex] at hO; exact hO
    refine Yd (Qr ?_);show wpS _ _ _ _ (forIn _ _ _ >>= _) _ _;refine Yd (WG (Y0 (fun k c st'=>k=0/\c=(none,())/\st'=ST st z #[(0,n1,0)] (gallopOf st)) (Q:=fun c st'=>c=(none,())/\st'=ST st z #[(0,n1,0)] (gallopOf st)) ?_ ?_ ⟨rfl,rfl,rfl⟩) ?_)
    ·rintro k c st' _ _ ⟨rfl,rfl,rfl⟩;refine Yd (Qr ?_);exact Yf ⟨rfl,rfl⟩
    ·rintro c st' ⟨h0,h1,h3⟩;exact⟨h1,h3⟩
    rintro c st' ⟨rfl,rfl⟩;dsimp only;refine Yd (WB (Yd (WB (Yf ?_))));exact fin z (hz.trans hy) (low z hO3) hS2 _
  ·dsimp only;refine Zi (fun _=>Yf ⟨rfl,hT⟩) fun c1=>absurd (Yi _) c1
 ·rintro c st' (⟨h0,_,_⟩ | ⟨h0,_⟩ | hT)
  ·omega
  ·omega
  ·exact hT
 rintro c st' ⟨rfl,hT⟩;dsimp only;refine Yd (WG (Y0 (fun k c st'=>c=(none,())/\Two less x st st'/\(k=0\/∃y pw g,st'=ST st y #[(0,x.size,pw)] g)) (Q:=fun c st'=>c=(none,())/\∃y pw g,st'=ST st y #[(0,x.size,pw)] g/\y.toList.Perm x.toList/\Srt less y 0 x.size) ?_ ?_ ⟨rfl,hT,.inl rfl⟩) ?_)
 ·rintro k c st' _ _ ⟨rfl,⟨y,g,hy,hT⟩,_⟩;have hys:y.size=x.size:=by
   have:=hy.length_eq;simpa using this
  refine Yd (Qr ?_);rcases hT with⟨pw,rfl,hS⟩ | ⟨n1,n2,pw,rfl,a1,a2,a3,a4,a5⟩
  ·refine Zi (fun _=>Yf ⟨rfl,y,pw,g,rfl,hy,hS⟩) fun c1=>absurd (Yi 1) c1
  ·refine Zi (fun c1=>absurd c1 (by show ¬ (2<=1); decide)) fun _ => ?_;show wpS _ _ _ _ (mergeAt' 0 >>= _) _ _;refine Yd (Znj (st:=ST st y #[(0,n1,pw),(n1,n2,0)] g) rfl rfl (show y.size=n1+n2 by omega) a1 a2 (T.perm hy) a4 a5 (HH y _ _ hy) hr fun z g' hz1 hz2 => ?_);refine Zi (fun c2=>absurd c2 (by simp)) fun _=>Yf ⟨rfl,?_⟩;have hzs:z.size=x.size:=by
    have:=(hz1.trans hy).length_eq;simpa using this
   refine⟨⟨z,g',hz1.trans hy,.inl ⟨pw,by rw[a3],fun i j hij hj _ _=>Zcq hz2 hij hj⟩⟩,.inr ⟨z,pw,g',by rw[a3]⟩⟩
 ·rintro c st' ⟨h0,⟨y,g,hy,hT⟩,h3⟩;rcases h3 with h3 | ⟨y2,pw2,g2,h3⟩
  ·omega
  ·rcases hT with⟨pw,rfl,hS⟩ | ⟨n1,n2,pw,rfl,a1,a2,a3,a4,a5⟩
   ·exact⟨h0,y,pw,g,rfl,hy,hS⟩
   ·have:=congrArg pendingOf h3;have h4:(#[(0,n1,pw),(n1,n2,0)]:Array (Nat×Nat×Nat)) = #[(0,x.size,pw2)]:=this;have:=congrArg Array.size h4;simp at this
 rintro c st' ⟨rfl,y,pw,g,rfl,hy,hS⟩;have hys:y.size=x.size:=by
  have:=hy.length_eq;simpa using this
 exact Yf (h _ hy (ZiC (by rw[hys]; exact hS)) rfl)
end
end TS
end
section
namespace SO
open PySem PySem.W PyProof.Rows TS
section
variable{prog:P5}{w:World}{A:P4}{E:P7->P1->Prop}{s:P1}
theorem ZgT(vs:List P7):(vs.toArray.zip vs.toArray).toList=(List.range vs.length).map fun i=>(vs.getD i Value.none,vs.getD i Value.none):=by
 refine Q4 (by simp) fun i h1 h2 => ?_;have hi:i<vs.length:=by simpa using h1
 simp[Yk,Yj hi]
theorem Znm{vs:List P7}{κ:SortKind}{lt:Nat->Nat->Bool}{Q:SortSt->P1->Prop}(h2:2<=vs.length)(h128:vs.length<128)
  (inj:∀i j,i<vs.length->j<vs.length->vs.getD i .none=vs.getD j .none->i=j)
  (hl:∀(E:P7->P1->Prop) (Q:Bool->P1->Prop) (i j:Nat),i<vs.length->j<vs.length->Q (lt i j) s->wpAny (model prog w) A (keyLt' κ (vs.getD i .none) (vs.getD j .none)) Q E s) (O:Ord vs.length lt)
  (h:∀(st':SortSt) (p:Array Nat),p.toList.Perm (List.range vs.length)->p.toList.Pairwise (fun i j=>lt i j=true)->arrOf st'=p.map (kas_item (vs.toArray.zip vs.toArray))->failedOf st'=none->Q st' s) :
  wpAny (model prog w) A ((sortRuns').run (SortSt.mk' κ (vs.toArray.zip vs.toArray) #[] 7 none)) (fun r s'=>Q r.2 s') E s:=by
 classical
 obtain⟨idx,hidx⟩:∃idx:Keyed->Nat,∀i,i<vs.length->idx (vs.getD i Value.none,vs.getD i Value.none)=i:=by
  refine⟨fun x=>if h:∃i,i<vs.length/\vs.getD i Value.none=x.1 then Classical.choose h else 0,fun i hi => ?_⟩;have h:∃k,k<vs.length/\vs.getD k Value.none=vs.getD i Value.none:=⟨i,hi,rfl⟩;dsimp only;rw[Wu h];exact inj _ _ (Q1 h).1 hi (Q1 h).2
 have mem:∀x∈(vs.toArray.zip vs.toArray).toList,∃i,i<vs.length/\x=(vs.getD i Value.none,vs.getD i Value.none):=fun x hx=>by
  rw[ZgT] at hx;obtain⟨i,hi,rfl⟩:=Y9.mp hx;exact⟨i,WD.mp hi,rfl⟩
 have hsz:(vs.toArray.zip vs.toArray).size=vs.length:=by simp
 have run:=Zse (M:=model prog w) (A:=A) (E:=E) (s:=s) (less:=fun x y=>lt (idx x) (idx y)) (st:=SortSt.mk' κ (vs.toArray.zip vs.toArray) #[] 7 none) (Q:=fun _ st'=>Q st' s) ?H ?T rfl rfl (show 2<=(vs.toArray.zip vs.toArray).size by omega) (show (vs.toArray.zip vs.toArray).size<=127 by omega) (fun x q=>Wg q) ?K
 ·exact YW run (fun r s' h'=>by obtain⟨rfl,q⟩:=h'; exact q) fun _ _ e=>e
 case H =>
  intro x hx y hy st Q hk q;obtain⟨i,hi,rfl⟩:=mem x hx;obtain⟨j,hj,rfl⟩:=mem y hy;rw[lt'_eq];refine Yd (Qr ?_);have hk':kindOf st=κ:=hk;rw[hk'];refine Yd (VE (VB (hl _ _ i j hi hj ⟨rfl,?_⟩)));dsimp only at q;rw[hidx i hi,hidx j hj] at q;exact Yf q
 case T =>
  refine⟨fun x hx y hy z hz h1 h2 => ?_,?_⟩
  ·obtain⟨i,hi,rfl⟩:=mem x hx;obtain⟨j,hj,rfl⟩:=mem y hy;obtain⟨k,hk,rfl⟩:=mem z hz
   try dsimp only at h1 h2 ⊢
   rw[hidx i hi,hidx j hj] at h1;rw[hidx j hj,hidx k hk] at h2;rw[hidx i hi,hidx k hk];exact O.trn i j k hi hj hk h1 h2
  ·show List.Pairwise _ (vs.toArray.zip vs.toArray).toList;rw[ZgT,Vt];refine List.Pairwise.imp_of_mem (R:=fun i j=>i<j) (fun {i j} hi hj hij => ?_) (Vy);have hi':=WD.mp hi;have hj':=WD.mp hj;rw[hidx i hi',hidx j hj'];cases e:lt i j with
   | true=>exact O.asy i j hi' hj' e
   | false=>exact O.tot i j hi' hj' (by omega) e
 case K =>
  intro st' hp hw hf;have hp':(arrOf st').toList.Perm (vs.toArray.zip vs.toArray).toList:=hp;have hm:∀x∈(arrOf st').toList,∃i,i<vs.length/\x=(vs.getD i Value.none,vs.getD i Value.none):=fun x hx=>mem x (hp'.mem_iff.mp hx);refine h st' ((arrOf st').map idx) ?_ ?_ ?_ hf
  ·rw[Uv];refine (hp'.map idx).trans (Vb ?_);rw[ZgT,Ql];refine (Q9 fun i hi => ?_).trans (List.map_id _);exact hidx i (WD.mp hi)
  ·rw[Uv,Vt];exact hw
  ·rw[Array.map_map];apply Ut.mp;rw[Uv];symm;refine (Q9 fun x hx => ?_).trans (List.map_id _);obtain⟨i,hi,rfl⟩:=hm x hx;show kas_item (vs.toArray.zip vs.toArray) (idx _)=_;rw[hidx i hi];exact kas_item_eq vs i
end
end SO
end
section
namespace DL
open PySem PySem.Spec PyProof.Rows L2 PySem.W
section
variable{X:Cx}{EX:EXT}
theorem Zgf{α:Type}{f:α->V}{g:α->P7}:∀(l:List α),(∀i∈l,RelV (f i) (g i))->Vals (l.map f) (l.map g)
 | [],_ => .nil
 | i :: l,h => .cons (h i (.head _)) (Zgf l fun j hj=>h j (.tail _ hj))
theorem Zgz{α:Type}{K:P3}{O:List Addr}{H:Hp}{f:α->D}{g:α->V}:∀(l:List α),(∀i∈l,Rep K O H (f i) (g i))->Reps K O H (l.map f) (l.map g)
 | [],_=>Reps.nil_i.mpr rfl
 | i :: l,h=>Reps.cons_i.mpr ⟨_,_,rfl,h i (.head _),Zgz l fun j hj=>h j (.tail _ hj)⟩
end
open PySem PySem.Spec PyProof.Rows L2
section
variable{X:Cx}{EX:EXT}{e:Expr}{pos:Pos}
theorem Zph{x:Str}{p:Pos}{es:List Expr}{id:String}{g:List D->Sto->Out (List D)}{f:DA}(hc:Ze1 X EX (.builtin id) g)(hg:Gl X x)(hm:X.mg x=none)(hv:bootBuiltins x=some (.builtin id))(ha:PDA X EX (e :: es) f)(hn:x≠"__name__":=by decide)(hdb:(x == ("__debug__" : Str))=false:=by decide)
  (he:starEach (e :: es) X.env=(false,eval e X.env) :: starEach es X.env:=by rfl) (hpl:(backTo pos (starEach es X.env)).any (·.1)=false:=by rfl):PDF X EX (.Call (.Name x p) (e :: es) [] pos) (Zj g f):=PE.mono (Zjz hc hg hm hv ha hn hdb he hpl) Zej
end
end DL
end
section
end
section
namespace L2
open PySem PySem.Spec PyProof.Rows
section
variable{κ:Type}[DecidableEq κ]
def ZaH(kvs:List (κ×V))(k:κ):Option V:=(kvs.find? fun kv=>decide (kv.1=k)).map (·.2)
def putK(kvs:List (κ×V))(k:κ)(v:V):List (κ×V) :=
 if (kvs.any fun kv=>decide (kv.1=k))=true then kvs.map (fun kv=>if kv.1=k then (kv.1,v) else kv) else kvs++[(k,v)]
def ZhF(kvs:List (κ×V))(k:κ):List (κ×V):=kvs.filter fun kv=>decide (kv.1≠k)
theorem Zfi{p:κ×V}{r:List (κ×V)}{k:κ}(e:p.1=k):ZaH (p :: r) k=some p.2:=by simp[ZaH,QQ,e]
theorem Zfg{p:κ×V}{r:List (κ×V)}{k:κ}(e:¬ p.1=k):ZaH (p :: r) k=ZaH r k:=by simp[ZaH,QQ,e]
theorem ZfH(k:κ):∀kvs:List (κ×V),(kvs.any fun kv=>decide (kv.1=k))=(ZaH kvs k).isSome
 | []=>rfl
 | p :: r=>by
  rw[Q6];by_cases e:p.1=k
  ·simp only[Zfi e,Yv e,Bool.true_or,Option.isSome_some]
  ·rw[Zfg e,YA e,Bool.false_or]; exact ZfH k r
theorem ZgW(kvs:List (κ×V))(k:κ)(v:V):(putK kvs k v).length<=kvs.length+1:=by
 unfold putK;split
 ·rw[Yr]; omega
 ·rw[Yy,YB,WH]; omega
theorem RelO.isSome_eq{o:Option V}{u:Option P7}(r:RelO o u):o.isSome=u.isSome:=by
 cases o with
 | none=>cases u with
  | none=>rfl
  | some _=>exact (show False from r).elim
 | some _=>cases u with
  | none=>exact (show False from r).elim
  | some _=>rfl
theorem RelO.getD{o:Option V}{u:Option P7}{d:V}{d':P7}(r:RelO o u)(rd:RelV d d'):RelV (o.getD d) (u.getD d'):=by
 cases o with
 | none=>cases u with
  | none=>exact rd
  | some _=>exact (show False from r).elim
 | some _=>cases u with
  | none=>exact (show False from r).elim
  | some _=>exact r
theorem KV.val{kvs:List (κ×V)}{vs:List (κ×P7)}(r:KV kvs vs)(k:κ):RelO (ZaH kvs k) (valueAt vs k):=by
 unfold KV at r
 induction r with
 | nil=>exact True.intro
 | @cons p q ps qs h t ih =>
  obtain⟨h1,h2⟩:=h;by_cases e:p.1=k
  ·have e':q.1=k:=h1.symm.trans e;have b:valueAt (q :: qs) k=some q.2:=by simp[valueAt,QQ,e']
   rw[Zfi e,b]; exact h2
  ·have e':¬ q.1=k:=fun z=>e (h1.trans z);have b:valueAt (q :: qs) k=valueAt qs k:=by simp[valueAt,QQ,e']
   rw[Zfg e,b]; exact ih
theorem KV.any{kvs:List (κ×V)}{vs:List (κ×P7)}(r:KV kvs vs)(k:κ):(kvs.any fun kv=>decide (kv.1=k))=vs.any fun kv=>decide (kv.1=k):=by
 unfold KV at r
 induction r with
 | nil=>rfl
 | cons h t ih=>rw[Q6,Q6,ih,h.1]
theorem KV.repl{kvs:List (κ×V)}{vs:List (κ×P7)}(r:KV kvs vs)(k:κ){y:V}{u:P7}(ry:RelV y u) :
  KV (kvs.map fun kv=>if kv.1=k then (kv.1,y) else kv) (vs.map fun kv=>if kv.1=k then (kv.1,u) else kv):=by
 unfold KV at r ⊢
 induction r with
 | nil=>exact .nil
 | @cons p q ps qs h t ih =>
  rw[YF,YF];refine .cons ?_ ih;obtain⟨h1,h2⟩:=h;by_cases e:p.1=k
  ·rw[Yg e,Yg (h1.symm.trans e)]; exact⟨h1,ry⟩
  ·rw[Yh e,Yh (fun z=>e (h1.trans z))]; exact⟨h1,h2⟩
theorem KV.put{kvs:List (κ×V)}{vs:List (κ×P7)}(r:KV kvs vs)(k:κ){y:V}{u:P7}(ry:RelV y u):KV (putK kvs k y) (stored vs k u):=by
 unfold putK stored;rw[r.any k];by_cases e:(vs.any fun kv=>decide (kv.1=k))=true
 ·rw[Yg e,Yg e]; exact r.repl k ry
 ·rw[Yh e,Yh e]; exact Paired.snoc r ⟨rfl,ry⟩
theorem KV.drop{kvs:List (κ×V)}{vs:List (κ×P7)}(r:KV kvs vs)(k:κ):KV (ZhF kvs k) (without vs k):=by
 unfold KV at r ⊢;unfold ZhF without
 induction r with
 | nil=>exact .nil
 | @cons p q ps qs h t ih =>
  obtain⟨h1,h2⟩:=h;rw[VH,VH];by_cases e:p.1=k
  ·have a:¬ decide (p.1≠k)=true:=by simp[e]
   have b:¬ decide (q.1≠k)=true:=by simp[h1.symm.trans e]
   rw[Yh a,Yh b]; exact ih
  ·have e':¬ q.1=k:=fun z=>e (h1.trans z);have a:decide (p.1≠k)=true:=by simp[e]
   have b:decide (q.1≠k)=true:=by simp[e']
   rw[Yg a,Yg b]; exact .cons ⟨h1,h2⟩ ih
theorem KV.length{kvs:List (κ×V)}{vs:List (κ×P7)}(r:KV kvs vs):kvs.length=vs.length:=Paired.length r
end
theorem ZdL{P:P5}{w:World}{k:Key}{u:P7}(r:RelV (kV k) u):(Zau P w).is k u=true:=by
 cases k with
 | inl i=>obtain⟨t,e⟩:=(show ∃t,u=Value.int i t from r); subst e; exact ZoZ P w i t
 | inr x=>obtain⟨t,e⟩:=(show ∃t,u=Value.str x t from r); subst e; exact Zrn P w x t
theorem ZiZ{P:P5}{w:World}:∀{ks:List Key} {us:List P7},Vals (ks.map kV) us->ItemsAre (Zau P w) ks us
 | [],_,r=>by rw[Uq] at r; cases r; exact .nil
 | k :: ks,_,r=>by
  rw[YF] at r;cases r with
  | cons h t=>exact .cons (ZdL h) (ZiZ t)
noncomputable abbrev KT(H:Hp):List (List Key×V)->List (List Key×Addr×P7)->Prop:=Paired fun p q=>p.1=q.1/\H q.2.1=some (.tup (p.1.map kV))/\RelV p.2 q.2.2
theorem KT.val{H:Hp}{kvs:List (List Key×V)}{xs:List (List Key×Addr×P7)}(r:KT H kvs xs)(k:List Key):RelO (ZaH kvs k) ((atKey xs k).map (·.2)):=by
 induction r with
 | nil=>exact True.intro
 | @cons p q ps qs h t ih =>
  obtain⟨h1,_,h2⟩:=h;by_cases e:p.1=k
  ·have e':q.1=k:=h1.symm.trans e;have b:atKey (q :: qs) k=some q.2:=by simp[atKey,QQ,e']
   rw[Zfi e,b]; exact h2
  ·have e':¬ q.1=k:=fun z=>e (h1.trans z);have b:atKey (q :: qs) k=atKey qs k:=by simp[atKey,QQ,e']
   rw[Zfg e,b]; exact ih
theorem KT.repl{H:Hp}{kvs:List (List Key×V)}{xs:List (List Key×Addr×P7)}(r:KT H kvs xs)(k:List Key){y:V}{u:P7}(ry:RelV y u) :
  KT H (kvs.map fun kv=>if kv.1=k then (kv.1,y) else kv) (xs.map (putAt k u)):=by
 induction r with
 | nil=>exact .nil
 | @cons p q ps qs h t ih =>
  rw[YF,YF];refine .cons ?_ ih;obtain⟨h1,h2,h3⟩:=h;unfold putAt;by_cases e:p.1=k
  ·rw[Yg e,Yg (h1.symm.trans e)]; exact⟨h1,h2,ry⟩
  ·rw[Yh e,Yh (fun z=>e (h1.trans z))]; exact⟨h1,h2,h3⟩
theorem KT.put{H:Hp}{kvs:List (List Key×V)}{xs:List (List Key×Addr×P7)}(r:KT H kvs xs)(k:List Key){b:Addr}{y:V}{u:P7}(hb:H b=some (.tup (k.map kV)))(ry:RelV y u) :
  KT H (putK kvs k y) (storedH xs k b u):=by
 have e:(kvs.any fun kv=>decide (kv.1=k))=(atKey xs k).isSome:=by
  rw[ZfH,(r.val k).isSome_eq,Option.isSome_map]
 unfold putK storedH;rw[e];by_cases q:(atKey xs k).isSome=true
 ·rw[Yg q,Yg q]; exact r.repl k ry
 ·rw[Yh q,Yh q]; exact Paired.snoc r ⟨rfl,hb,ry⟩
theorem KT.keeps{H H':Hp}{kvs:List (List Key×V)}{xs:List (List Key×Addr×P7)}(r:KT H kvs xs)(ht:∀b ys,H b=some (.tup ys)->H' b=some (.tup ys)):KT H' kvs xs :=
 Paired.mapP r fun _ _ z=>⟨z.1,ht _ _ z.2.1,z.2.2⟩
section
variable{P:P5}{w:World}{H:Hp}{h:Heap}{a:Addr}
theorem ZiV{u:HO}(ok:HOk P w H h)(e:Rd H a u):ObjOk P w H h a u:=e.ok ok
theorem Zcx{kvs:List (Key×V)}(ok:HOk P w H h)(e:Rd H a (.dK kvs)):kvs.length<=sizeLine/\(a == sysModules)=false/\∃vs,KV kvs vs/\h.DictOf (Zau P w) a vs :=
 show ObjOk P w H h a (.dK kvs) from ZiV ok e
theorem Zro{kvs:List (Key×V)}(ok:HOk P w H h)(e:H a=some (.dK kvs)):kvs.length<=sizeLine/\(a == sysModules)=false/\∃vs,KV kvs vs/\h.DictOf (Zau P w) a vs:=Zcx ok (.inl e)
theorem ZcD{ks:List Key}(ok:HOk P w H h)(e:H a=some (.tup (ks.map kV))):(tupleKind (Zau P w)).is h ks a:=by
 obtain⟨_,its,r,⟨o,h1,h2,n,h3⟩,_⟩:=(show ObjOk P w H h a (.tup (ks.map kV)) from ok a _ e);exact⟨o,its.toArray,n,h1,h2,h3,by simpa using ZiZ r⟩
theorem ZbM{kvs:List (List Key×V)}(ok:HOk P w H h)(e:Rd H a (.dT kvs)):kvs.length<=sizeLine/\(a == sysModules)=false /\
  ∃xs,KT H kvs xs/\h.DictOfH (tupleKind (Zau P w)) a xs:=by
 obtain⟨z,y,xs,r,o,es,ep,h1,h2,h3,h4,h5⟩:=(show ObjOk P w H h a (.dT kvs) from ZiV ok e);refine⟨z,y,xs,r,o,es,ep,h1,h2,h3,h4,fun x hx => ?_,h5⟩;have all:∀{l:List (List Key×V)} {m:List (List Key×Addr×P7)},KT H l m->∀x∈m,(tupleKind (Zau P w)).is h x.1 x.2.1:=by
  intro l m q
  induction q with
  | nil=>intro x hx; exact nomatch hx
  | @cons p q ps qs hq t ih =>
   intro x hx;rcases Yn.mp hx with e | hx
   ·subst e;exact ZcD ok (by rw[<-hq.1]; exact hq.2.1)
   ·exact ih x hx
 exact all r x hx
theorem Zht{kvs:List (List Key×V)}(ok:HOk P w H h)(e:H a=some (.dT kvs)):kvs.length<=sizeLine/\(a == sysModules)=false /\
  ∃xs,KT H kvs xs/\h.DictOfH (tupleKind (Zau P w)) a xs:=ZbM ok (.inl e)
end
def DGet(H:Hp)(a:Addr)(y:V)(r:Option V):Prop :=
 (∃kvs k,Rd H a (.dK kvs)/\y=kV k/\r=ZaH kvs k)\/∃kvs k b,Rd H a (.dT kvs)/\y = .ref b/\H b=some (.tup (k.map kV))/\r=ZaH kvs k
def DPut(H:Hp)(a:Addr)(y v:V)(H':Hp):Prop :=
 (∃kvs k,H a=some (.dK kvs)/\y=kV k/\kvs.length<sizeLine/\H'=upd H a (.dK (putK kvs k v))) \/
 ∃kvs k b,H a=some (.dT kvs)/\y = .ref b/\H b=some (.tup (k.map kV))/\kvs.length<sizeLine/\H'=upd H a (.dT (putK kvs k v))
theorem DGet.k{H:Hp}{a:Addr}{kvs:List (Key×V)}{k:Key}(e:H a=some (.dK kvs)):DGet H a (kV k) (ZaH kvs k):=.inl ⟨kvs,k,.inl e,rfl,rfl⟩
theorem DGet.t{H:Hp}{a b:Addr}{kvs:List (List Key×V)}{k:List Key}(e:H a=some (.dT kvs))(eb:H b=some (.tup (k.map kV))):DGet H a (.ref b) (ZaH kvs k):=.inr ⟨kvs,k,b,.inl e,rfl,eb,rfl⟩
theorem DPut.k{H:Hp}{a:Addr}{kvs:List (Key×V)}{k:Key}{v:V}(e:H a=some (.dK kvs))(hl:kvs.length<sizeLine):DPut H a (kV k) v (upd H a (.dK (putK kvs k v))):=.inl ⟨kvs,k,e,rfl,hl,rfl⟩
theorem DPut.t{H:Hp}{a b:Addr}{kvs:List (List Key×V)}{k:List Key}{v:V}(e:H a=some (.dT kvs))(eb:H b=some (.tup (k.map kV)))(hl:kvs.length<sizeLine) :
  DPut H a (.ref b) v (upd H a (.dT (putK kvs k v))):=.inr ⟨kvs,k,b,e,rfl,eb,hl,rfl⟩
section
variable{X:Cx}{pins:List (Addr×Obj)}{σ:St}{H:Hp}{s:P1}{a:Addr}{y v:V}{u r:P7}{o:Option V}{A:P4}{E:P7->P1->Prop}
theorem Inv.big(I:Inv X pins σ H s):sysModules<s.heap.objs.size:=by
 have h:mainGlobals<s.heap.objs.size:=(I.mod.glob.keeps I.bk).lt;exact VX (by decide) h
theorem Zl1{Q:P7->P1->Prop}(hu:A.units+1<cLine)(I:Inv X pins σ H s)(g:DGet H a y (some v))(ry:RelV y u)(h:∀w' s',Inv X pins σ H s'->RelV v w'->Q w' s') :
  wpAny (model X.prog X.w) A (getItem (.ref a) u) Q E s:=by
 rcases g with⟨kvs,k,e,ey,l⟩ | ⟨kvs,k,b,e,ey,eb,l⟩
 ·subst ey;obtain⟨z,hd,vs,rel,dd⟩:=Zcx I.hok e;obtain⟨w',hw,rw'⟩:=RelO.some_of (v:=v) (o:=valueAt vs k) (by rw[l]; exact rel.val k);exact wpAny_getItem_of (ZdL ry) dd.mapOf hw (h w' _ (I.tok _) rw')
 ·subst ey;cases (show u=Value.ref b from ry);obtain⟨z,hd,xs,rel,dd⟩:=ZbM I.hok e;obtain⟨w',hw,rw'⟩:=RelO.some_of (v:=v) (o:=(atKey xs k).map (·.2)) (by rw[l]; exact rel.val k);obtain⟨p,hp,hp2⟩:=QV.mp hw;refine wpAny_getItem_heap (Vg hu) (ZcD I.hok eb) dd hp ?_;rw[hp2];exact h w' _ (I.tok _) rw'
theorem Zsk{Q:P7->P1->Prop}(hu:A.units+1<cLine)(I:Inv X pins σ H s)(g:DGet H a y o)(ry:RelV y u)(h:∀s',Inv X pins σ H s'->Q (.bool (!o.isSome)) s') :
  wpAny (model X.prog X.w) A (compareOp .NotIn u (.ref a)) Q E s:=by
 rcases g with⟨kvs,k,e,ey,l⟩ | ⟨kvs,k,b,e,ey,eb,l⟩
 ·subst ey;obtain⟨z,hd,vs,rel,dd⟩:=Zcx I.hok e;refine wpAny_notIn_of (ZdL ry) hd dd.mapOf ?_;rw[<-(rel.val k).isSome_eq,<-l];exact h _ (I.tok _)
 ·subst ey;cases (show u=Value.ref b from ry);obtain⟨z,hd,xs,rel,dd⟩:=ZbM I.hok e;refine wpAny_notIn_heap (Vg hu) (ZcD I.hok eb) hd dd ?_;have q:=(rel.val k).isSome_eq;rw[Option.isSome_map] at q;rw[<-q,<-l];exact h _ (I.tok _)
theorem ZgS{h':Heap}{t':Nat}{ob:HO}(I:Inv X pins σ H s)(mu:Mut (H a))(hs:Heap.SameBut a s.heap h')(he:∃q,h'.get? a=some q)(new:ObjOk X.prog X.w (upd H a ob) h' a ob) :
  Inv X pins σ (upd H a ob) { s with heap:=h',toks:=t' } :=
 I.write (x:=a) (e:=a) mu (.inl rfl) (fun b q hb z=>(hs.2 b hb).trans z) he new
theorem Zn3{P:P5}{w:World}{H':Hp}{h':Heap}{kvs:List (Key×V)}{vs:List (Key×P7)}(z:kvs.length<=sizeLine)(hd:(a == sysModules)=false)(rel:KV kvs vs)(dd:h'.DictOf (Zau P w) a vs) :
  ObjOk P w H' h' a (.dK kvs):=⟨z,hd,vs,rel,dd⟩
theorem Zrf{H':Hp}{Q:Unit->P1->Prop}(hu:A.units+1<cLine)(I:Inv X pins σ H s)(g:DPut H a y v H')(ry:RelV y u)(rv:RelV v r)(h:∀s',Inv X pins σ H' s'->Q () s') :
  wpAny (model X.prog X.w) A (setItem (.ref a) u r) Q E s:=by
 rcases g with⟨kvs,k,e,ey,l,eH⟩ | ⟨kvs,k,b,e,ey,eb,l,eH⟩
 ·subst ey eH;obtain⟨z,hd,vs,rel,dd⟩:=Zro I.hok e;have hz:vs.length<=sizeLine:=by rw[<-rel.length]; exact z
  have hl:(putK kvs k v).length<=sizeLine:=by have:=ZgW kvs k v; omega
  refine wpAny_setItem_pairs (hsz:=hz) (ZdL ry) dd fun h' dd' hs=>h _ ?_;have he:∃q,h'.get? a=some q:=let ⟨q,_,_,hq,_⟩:=dd'; ⟨q,hq⟩
  exact ZgS I (by rw[e]; exact True.intro) hs he (Zn3 hl hd (rel.put k rv) dd')
 ·subst ey eH;cases (show u=Value.ref b from ry);obtain⟨z,hd,xs,rel,dd⟩:=Zht I.hok e;have hz:xs.length<=sizeLine:=by rw[<-Paired.length rel]; exact z
  have hl:(putK kvs k v).length<=sizeLine:=by have:=ZgW kvs k v; omega
  refine wpAny_setItem_heap (hsz:=hz) (Vg hu) (ZcD I.hok eb) dd fun h' dd' hs=>h _ ?_;obtain⟨q,es,ep,hq,h2,h3,h4,_,h5⟩:=dd';refine ZgS I (by rw[e]; exact True.intro) hs ⟨q,hq⟩ ⟨hl,hd,_,(rel.put k eb rv).keeps fun c ys ec => ?_,q,es,ep,hq,h2,h3,h4,h5⟩;rw[Zp (ne_of ec e (fun z=>nomatch z))];exact ec
end
section
variable{X:Cx}{pins:List (Addr×Obj)}{σ:St}{H:Hp}{s:P1}{a:Addr}{kvs:List (Key×V)}{k:Key}{u:P7}{A:P4}{E:P7->P1->Prop}
theorem ZlL{Q:P7->P1->Prop}(I:Inv X pins σ H s)(e:Rd H a (.dK kvs))(h:∀t s',Inv X pins σ H s'->Q (.int kvs.length t) s'):wpAny (model X.prog X.w) A (call (.builtin "len") [.ref a]) Q E s:=by
 obtain⟨z,hd,vs,rel,dd⟩:=Zcx I.hok e;refine call_len_dict hd dd (by rw[<-rel.length]; rw[Wd] at z; omega) ?_;rw[<-rel.length];exact h _ _ (I.tok _)
end
def ZfJ(i:Expr):Prop:=∀ov iv,subscripted i false ov iv=operate [ov,iv] (getItem ov iv)
theorem ZoG{prog:P5}{w:World}{A:P4}{E:P7->P1->Prop}{s:P1}{env:Env}{value slice:Expr}{pos:Pos}{T id:String}{Q:P7->P1->Prop}
  (hl:typeLookup (.type T) "__getitem__" = pure (some (.builtin id))) (hs:ZfJ slice)
  (h:wpAny (model prog w) A (eval value env) (fun o s₁=>wpAny (model prog w) A (eval slice env) (fun i s₂=>s₂.TypeIs o T/\wpAny (model prog w) A (getItem o i) Q E s₂) E s₁) E s) :
  wpAny (model prog w) A (eval (.Subscript value slice pos) env) Q E s:=by
 refine Subscript_ (YW h (fun o s₁ h₁=>YW h₁ (fun i s₂ h₂ => ?_) fun _ _ x=>x) fun _ _ x=>x);obtain⟨hT,h₂⟩:=h₂;unfold subscriptTail;refine Ya ?_;rw[getitemInPython_of_ne hT.not_modules];refine Ya (V0 hT hl ?_);have fin:wpAny (model prog w) A (subscripted slice false o i) (fun r s₃=>wpAny (model prog w) A (letTemporaryGo value o r >>= fun _=>pure r) Q E s₃) E s₂:=by
  rw[hs o i];exact wpAny_operating (YW h₂ (fun r s₃ h₃=>Ya (wpAny_letTemporaryGo (Yb h₃))) fun _ _ x=>x)
 first
  | exact Yb (Ya fin)
  | exact Ya (Yb (Ya fin))
  | exact Ya fin
theorem Zso{X:Cx}{pins:List (Addr×Obj)}{σ:St}{H:Hp}{s:P1}{a:Addr}{y:V}{o:Option V}(I:Inv X pins σ H s)(g:DGet H a y o):s.TypeIs (.ref a) "dict":=by
 rcases g with⟨kvs,k,e,_,_⟩ | ⟨kvs,k,b,e,_,_,_⟩
 ·obtain⟨_,_,vs,_,dd⟩:=Zcx I.hok e;exact dd.typeIs
 ·obtain⟨_,_,xs,_,dd⟩:=ZbM I.hok e;exact dd.typeIs
def ZsS(td ty:TE):TE:=fun σ H Q=>td σ H fun x H1=>ty σ H1 fun y H2 => ∃a v,x = .ref a/\DGet H2 a y (some v)/\Q v H2
def Zrl(td ty tv:TE):TS:=fun D σ H=>tv σ H fun v H1=>td σ H1 fun x H2=>ty σ H2 fun y H3 => ∃a H4,x = .ref a/\DPut H3 a y v H4/\D.nx σ H4
section
variable{X:Cx}{o i e value:Expr}{pos pos' tpos:Pos}{td ty tv:TE}
theorem ZsR(hu:X.A.units+1<cLine)(ho:PE X o td)(hi:PE X i ty)(hs:ZfJ i):PE X (.Subscript o i pos) (ZsS td ty):=by
 intro pins s σ H Q I h;refine ZoG PySem.F.slot_dict_getitem.lookup hs (thn (ho pins s σ H _ I h) fun u s1 ⟨x,H1,I1,rx,q1⟩=>thn (hi pins s1 σ H1 _ I1 q1) fun iv s2 ⟨y,H2,I2,ry,a,v,ex,g,q2⟩ => ?_);subst ex;obtain rfl:u=Value.ref a:=rx;exact⟨Zso I2 g,Zl1 hu I2 g ry fun w' s3 I3 rw'=>⟨v,H2,I3,rw',q2⟩⟩
theorem ZnA(hu:X.A.units+1<cLine)(ho:PE X o td)(hi:PE X i ty)(hv:PE X value tv)(hs:swapsWith value (some (.Subscript o i pos')) pos.line X.env=pure false) :
  PS X (.Assign [.Subscript o i pos'] value pos) (Zrl td ty tv):=by
 intro pins s σ H D I h;refine wpAny_Assign_Subscript (thn (hv pins s σ H _ I h) fun r s1 ⟨v,H1,I1,rv,q1⟩=>thn (ho pins s1 σ H1 _ I1 q1) fun u s2 ⟨x,H2,I2,rx,q2⟩=>thn (hi pins s2 σ H2 _ I2 q2) fun iv s3 ⟨y,H3,I3,ry,a,H4,ex,g,q3⟩ => ?_) hs;subst ex;obtain rfl:u=Value.ref a:=rx;exact Zrf hu I3 g ry rv fun s4 I4=>⟨σ,H4,I4,q3⟩
end
theorem Zoi{P:P5}{w:World}{H:Hp}(h:Heap)(hb:sysModules<h.objs.size):ObjOk P w H (h.push { cls:=.type "dict",data:=.dict #[] }) h.objs.size (.dT []) :=
 ⟨YV _,Qf.mpr (Y7 (Yx hb)),[],.nil,_,#[],0,Yq _ rfl,⟨rfl,rfl,rfl⟩,rfl,rfl,Q2⟩
def Zlp(kvs more:List (Key×V)):List (Key×V):=more.foldl (fun acc kv=>putK acc kv.1 kv.2) kvs
theorem KV.merge:∀{more:List (Key×V)} {rs:List (Key×P7)} {kvs:List (Key×V)} {vs:List (Key×P7)},KV more rs->KV kvs vs->KV (Zlp kvs more) (merged vs rs):=by
 intro more rs kvs vs r;unfold KV at r
 induction r generalizing kvs vs with
 | nil=>intro q; exact q
 | @cons p q ps qs h t ih =>
  intro r0;have e:KV (putK kvs p.1 p.2) (stored vs q.1 q.2):=by
   have:=r0.put p.1 h.2;rw[<-h.1]; exact this
  exact ih e
structure M1(X:Cx)(o:Expr)(m:Str)(apos:Pos)(e:Expr)(cpos:Pos):Prop where
 base:attributeBase o m X.env (eval o X.env)=eval o X.env
 few:((backTo cpos (starEach [e] X.env)).all (fun x => !x.1) && (backToKw cpos (keywordEach [] X.env)).all (fun x=>x.1.isSome)
  && decide (([e]:List Expr).length+([]:List Keyword).length+(if ([]:List Keyword).isEmpty then 0 else 1)<30))=true
 line:(apos.endLine == cpos.line)=true
 trees:backTo cpos (starEach [e] X.env)=[(false,eval e X.env)]
def IsD(H:Hp)(a:Addr):Prop:=(∃kvs,Rd H a (.dK kvs))\/∃kvs,Rd H a (.dT kvs)
theorem Zmj{X:Cx}{pins:List (Addr×Obj)}{σ:St}{H:Hp}{s:P1}{a:Addr}(I:Inv X pins σ H s)(d:IsD H a) :
  s.TypeIs (.ref a) "dict"/\(∀b,Value.ref a = .ref b->∃ob,s.heap.get? b=some ob/\ob.dict=none)/\(a == sysModules)=false:=by
 rcases d with⟨kvs,e⟩ | ⟨kvs,e⟩
 ·obtain⟨_,hd,vs,_,dd⟩:=Zcx I.hok e;refine⟨dd.typeIs,fun b q => ?_,hd⟩;cases q;obtain⟨ob,_,_,h1,h2,_⟩:=dd;exact⟨ob,h1,h2.2.1⟩
 ·obtain⟨_,hd,xs,_,dd⟩:=ZbM I.hok e;refine⟨dd.typeIs,fun b q => ?_,hd⟩;cases q;obtain⟨ob,_,_,h1,h2,_⟩:=dd;exact⟨ob,h1,h2.2.1⟩
section
variable{X:Cx}{pins:List (Addr×Obj)}{σ:St}{H:Hp}{s:P1}{a:Addr}{y d:V}{u r:P7}{o:Option V}{A:P4}{E:P7->P1->Prop}
theorem ZmS{Q:P7->P1->Prop}(hu:A.units+1<cLine)(I:Inv X pins σ H s)(g:DGet H a y o)(ry:RelV y u)(h:∀w' s',Inv X pins σ H s'->RelV (o.getD .non) w'->Q w' s') :
  wpAny (model X.prog X.w) A (call (.builtin "dict.get") [.ref a,u]) Q E s:=by
 rcases g with⟨kvs,k,e,ey,l⟩ | ⟨kvs,k,b,e,ey,eb,l⟩
 ·subst ey;obtain⟨z,hd,vs,rel,dd⟩:=Zcx I.hok e;refine call_meetsIn VO dd.typeIs PySem.F.entry_dict_get (PySem.F.args_dict_get_2 _ _) (meets_dict_get (Zau X.prog X.w) a (ZdL ry) hd) ⟨_,dd.mapOf,h _ _ (I.tok _) ?_⟩;rw[l];exact (rel.val k).getD rfl
 ·subst ey;cases (show u=Value.ref b from ry);obtain⟨z,hd,xs,rel,dd⟩:=ZbM I.hok e;refine call_meetsIn VO dd.typeIs PySem.F.entry_dict_get (PySem.F.args_dict_get_2 _ _) (meetsH_dict_get (tupleKind (Zau X.prog X.w)) a b hd) ⟨Vg hu,k,xs,ZcD I.hok eb,dd,h _ _ (I.tok _) ?_⟩;rw[l];exact (rel.val k).getD rfl
end
def ZlW(td ty:TE):TE:=fun σ H Q=>td σ H fun x H1 => ∃a,x = .ref a/\IsD H1 a/\ty σ H1 fun y H2 => ∃o,DGet H2 a y o/\Q (o.getD .non) H2
section
variable{X:Cx}{o e f:Expr}{apos cpos:Pos}{td ty tx:TE}
theorem ZqN(hu:X.A.units+1<cLine)(ho:PE X o td)(he:PE X e ty)(m:M1 X o "get" apos e cpos):PE X (.Call (.Attribute o "get" apos) [e] [] cpos) (ZlW td ty):=by
 intro pins s σ H Q I h;refine wpAny_Call_method m.base m.few m.line PySem.F.plainAttrs_dict VO PySem.F.type_dict_get (thn (ho pins s σ H _ I h) fun u s1 ⟨x,H1,I1,rx,a,ex,d,q1⟩ => ?_);subst ex;obtain rfl:u=Value.ref a:=rx;obtain⟨t1,t2,_⟩:=Zmj I1 d;refine⟨t1,t2,?_⟩;rw[m.trees];refine Vw rfl (Calls.evalArgs_plain (QP (thn (he pins s1 σ H1 _ I1 q1) fun iv s2 ⟨y,H2,I2,ry,ov,g,q2⟩=>QX ?_)));exact ZmS hu I2 g ry fun w' s3 I3 rw'=>⟨_,H2,I3,rw',q2⟩
end
section
variable{X:Cx}
theorem Zan:Za4 X (.builtin "len") (fun xs H Q => ∃a kvs,xs=[V.ref a]/\H a=some (.dK kvs)/\Q (.int kvs.length) H):=by
 intro pins s σ H xs us Q I r h;obtain⟨a,kvs,rfl,ha,q⟩:=h;obtain⟨u,rfl,ru⟩:=vals1 r;cases ru;exact ZlL I (.inl ha) fun t s' I'=>⟨.int kvs.length,H,I',⟨t,rfl⟩,q⟩
end
end L2
end
section
namespace DL
open PySem PySem.Spec PyProof.Rows L2
section
variable{κ:Type}[DecidableEq κ](f:D->Option κ)
def ZaI:List (D×D)->D->Option D
 | [],_=>none
 | p :: r,k=>if f p.1=f k then some p.2 else ZaI r k
def hasD(ds:List (D×D))(k:D):Bool:=ds.any fun p=>decide (f p.1=f k)
def putD(ds:List (D×D))(k v:D):List (D×D) :=
 if hasD f ds k=true then ds.map (fun p=>if f p.1=f k then (p.1,v) else p) else ds++[(k,v)]
end
def RelO'(K:P3)(O:List Addr)(H:Hp):Option D->Option V->Prop
 | none,none=>True
 | some d,some v=>Rep K O H d v
 | _,_=>False
section
variable{κ:Type}[DecidableEq κ]{f:D->Option κ}{K:P3}{O:List Addr}{H:Hp}
theorem ZjO(k:D):∀ds:List (D×D),hasD f ds k=(ZaI f ds k).isSome
 | []=>rfl
 | p :: r=>by
  unfold hasD;rw[Q6];by_cases e:f p.1=f k
  ·simp[ZaI,e]
  ·rw[YA e,Bool.false_or];have:=ZjO k r;unfold hasD at this;rw[this,ZaI,Yh e]
theorem ZdE{k:D}{q:κ}(hk:f k=some q):∀{ds:List (D×D)} {vs:List (κ×V)},Kvs K f O H ds vs->RelO' K O H (ZaI f ds k) (ZaH vs q)
 | [],vs,h=>by
  cases (show vs=[] from h);exact trivial
 | (a,d) :: ds,vs,h=>by
  obtain⟨qa,v,r,rfl,ha,hr,ht⟩:=(show ∃q v r,vs=(q,v) :: r/\f a=some q/\Rep K O H d v/\Kvs K f O H ds r from h);by_cases e:qa=q
  ·have e':f (a,d).1=f k:=by rw[hk]; show f a=_; rw[ha,e]
   rw[ZaI,Yg e',Zfi (p:=(qa,v)) e];exact hr
  ·have e':¬ f (a,d).1=f k:=by
    rw[hk]; show ¬ f a=_; rw[ha]; intro z; exact e (Option.some.inj z)
   rw[ZaI,Yh e',Zfg (p:=(qa,v)) e];exact ZdE hk ht
theorem RelO'.isSome{a:Option D}{b:Option V}(h:RelO' K O H a b):b.isSome=a.isSome:=by
 cases a <;> cases b <;> first | rfl | exact h.elim
theorem ZgJ:∀{ds:List (D×D)} {vs:List (κ×V)},Kvs K f O H ds vs->vs.length=ds.length
 | [],vs,h=>by
  cases (show vs=[] from h);rfl
 | (a,d) :: ds,vs,h=>by
  obtain⟨qa,v,r,rfl,ha,hr,ht⟩:=(show ∃q v r,vs=(q,v) :: r/\f a=some q/\Rep K O H d v/\Kvs K f O H ds r from h);simp[ZgJ ht]
theorem Zjq{k d:D}{q:κ}{v:V}(hk:f k=some q)(hr:Rep K O H d v):∀{ds:List (D×D)} {vs:List (κ×V)},Kvs K f O H ds vs->Kvs K f O H (ds++[(k,d)]) (vs++[(q,v)])
 | [],vs,h=>by
  cases (show vs=[] from h);exact⟨q,v,[],rfl,hk,hr,rfl⟩
 | (a,d) :: ds,vs,h=>by
  obtain⟨qa,w,r,rfl,ha,hw,ht⟩:=(show ∃q v r,vs=(q,v) :: r/\f a=some q/\Rep K O H d v/\Kvs K f O H ds r from h);exact⟨qa,w,r++[(q,v)],rfl,ha,hw,Zjq hk hr ht⟩
theorem ZjF{k d:D}{q:κ}{v:V}(hk:f k=some q)(hr:Rep K O H d v):∀{ds:List (D×D)} {vs:List (κ×V)},Kvs K f O H ds vs ->
  Kvs K f O H (ds.map fun p=>if f p.1=f k then (p.1,d) else p) (vs.map fun kv=>if kv.1=q then (kv.1,v) else kv)
 | [],vs,h=>by
  cases (show vs=[] from h);exact rfl
 | (a,e) :: ds,vs,h=>by
  obtain⟨qa,w,r,rfl,ha,hw,ht⟩:=(show ∃q v r,vs=(q,v) :: r/\f a=some q/\Rep K O H e v/\Kvs K f O H ds r from h);have ih:=ZjF hk hr ht;rw[YF,YF];by_cases z:qa=q
  ·have z':f (a,e).1=f k:=by rw[hk]; show f a=_; rw[ha,z]
   rw[Yg z',Yg (show (qa,w).1=q from z)];exact⟨qa,v,_,rfl,ha,hr,ih⟩
  ·have z':¬ f (a,e).1=f k:=by
    rw[hk]; show ¬ f a=_; rw[ha]; intro y; exact z (Option.some.inj y)
   rw[Yh z',Yh (show ¬ (qa,w).1=q from z)];exact⟨qa,w,_,rfl,ha,hw,ih⟩
theorem Zhn{k d:D}{q:κ}{v:V}(hk:f k=some q)(hr:Rep K O H d v){ds:List (D×D)}{vs:List (κ×V)}(h:Kvs K f O H ds vs):Kvs K f O H (putD f ds k d) (putK vs q v):=by
 unfold putD putK;rw[ZjO,ZfH,(ZdE hk h).isSome];split
 ·exact ZjF hk hr h
 ·exact Zjq hk hr h
end
theorem Zei{K:P3}{O:List Addr}{H:Hp}{d:D}{q:Key}{v:V}(h:Zaq d=some q)(r:Rep K O H d v):v=kV q:=by
 cases d with
 | int i =>
  cases (show some (Sum.inl i)=some q from h);exact Rep.int_i.mp r
 | str x =>
  cases (show some (Sum.inr x)=some q from h);exact Rep.str_i.mp r
 | _=>cases h
theorem Zg5{K:P3}{O:List Addr}{H:Hp}:∀{ds:List D} {qs:List Key} {vs:List V},Zbe ds=some qs->Reps K O H ds vs->vs=qs.map kV
 | [],qs,vs,h,r=>by
  cases (show some []=some qs from h);exact (by unfold Reps at r; exact r)
 | d :: ds,qs,vs,h,r=>by
  unfold Zbe at h;unfold Reps at r;obtain⟨v,w,rfl,hv,hw⟩:=r;split at h
  ·rename_i k ks h1 h2;cases h;rw[Zei h1 hv,Zg5 h2 hw];rfl
  ·cases h
theorem Zkd{K:P3}{O:List Addr}{H:Hp}{d:D}{q:List Key}{v:V}(h:ZM d=some q)(r:Rep K O H d v):∃b,v = .ref b/\H b=some (.tup (q.map kV)):=by
 cases d with
 | tup ds =>
  rw[Rep.tup_i] at r;obtain⟨a,vs,rfl,e,rs⟩:=r;have h':Zbe ds=some q:=h;rw[Zg5 h' rs] at e;exact⟨a,rfl,e⟩
 | _=>cases h
def dAt(st:Sto)(d k:D):Option (Option D):=match d with
 | .res i=>match st[i]? with
  | some (.dct ds)=>if (Zaq k).isSome=true then some (ZaI Zaq ds k) else none
  | some (.fdc ds)=>if (Zaq k).isSome=true then some (ZaI Zaq ds k) else none
  | some (.dtt ds)=>if (ZM k).isSome=true then some (ZaI ZM ds k) else none
  | _=>none
 | _=>none
theorem ZfQ{K:P3}{O:List Addr}{H:Hp}{st:Sto}{d k:D}{o:Option D}{x y:V}(W:WR K O H st)(h:dAt st d k=some o)(rx:Rep K O H d x)(ry:Rep K O H k y) :
  ∃a ov,x = .ref a/\DGet H a y ov/\RelO' K O H o ov:=by
 cases d with
 | res i =>
  rw[Rep.res_i] at rx;obtain⟨a,rfl,q⟩:=rx;unfold dAt at h;dsimp only at h;cases e:st[i]? with
  | none=>rw[e] at h; cases h
  | some s =>
   rw[e] at h;cases s with
   | lst xs=>cases h
   | ins C fs=>cases h
   | dct ds =>
    obtain⟨vs,e2,kv⟩:=W.at_ _ _ _ q e;dsimp only at h;cases hk:Zaq k with
    | none=>rw[hk] at h; cases h
    | some c =>
     rw[hk] at h;cases h;cases Zei hk ry;exact⟨a,_,rfl,DGet.k e2,ZdE hk kv⟩
   | fdc ds =>
    obtain⟨ob,vs,e2,kv⟩:=W.at_ _ _ _ q e;dsimp only at h;cases hk:Zaq k with
    | none=>rw[hk] at h; cases h
    | some c =>
     rw[hk] at h;cases h;cases Zei hk ry;exact⟨a,_,rfl,(.inl ⟨_,_,.inr ⟨_,e2⟩,rfl,rfl⟩),ZdE hk kv⟩
   | dtt ds =>
    obtain⟨vs,e2,kv⟩:=W.at_ _ _ _ q e;dsimp only at h;cases hk:ZM k with
    | none=>rw[hk] at h; cases h
    | some c =>
     rw[hk] at h;cases h;obtain⟨b,rfl,hb⟩:=Zkd hk ry;exact⟨a,_,rfl,DGet.t e2 hb,ZdE hk kv⟩
 | _=>cases h
def Zbh(st:Sto)(d k v:D):Option Sto:=match d with
 | .res i=>match st[i]? with
  | some (.dct ds)=>if (Zaq k).isSome=true/\ds.length<small then some (st.set i (.dct (putD Zaq ds k v))) else none
  | some (.dtt ds)=>if (ZM k).isSome=true/\ds.length<small then some (st.set i (.dtt (putD ZM ds k v))) else none
  | _=>none
 | _=>none
theorem ZjR{K:P3}{O:List Addr}{H:Hp}{st st':Sto}{d k z:D}{x y w:V}(W:WR K O H st)(h:Zbh st d k z=some st')(rx:Rep K O H d x)(ry:Rep K O H k y)(rw':Rep K O H z w) :
  ∃a H',x = .ref a/\DPut H a y w H'/\Keep K O H O H'/\WR K O H' st':=by
 cases d with
 | res i =>
  rw[Rep.res_i] at rx;obtain⟨a,rfl,q⟩:=rx;unfold Zbh at h;dsimp only at h;cases e:st[i]? with
  | none=>rw[e] at h; cases h
  | some s =>
   rw[e] at h;cases s with
   | lst xs=>cases h
   | ins C fs=>cases h
   | fdc ds=>cases h
   | dct ds =>
    obtain⟨vs,e2,kv⟩:=W.at_ _ _ _ q e;dsimp only at h;split at h
    ·rename_i hc;cases hk:Zaq k with
     | none=>rw[hk] at hc; cases hc.1
     | some c =>
      cases h;cases Zei hk ry;refine⟨a,_,rfl,DPut.k e2 (by rw[ZgJ kv]; exact Yz hc.2 ZaM),Keep.write W q,W.write q ?_⟩;exact⟨_,Zai,Kvs.mono (Keep.write W q) _ _ (Zhn hk rw' kv)⟩
    ·cases h
   | dtt ds =>
    obtain⟨vs,e2,kv⟩:=W.at_ _ _ _ q e;dsimp only at h;split at h
    ·rename_i hc;cases hk:ZM k with
     | none=>rw[hk] at hc; cases hc.1
     | some c =>
      cases h;obtain⟨b,rfl,hb⟩:=Zkd hk ry;refine⟨a,_,rfl,DPut.t e2 hb (by rw[ZgJ kv]; exact Yz hc.2 ZaM),Keep.write W q,W.write q ?_⟩;exact⟨_,Zai,Kvs.mono (Keep.write W q) _ _ (Zhn hk rw' kv)⟩
    ·cases h
 | _=>cases h
def ZgZ(fo fi:DE):DE:=fun ρ st=>(fo ρ st).bind fun d st1=>(fi ρ st1).bind fun k st2=>match dAt st2 d k with
 | some (some v) => .ok v st2
 | _ => .bad
def Zch:D->D->Sto->Out D:=fun k d st=>match dAt st d k with
 | some o => .ok (.bl (!o.isSome)) st
 | _ => .bad
def ZgR(fo fi fv:DE):DS:=fun ρ st=>(fv ρ st).to fun v st1=>(fo ρ st1).to fun d st2=>(fi ρ st2).to fun k st3=>match Zbh st3 d k v with
 | some st4 => .nx ρ st4
 | _ => .bad
section
variable{X:Cx}{EX:EXT}{a b c e o i:Expr}{fa fb fc fo fi fv:DE}{pos p p2 apos cpos:Pos}
theorem ZoN(hu:X.A.units+64<cLine)(ho:PD X EX o fo)(hi:PD X EX i fi)(hs:ZfJ i:=by intro _ _; rfl):PD X EX (.Subscript o i pos) (ZgZ fo fi):=by
 refine PE.mono (ZsR (by omega) ho hi hs) ?_;rintro σ H Q ⟨O,ρ,st,W,E,R⟩;refine⟨O,ρ,st,W,E,R.bind.mono fun d st1 O1 H1 k1 W1 R1 x rx => ?_⟩;refine⟨O1,ρ,st1,W1,E.mono k1,R1.bind.mono fun k st2 O2 H2 k2 W2 R2 y ry => ?_⟩;split at R2
 ·rename_i v hv;obtain⟨a,ov,rfl,g,rel⟩:=ZfQ W2 hv (Rep.mono k2 _ _ rx) ry;cases ov with
  | none=>exact rel.elim
  | some w=>exact⟨a,w,rfl,g,Run.now (k:=Val X.K Q) R2 W2 _ rel⟩
 ·exact R2.elim
theorem Zk7(hu:X.A.units+64<cLine):OpD X EX (compareOp .NotIn) Zch:=by
 intro pins s σ H x y v u Q I rx ry h;obtain⟨O,k,d,st,W,rk,rd,R⟩:=h;unfold Zch at R;split at R
 ·rename_i o ho;obtain⟨a,ov,rfl,g,rel⟩:=ZfQ W ho rd rk;cases (show u=Value.ref a from ry);refine Zsk (by omega) I g rx fun s' I'=>⟨.bl (!ov.isSome),H,I',rfl,?_⟩;rw[rel.isSome];exact Run.now (k:=Val X.K Q) R W _ (Rep.bl_i.mpr rfl)
 ·exact R.elim
theorem Zma(hu:X.A.units+64<cLine)(ho:PD X EX o fo)(hi:PD X EX i fi)(hv:PD X EX e fv)(hs:swapsWith e (some (.Subscript o i p)) pos.line X.env=pure false:=by rfl) :
  PDs X EX (.Assign [.Subscript o i p] e pos) (ZgR fo fi fv):=by
 refine PS.mono (ZnA (by omega) ho hi hv hs) ?_;rintro Dn σ H ⟨O,ρ,st,W,E,R⟩;refine⟨O,ρ,st,W,E,R.to.mono fun w st1 O1 H1 k1 W1 R1 v r => ?_⟩;refine⟨O1,ρ,st1,W1,E.mono k1,R1.to.mono fun d st2 O2 H2 k2 W2 R2 u r2 => ?_⟩;refine⟨O2,ρ,st2,W2,E.mono (k1.trans k2),R2.to.mono fun j st3 O3 H3 k3 W3 R3 z r3 => ?_⟩;split at R3
 ·rename_i st4 h4;obtain⟨a,H4,rfl,g,kp,W4⟩:=ZjR W3 h4 (Rep.mono k3 _ _ r2) r3 (Rep.mono (k2.trans k3) _ _ r);exact⟨a,H4,rfl,g,R3 O3 H4 σ kp W4 (E.mono (k1.trans (k2.trans (k3.trans kp))))⟩
 ·exact R3.elim
end
section
variable{fo fi fv:DE}{ρ:Ev}{st:Sto}{C:Addr}{x:Str}
theorem Zmz:ZgR fo fi fv ρ st=(fv ρ st).to fun v st1=>(fo ρ st1).to fun d st2=>(fi ρ st2).to fun k st3=>match Zbh st3 d k v with
 | some st4 => .nx ρ st4
 | _ => .bad:=rfl
end
end DL
end
section
namespace SO
open PySem PySem.W PyProof.Rows
section
variable{prog:P5}{w:World}{A:P4}{E:P7->P1->Prop}{s:P1}
def Z3(a b:Str):Bool:=decide (a.cps.toList<b.cps.toList)
def Zbo(a b:Str):Bool:=decide (a.cps.toList<=b.cps.toList)
theorem ZeM{a b:Str}(h:a.cps.toList=b.cps.toList):a=b:=by
 cases a; cases b;simp only at h;congr 1;exact Ut.mp h
theorem Zp3{ss:List Str}(hn:ss.Nodup):Ord ss.length (fun i j=>Z3 (ss.getD i default) (ss.getD j default)):=by
 have apart:∀i j,i<ss.length->j<ss.length->i≠j->(ss.getD i default).cps.toList≠(ss.getD j default).cps.toList:=fun i j hi hj ne e=>by
  have e':=ZeM e;rw[Yk,Yk,Yj hi,Yj hj] at e';exact ne ((QC hn).mp e')
 refine⟨fun i j hi hj ne h => ?_,fun i j hi hj h => ?_,fun i j k hi hj hk h1 h2 => ?_⟩
 ·have ha:=apart i j hi hj ne;simp only[Z3,Wr,Vq] at *;have h1:=Vz.mp h;by_cases h2:(ss.getD j default).cps.toList<(ss.getD i default).cps.toList
  ·exact h2
  ·exact absurd (VI (Vz.mp h2) h1) ha
 ·simp only[Z3,Wr,Vq] at *;exact fun h2=>List.lt_irrefl _ (Ue h h2)
 ·simp only[Z3,Wr] at *;exact Ue h1 h2
def srtS(ss:List Str):List Str:=ss.mergeSort Zbo
theorem srtS_perm(ss:List Str):(srtS ss).Perm ss:=List.mergeSort_perm _ _
theorem Ziy(ss:List Str):(srtS ss).Pairwise (fun a b=>Zbo a b=true):=by
 refine List.pairwise_mergeSort (fun a b c h1 h2 => ?_) (fun a b => ?_) ss
 ·simp only[Zbo,Wr] at *;exact List.le_trans h1 h2
 ·simp only[Zbo,VW,Wr];exact List.le_total _ _
theorem Zji{ss qs:List Str}(hp:qs.Perm ss)(hw:qs.Pairwise (fun a b=>Z3 a b=true)):qs=srtS ss:=by
 refine Uw (le:=fun a b=>Zbo a b=true) (fun a b _ _ h1 h2 => ?_) (hw.imp fun {a b} h => ?_) (Ziy ss) (hp.trans (srtS_perm ss).symm)
 ·simp only[Zbo,Wr] at h1 h2;exact ZeM (VI h1 h2)
 ·simp only[Zbo,Z3,Wr] at *;exact Vz.mp fun h2=>List.lt_irrefl _ (Ue h h2)
end
end SO
namespace DL
open PySem PySem.Spec PyProof.Rows L2 PySem.W SO
def ZbT:List D->Option (List Str)
 | []=>some []
 | .str x :: ds=>(ZbT ds).map (x :: ·)
 | _ :: _=>none
theorem ZfT:∀{ds:List D} {ss:List Str},ZbT ds=some ss->ds=ss.map D.str
 | [],ss,e=>by cases e; rfl
 | d :: ds,ss,e=>by
  unfold ZbT at e;split at e
  ·rename_i h; cases h
  ·rename_i x r h;cases h;obtain⟨qs,h1,rfl⟩:=QV.mp e;rw[ZfT h1]; rfl
  ·cases e
theorem Zf4:∀(ss:List Str),ZbT (ss.map D.str)=some ss
 | []=>rfl
 | x :: ss=>by
  show (ZbT (ss.map D.str)).map (x :: ·)=_;rw[Zf4 ss]; rfl
theorem ZgY:∀{vs:List P7} {ss:List Str},vs.length=ss.length->(∀(i:Nat) (v:P7) (x:Str),vs[i]?=some v->ss[i]?=some x->∃t,v = .str x t)->StrsAre vs ss
 | [],[],_,_ => .nil
 | [],_ :: _,h,_=>by cases h
 | _ :: _,[],h,_=>by cases h
 | v :: vs,x :: ss,h,k=>by
  obtain⟨t,rfl⟩:=k 0 v x rfl rfl;exact .cons x t (ZgY (by simpa using h) fun i v' x' h1 h2=>k (i+1) v' x' (by simpa using h1) (by simpa using h2))
section
variable{X:Cx}{EX:EXT}
theorem ZnS{pins:List (Addr×Obj)}{s:P1}{σ:L2.St}{H:Hp}{O:List Addr}{st:Sto}{Q:VK}{its:List P7}{ss:List Str}{ix:List Nat}{a:Addr}{h1 h':Heap}{tk c:Nat}(I:Inv X pins σ H s)(W:WR X.K O H st)(hs:StrsAre its ss)
  (R:Run X.K EX O H (.ok ((srtS ss).map D.str) st) (New X.K Q)) (hp:ix.Perm (List.range ss.length)) (hw:ix.Pairwise (fun i j=>Z3 (ss.getD i default) (ss.getD j default)=true)) (h64:ss.length<64)
  (k1:∀b o,s.heap.get? b=some o->h1.get? b=some o) (ha:h1.objs.size<=a) (hk:∀b o,h1.get? b=some o->h'.get? b=some o) (hg:h'.get? a=some (seqObj "list" (ix.map fun i=>its.getD i .none).toArray c)) :
  ∃v H',Inv X pins σ H' { s with heap:=h',toks:=tk }/\RelV v (.ref a)/\Q v H':=by
 have hl:=hs.length;have hix:ix.map (fun i=>ss.getD i default)=srtS ss:=by
  refine Zji ?_ (Vt.mpr hw);refine (hp.map (fun i=>ss.getD i default)).trans (Vb ?_);refine Q4 (by simp) fun i h1 h2 => ?_;simp[Yk,Yj h2]
 have hb:∀i∈ix,i<ss.length:=fun i hi=>by
  have:=hp.mem_iff.mp hi;simpa using this
 have I1:Inv X pins σ H { s with heap:=h1,toks:=tk }:=I.kept k1;refine⟨.ref a,upd H a (.lst (ix.map fun i=>V.str (ss.getD i default))),I1.laid hk ha ⟨?_,ix.map (fun i=>its.getD i .none),c,?_,hg⟩,rfl,?_⟩
 ·have h0:=hp.length_eq;simp only[Yr,Ws] at h0 ⊢;rw[Wd];omega
 ·refine Zgf ix fun i hi => ?_;have:=hb i hi;obtain⟨t,h3⟩:=hs.at (j:=i) (y:=ss.getD i default) (by rw[Yk,Yj this]; rfl);rw[Yk (l:=its),h3];exact⟨t,rfl⟩
 ·refine Run.now (k:=New X.K Q) R W a _ ?_ (I1.hok.fresh ha);rw[<-hix,Ql];exact Zgz ix fun i hi=>Rep.str_i.mpr rfl
end
end DL
end
section
namespace DL
open PySem PySem.Spec PyProof.Rows L2
section
variable{K:P3}{O:List Addr}{H:Hp}
def RPs(K:P3)(O:List Addr)(H:Hp):List (D×D)->List (V×V)->Prop
 | [],vs=>vs=[]
 | p :: ps,vs => ∃x y r,vs=(x,y) :: r/\Rep K O H p.1 x/\Rep K O H p.2 y/\RPs K O H ps r
theorem RPs.mono{O':List Addr}{H':Hp}(k:Keep K O H O' H'):∀{ps:List (D×D)} {vs:List (V×V)},RPs K O H ps vs->RPs K O' H' ps vs
 | [],vs,h=>h
 | p :: ps,vs,h=>by
  obtain⟨x,y,r,e,hx,hy,ht⟩:=(show ∃x y r,vs=(x,y) :: r/\Rep K O H p.1 x/\Rep K O H p.2 y/\RPs K O H ps r from h);exact⟨x,y,r,e,Rep.mono k _ _ hx,Rep.mono k _ _ hy,RPs.mono k ht⟩
end
section
variable{X:Cx}{EX:EXT}{e o i:Expr}{fo fi fe:DE}{pos apos cpos:Pos}
def Zb9(st:Sto)(d:D):Bool:=match d with
 | .res i=>match st[i]? with
  | some (.dct _)=>true
  | some (.dtt _)=>true
  | _=>false
 | _=>false
theorem ZsX{K:P3}{O:List Addr}{H:Hp}{st:Sto}{d:D}{x:V}(W:WR K O H st)(h:Zb9 st d=true)(r:Rep K O H d x):∃a,x = .ref a/\IsD H a:=by
 unfold Zb9 at h;split at h
 ·rename_i j;rw[Rep.res_i] at r;obtain⟨a,rfl,q⟩:=r;split at h
  ·rename_i ds e;obtain⟨vs,e2,_⟩:=W.at_ _ _ _ q e;exact⟨a,rfl,.inl ⟨vs,.inl e2⟩⟩
  ·rename_i ds e;obtain⟨vs,e2,_⟩:=W.at_ _ _ _ q e;exact⟨a,rfl,.inr ⟨vs,.inl e2⟩⟩
  ·cases h
 ·cases h
def ZfC(fo fi:DE):DE:=fun ρ st=>(fo ρ st).bind fun d st1=>if Zb9 st1 d=true then (fi ρ st1).bind fun k st2=>(match dAt st2 d k with
 | some o => .ok (o.getD .non) st2
 | none => .bad) else .bad
theorem ZsO(hu:X.A.units+64<cLine)(ho:PD X EX o fo)(hi:PD X EX i fi)(m:M1 X o "get" apos i cpos:=by exact⟨rfl,rfl,rfl,rfl⟩):PD X EX (.Call (.Attribute o "get" apos) [i] [] cpos) (ZfC fo fi):=by
 refine PE.mono (ZqN (by omega) ho hi m) ?_;rintro σ H Q ⟨O,ρ,st,W,E,R⟩;refine⟨O,ρ,st,W,E,R.bind.mono fun d st1 O1 H1 k1 W1 R1 x rx => ?_⟩;by_cases hd:Zb9 st1 d=true
 ·rw[Yg hd] at R1;obtain⟨a,rfl,ia⟩:=ZsX W1 hd rx;refine⟨a,rfl,ia,O1,ρ,st1,W1,E.mono k1,R1.bind.mono fun k st2 O2 H2 k2 W2 R2 y ry => ?_⟩;split at R2
  ·rename_i ov hv;obtain⟨a',w,e,g,rel⟩:=ZfQ W2 hv (Rep.mono k2 _ _ rx) ry;cases e;refine⟨w,g,?_⟩;cases ov with
   | none =>
    cases w with
    | none=>exact Run.now (k:=Val X.K Q) R2 W2 _ (Rep.non_i.mpr rfl)
    | some _=>exact rel.elim
   | some z =>
    cases w with
    | none=>exact rel.elim
    | some w=>exact Run.now (k:=Val X.K Q) R2 W2 _ rel
  ·exact R2.elim
 ·rw[Yh hd] at R1; exact R1.elim
end
section
variable{fo fi fe:DE}{ρ:Ev}{st:Sto}
theorem Zhb:ZfC fo fi ρ st=(fo ρ st).bind fun d st1=>if Zb9 st1 d=true then (fi ρ st1).bind fun k st2=>(match dAt st2 d k with
 | some o => .ok (o.getD .non) st2
 | none => .bad) else .bad:=rfl
end
end DL
end
section
end
section
end
section
namespace DL
open PySem PySem.Spec PyProof.Rows L2
section
variable{X:Cx}{pins:List (Addr×Obj)}{σ:L2.St}{H:Hp}{s:P1}{d:Addr}{o:Obj}{vs:List (Key×V)}
theorem Inv.thaw(I:Inv X pins σ H s)(e:H d=some (.frz o (.dK vs)))(hn:∀ob u,X.H₀ d≠some (.frz ob u)):Inv X pins σ (upd H d (.dK vs)) s:=by
 have ne:∀b,H b=none->b≠d:=fun b q z=>by subst z; rw[e] at q; cases q
 refine⟨I.ok,I.os,I.bare,⟨I.base.keep,I.base.slot,fun b ob q n hx => ?_,I.base.there,fun b xs q => ?_,fun b ob u q => ?_,fun b ps q => ?_⟩,I.loc,I.cell,?_,fun x c hx => ?_,fun p hp => ?_,fun b u q => ?_,I.len⟩
 ·have:=I.base.free b ob q n hx;rw[Zp (ne b this)]; exact this
 ·have h:=I.base.tups b xs q;rw[Zp]; exact h;rintro rfl; rw[e] at h; cases h
 ·have h:=I.base.frzs b ob u q;rw[Zp]; exact h;rintro rfl; exact hn _ _ q
 ·obtain⟨m,h⟩:=I.base.tbls b ps q;refine⟨m,?_⟩;rw[Zp]; exact h;rintro rfl; rw[e] at h; cases h
 ·have:=I.free;rw[Zp (ne _ this)]; exact this
 ·have:=I.freeC x c hx;rw[Zp (ne _ this)]; exact this
 ·obtain⟨p1,p2,p3⟩:=I.pin p hp;exact⟨p1,by rw[Zp (ne _ p2)]; exact p2,p3⟩
 ·have st:∀{b u},ObjOk X.prog X.w H s.heap b u->ObjOk X.prog X.w (upd H d (.dK vs)) s.heap b u:=fun x=>x.stay (fun b u _ q=>q) (fun c r=>by rw[Zp (fun z=>by rw[z,e] at r; cases r)]; exact r) fun c xs r=>by rw[Zp (fun z=>by rw[z,e] at r; cases r)]; exact r
  by_cases hb:b=d
  ·subst hb;rw[Zai] at q;cases q;exact st (I.hok b _ e).2
  ·rw[Zp hb] at q;exact st (I.hok b u q)
end
end DL
end
section
namespace DL
open PySem PySem.Spec PyProof.Rows L2
theorem Zf5(t:SetTable)(es:Array (Int×P7))(h:Int)(x:P7):(layNew t es h x).2.1.led=t.led/\((layNew t es h x).2.1.plain=true->t.plain=true):=by
 unfold layNew;cases t.freeSlot h with
 | none=>exact⟨rfl,fun z=>by cases z⟩
 | some p =>
  obtain⟨j,d⟩:=p;dsimp only;unfold SetTable.orStandIn;split
  ·exact⟨rfl,fun z=>z⟩
  ·exact⟨rfl,fun z=>by cases z⟩
theorem ZnF{mask finger moves:Nat}{led plain:Bool}{hs:Array Int}{t:SetTable}{o:Array Nat}(h:SetTable.laid mask finger moves led plain hs=some (t,o)):t.led=led/\t.plain=plain:=by
 unfold SetTable.laid at h;cases hc:SetTable.layClean mask hs with
 | none=>rw[hc] at h; cases h
 | some ow =>
  rw[hc] at h;have h':=Option.some.inj h;cases h';exact⟨rfl,rfl⟩
theorem Zhp(t:SetTable)(es:Array (Int×P7))(k:Nat):(relayAll t es k).2.1.led=t.led/\((relayAll t es k).2.1.plain=true->t.plain=true):=by
 unfold relayAll;cases hr:t.relaid (es.map (·.1)) k with
 | none=>exact⟨rfl,fun z=>by cases z⟩
 | some p =>
  obtain⟨t',o⟩:=p;obtain⟨h1,h2⟩:=ZnF hr;dsimp only;split
  ·exact⟨h1,fun z=>by rw[<-h2]; exact z⟩
  ·exact⟨rfl,fun z=>by cases z⟩
def byT(w:World):Bool:=w.params.followText "set-order"
structure TabT(w:World)(t:SetTable)(n:Nat):Prop where
 fits:t.fits n=true
 led:t.led = !byT w
 plain:t.plain=true->n=0
section
variable(prog:P5)(w:World)
def SetT(h:Heap)(a:Addr)(xs:List Str):Prop :=
 ∃o es ep t,h.get? a=some o/\o.ExactSet/\o.data = .set es ep t/\TabT w t es.size/\ElemsOf (strKind prog w) es.toList/\StrsAre (es.toList.map (·.2)) xs/\xs.Nodup/\es.size<scanBound
end
section
variable{prog:P5}{w:World}{A:P4}{E:P7->P1->Prop}{s:P1}{a:Addr}
theorem ZgH:∀{vs:List P7} {xs:List Str},StrsAre vs xs->∀x,x∈xs ↔ ∃v∈vs,(strKind prog w).is x v=true
 | _,_,.nil,x=>⟨(fun h=>by cases h),fun⟨v,h,_⟩=>by cases h⟩
 | _,_,.cons y t r,x=>by
  have ih:=ZgH r x;constructor
  ·intro h;rcases Yn.mp h with rfl | h
   ·exact⟨_,Yt,Ul _ _ _ _⟩
   ·obtain⟨v,h1,h2⟩:=ih.mp h;exact⟨v,Yl _ h1,h2⟩
  ·rintro⟨v,h1,h2⟩;rcases Yn.mp h1 with rfl | h1
   ·have e:x=y:=(strKind prog w).inj _ x y h2 (Ul _ _ _ _);rw[e];exact Yt
   ·exact Yl _ (ih.mpr ⟨v,h1,h2⟩)
theorem ZfX:∀{vs vs':List P7},vs.Perm vs'->∀{xs:List Str},StrsAre vs xs->∃xs',StrsAre vs' xs'/\xs.Perm xs':=by
 intro vs vs' p
 induction p with
 | nil=>intro xs h; exact⟨xs,h,.refl _⟩
 | cons v _ ih =>
  intro xs h;cases h with
  | cons x t r =>
   obtain⟨xs',h1,h2⟩:=ih r;exact⟨x :: xs',.cons x t h1,h2.cons x⟩
 | swap u v l =>
  intro xs h;cases h with
  | cons x t r =>
   cases r with
   | cons y t' r'=>exact⟨y :: x :: _,.cons y t' (.cons x t r'),.swap y x _⟩
 | trans _ _ ih1 ih2 =>
  intro xs h;obtain⟨ys,h1,h2⟩:=ih1 h;obtain⟨zs,h3,h4⟩:=ih2 h1;exact⟨zs,h3,h2.trans h4⟩
theorem strs_snoc:∀{vs:List P7} {xs:List Str},StrsAre vs xs->∀(x:Str) (t:Tok),StrsAre (vs++[.str x t]) (xs++[x])
 | _,_,.nil,x,t => .cons x t .nil
 | _,_,.cons y u r,x,t => .cons y u (strs_snoc r x t)
theorem ZjX{es es1:Array (Int×P7)}{ep:Nat}{t t2:SetTable}{o:Obj}{xs1:List Str}{wd:Bool}{g:Bool->Sem Unit}{R:Option Bool->P1->Prop}(hg:∀(b:Bool) (s₁:P1) (Q':Unit->P1->Prop),Q' () s₁->wpAny (model prog w) A (g b) Q' E s₁)
  (ho:s.heap.get? a=some o) (hx:o.ExactSet) (hd:o.data = .set es ep t) (hb:es1.size<scanBound) (hT:TabT w t2 es1.size) (hel:ElemsOf (strKind prog w) es1.toList) (hs:StrsAre (es1.toList.map (·.2)) xs1) (hn:xs1.Nodup)
  (h:∀h' xs',Heap.SameBut a s.heap h'->SetT prog w h' a xs'->xs1.Perm xs'->R (some true) { s with heap:=h' }) :
  wpAny (model prog w) A (do
    storeSet a es1 t2
    if (!wd && t2.tooFull)=true then do
      g (relayAll t2 es1 (SetTable.grown es1.size)).2.2
      storeSet a (relayAll t2 es1 (SetTable.grown es1.size)).1 (relayAll t2 es1 (SetTable.grown es1.size)).2.1
      pure (some true)
     else pure (some true)) R E s:=by
 refine Ya (QA ho hd ?_ (QZ hb));have o1:(s.heap.update a (Obj.putSet es1 t2)).get? a=some { o with data:=.set es1 (ep+1) t2 }:=by
  have q:=YL (Obj.putSet es1 t2) ho (by rw[Qm es1 t2 hd]; rfl);rwa[Qm es1 t2 hd] at q
 have b1:=YH s.heap a (Obj.putSet es1 t2);by_cases hc:(!wd && t2.tooFull)=true
 ·rw[Yg hc];have hp:=relayAll_perm t2 es1 (SetTable.grown es1.size);have hf:=relayAll_fits t2 es1 (SetTable.grown es1.size);have hl:=Zhp t2 es1 (SetTable.grown es1.size);generalize relayAll t2 es1 (SetTable.grown es1.size)=Rl at hp hf hl ⊢;obtain⟨es2,t3,gv⟩:=Rl;dsimp only at hp hf hl ⊢;have hz:es2.size=es1.size:=by simpa using hp.length_eq
  obtain⟨xs2,hs2,hpx⟩:=ZfX (hp.map (·.2)).symm hs;refine Ya (hg _ _ _ (Ya (QA (s:={ s with heap:=s.heap.update a (Obj.putSet es1 t2) }) o1 rfl ?_ (QZ (by rw[hz]; exact hb)))));have o2:((s.heap.update a (Obj.putSet es1 t2)).update a (Obj.putSet es2 t3)).get? a=some { o with data:=.set es2 (ep+1+1) t3 }:=by
   have q:=YL (Obj.putSet es2 t3) o1 (by rw[Qm es2 t3 rfl]; rfl);rwa[Qm es2 t3 rfl] at q
  exact Yb (h _ xs2 (b1.trans (YH _ a _)) ⟨_,es2,_,t3,o2,hx,rfl,⟨hf,by rw[hl.1]; exact hT.led,fun z=>by rw[hz]; exact hT.plain (hl.2 z)⟩,hel.perm hp,hs2,hpx.nodup_iff.mp hn,by rw[hz]; exact hb⟩ hpx)
 ·rw[Yh hc];exact Yb (h _ xs1 b1 ⟨_,es1,_,t2,o1,hx,rfl,hT,hel,hs,hn,hb⟩ (.refl _))
theorem Zmx{x:Str}{tk:Tok}{xs:List Str}{Q:Bool->P1->Prop}(hS:SetT prog w s.heap a xs)(hr:xs.length+1<scanBound)
  (h:∀h' xs' b,Heap.SameBut a s.heap h'->SetT prog w h' a xs'->(∀y,y∈xs' ↔ y∈xs\/y=x)->xs'.length<=xs.length+1->Q b { s with heap:=h' }) :
  wpAny (model prog w) A (setAddHashed a (.str x tk) ((strKind prog w).hash x)) Q E s:=by
 obtain⟨o,es,ep,t,ho,hx,hd,hT,hel,hs,hn,hb⟩:=id hS;have hsz:es.size=xs.length:=by
  have:=hs.length;simpa using this
 have hkey:(strKind prog w).is x (.str x tk)=true:=Ul _ _ _ _;have hsc:(Value.str x tk).scannable=true:=rfl;unfold setAddHashed setAddHashedIn;refine YM (Ya (YX ho hd hT.fits ?_));dsimp only;rw[byScan_of (knd:=strKind prog w) hsc hb hel,Yg rfl];unfold setAddByScan;refine Ya (Ya (Wg (Ya (wpAny_setScan_of (knd:=strKind prog w) hkey ho hd hT.fits hel ?_))));cases hf:es.toList.findIdx? (fun e=>(strKind prog w).is x e.2) with
 | some j =>
  dsimp only;obtain⟨hj,hp,_⟩:=VA.mp hf;have hm:x∈xs:=(ZgH hs x).mpr ⟨_,Y9.mpr ⟨_,QH hj,rfl⟩,hp⟩;refine Yb (Yb ?_);have e:s = { s with heap:=s.heap }:=by cases s; rfl
  rw[e];exact h s.heap xs false (Heap.SameBut.refl a s.heap) hS (fun y=>⟨.inl,fun z=>z.elim id fun z=>z ▸ hm⟩) (QT _)
 | none =>
  dsimp only;have hm:x ∉ xs:=fun hm=>by
   obtain⟨v,hv,q⟩:=(ZgH (prog:=prog) (w:=w) hs x).mp hm;obtain⟨e,he,rfl⟩:=Y9.mp hv;have:=Um.mp hf e he;rw[q] at this;cases this
  have hg:∀(b:Bool) {s₁:P1} {Q':Unit->P1->Prop},Q' () s₁->wpAny (model prog w) A (match b with | true=>rule "set.scan.the-table-gave-way" | false=>pure ()) Q' E s₁:=by
   intro b s₁ Q' hq;cases b
   ·exact Yb hq
   ·exact Wg hq
  have hp:=layNew_perm t es ((strKind prog w).hash x) (.str x tk);have hfit:=layNew_fits t es ((strKind prog w).hash x) (.str x tk);have hl:=Zf5 t es ((strKind prog w).hash x) (.str x tk);generalize layNew t es ((strKind prog w).hash x) (.str x tk)=Ln at hp hfit hl ⊢;obtain⟨es1,t1,wd,gv⟩:=Ln;dsimp only at hp hfit hl ⊢;rw[Qd] at hp;have hz:es1.size=es.size+1:=by simpa using hp.length_eq
  have hel1:ElemsOf (strKind prog w) es1.toList:=(hel.push hkey hsc).perm hp;have hs0:StrsAre ((es.toList++[((strKind prog w).hash x,Value.str x tk)]).map (·.2)) (xs++[x]):=by
   rw[V1];exact strs_snoc hs x tk
  obtain⟨xs1,hs1,hpx⟩:=ZfX (hp.map (·.2)).symm hs0;have hn1:xs1.Nodup:=hpx.nodup_iff.mp (Qy.mpr ⟨hn,by simp,fun u hu v hv=>by
   rw[Ys.mp hv];rintro rfl;exact hm hu⟩)
  have fin:∀h' xs',Heap.SameBut a s.heap h'->SetT prog w h' a xs'->xs1.Perm xs'->Q true { s with heap:=h' }:=fun h' xs' b1 b2 b3=>h h' xs' true b1 b2 (fun y=>by
   rw[<-(hpx.trans b3).mem_iff];simp) (by rw[<-(hpx.trans b3).length_eq]; simp)
  refine Ya (hg _ ?_);by_cases hpl:t1.plain=true
  ·rw[Yg hpl,hashByValue_scannable 8 hsc];refine Ya (Yb ?_);refine ZjX (t2:=if plainKind (Value.str x tk)=true then t1 else { t1 with plain:=false }) (fun b s₁ Q' hq=>by cases b <;> first | exact Yb hq | exact Wg hq) ho hx hd (by omega) ?_ hel1 hs1 hn1 fun h' xs' b1 b2 b3=>Yb (fin h' xs' b1 b2 b3);rw[Yh (show ¬ plainKind (Value.str x tk)=true from fun z=>by cases z)];exact⟨SetTable.fits_plain_off hfit,by rw[<-hT.led]; exact hl.1,fun z=>by cases z⟩
  ·rw[Yh hpl];refine Ya (Yb ?_);simp only[Qb];exact ZjX (fun b s₁ Q' hq=>by cases b <;> first | exact Yb hq | exact Wg hq) ho hx hd (by omega) ⟨hfit,by rw[<-hT.led]; exact hl.1,fun z=>absurd z hpl⟩ hel1 hs1 hn1 fun h' xs' b1 b2 b3=>Yb (fin h' xs' b1 b2 b3)
theorem Zsc{I:Addr}{fp wr:List Addr}{G:Array GenState->Array GenState->Prop}{n:Nat}{P:Nat->P7->Prop}{St:Nat->P1->Prop}{R:Result->P1->Prop}(W:WalksS prog w A.in1 I fp wr G n P St){a:Addr}(ha:a ∉ fp)(val:Nat->Str)(hv:∀i v,P i v->∃t,v = .str (val i) t)(hn:n+1<scanBound)
  : ∀(k i:Nat) (s:P1) (xs:List Str),n - i=k->i<=n->St i s->SetT prog w s.heap a xs->(∀y,y∈xs ↔ ∃j,j<i/\y=val j)->xs.length<=i ->
   (∀s' xs',Moved (a :: wr) G s s'->SetT prog w s'.heap a xs'->(∀y,y∈xs' ↔ ∃j,j<n/\y=val j)->R (.ok (.ret .none)) s') ->
   codeAny (model prog w) A (.builtin "set.update.loop" ⟨[.ref a,.ref I],[]⟩) R s:=by
 have haw:a ∉ wr:=fun z=>ha (W.sub _ z);have sub:∀b∈wr,b∈a :: wr:=fun b z=>Yl _ z;have keepS:∀{s s':P1} {xs:List Str},Moved wr G s s'->SetT prog w s.heap a xs->SetT prog w s'.heap a xs:=by
  rintro s s' xs m ⟨o,es,ep,t,ho,r⟩;exact⟨o,es,ep,t,m.heap a o haw ho,r⟩
 intro k
 induction k with
 | zero =>
  intro i s xs hk hi hst hS hm _ hR;obtain rfl:i=n:=by omega
  refine WU WK ?_;rw[WO Y6 _];show wpAny _ A.in1 (pyNext (.ref I) >>= _) _ _ s;exact Ya (W.done s _ _ hst fun s' m=>Yb (hR s' xs (m.mono sub) (keepS m hS) hm))
 | succ k ih =>
  intro i s xs hk hi hst hS hm hl hR;have hlt:i<n:=by omega
  refine WU WK ?_;rw[WO Y6 _];show wpAny _ A.in1 (pyNext (.ref I) >>= _) _ _ s;refine Ya (W.item i s _ _ hlt hst fun v s1 hP hst1 m1 => ?_);obtain⟨t,rfl⟩:=hv i v hP;show wpAny _ A.in1 (holding [Value.str (val i) t] (setAdd a (.str (val i) t)) >>= _) _ _ s1;refine Ya (YM ?_);unfold setAdd;refine YM (Ya ((strKind prog w).pyHash (k:=val i) (Ul _ _ _ _) ?_));refine Zmx (s:={ s1 with toks:=s1.toks+1 }) (show SetT prog w s1.heap a xs from keepS m1 hS) (by omega) fun h' xs' _ b1 b2 b3 b4 => ?_;refine Yb ⟨VC Y6 _,ih (i+1) _ xs' (by omega) hlt (W.frame _ s1 _ _ hst1 (QT _) fun b hb o e => ?_) b2 (fun y => ?_) (by omega) fun s2 xs2 m2 c1 c2 => ?_⟩
  ·rw[b1.2 b fun z=>ha (by rw[<-z]; exact hb)];exact e
  ·rw[b3,hm];constructor
   ·rintro (⟨j,h1,h2⟩ | h)
    ·exact⟨j,by omega,h2⟩
    ·exact⟨i,by omega,h⟩
   ·rintro⟨j,h1,h2⟩;by_cases hj:j<i
    ·exact .inl ⟨j,hj,h2⟩
    ·have:j=i:=by omega
     exact .inr (by rw[h2,this])
  ·refine hR s2 xs2 (Moved.trans W.gtrans ((m1.mono sub).then_heap (QT _) fun b o hb e => ?_) m2) c1 c2;rw[b1.2 b fun z=>hb (by rw[z]; exact Yt)];exact e
theorem ZiN(v:P7){Q₁:P7->P1->Prop}(h:Q₁ (.ref s.heap.objs.size) { s with heap:=s.heap.push { cls:=.type "set",dict:=none,data:=.set #[] 0 (.fresh 0 0 (!byT w)) } }) :
  codeAny (model prog w) A (.call (.builtin "set.__new__") ⟨[.type "set",v],[]⟩) (wants Q₁ E) s:=by
 refine codeAny_of_tree ?_;show wpAny _ A.in1 (do checkBuiltinCall "set.__new__" ⟨[.type "set",v],[]⟩; again (.builtin "set.__new__" ⟨[.type "set",v],[]⟩)) _ _ s;refine Ya (V9 (PySem.F.newCall_set_1 v) (Yb ⟨VC PySem.F.plain_set_new _,?_⟩));refine WU PySem.F.entry_set_new ?_;rw[WO PySem.F.plain_set_new _];unfold Builtin.«set.__new__» Builtin.Frozenset.newClass;have hsub:=sub_set_self;obtain⟨hp,g,d,tk,os⟩:=s;dsimp only
 wp_walk
 refine Ux (Yb ?_);dsimp only;simp only[newObj];exact Ya (wpAny_alloc (Yb (Yb h)))
end
end DL
end
section
namespace DL
open PySem PySem.Spec PyProof.Rows L2
section
variable{prog:P5}{w:World}{A:P4}{E:P7->P1->Prop}{s:P1}{a:Addr}
theorem ZpM{l:Addr}{items:Array P7}{ss:List Str}{Q:P7->P1->Prop}(hh:A.handled=none)(hl:s.heap.IsList l items)(hi:StrsAre items.toList ss)(hb:items.size+1<scanBound)
  (h:∀(h':Heap) (tk:Nat) (xs:List Str),SetT prog w h' s.heap.objs.size xs->(∀y,y∈xs ↔ y∈ss)->(∀b o,b<s.heap.objs.size->s.heap.get? b=some o->h'.get? b=some o)->Q (.ref s.heap.objs.size) { s with heap:=h',toks:=tk }) :
  wpAny (model prog w) A (call (.type "set") [.ref l]) Q E s:=by
 obtain⟨c,tl,hmro⟩:=YR.mro;have hmade:=YR.made;have hsub:=YR.sub;have h1:=YR.notType;have h2:=YR.canCreate;have hct:=PySem.F.typeCall_set_1 (.ref l);obtain⟨O,hO⟩:∃O:Obj,O = { cls:=.type "set",dict:=none,data:=.set #[] 0 (.fresh 0 0 (!byT w)) }:=⟨_,rfl⟩;have hnew:codeAny (model prog w) A.in1 (.call (.builtin "set.__new__") ⟨[.type "set",.ref l],[]⟩) (wants (fun obj s1=>obj = .ref s.heap.objs.size/\s1 = { s with heap:=s.heap.push O }) E) s:=ZiN (.ref l) ⟨rfl,by rw[hO]⟩;refine wpAny_call (codeAny_of_tree ?_);show wpAny _ _ (callAny (.type "set") _) _ _ _;refine Yb ⟨Code.quiet_builtin _ (by decide +kernel),WU PySem.F.entry_type_call ?_⟩;rw[Around.under_plain (weight_type_call_type "set" [.ref l] []) rfl]
 repeat (any_goals (first | assumption | wp_step))
 refine QE hnew fun r s1 hr => ?_;cases r with
 | error e=>exact hr
 | ok fl =>
  cases fl with
  | ret obj =>
   obtain⟨rfl,rfl⟩:=hr;have hS:(s.heap.push O).get? s.heap.objs.size=some O:=Yq _ (by rw[hO]; rfl);have hT:Shared.TypeIs { s with heap:=s.heap.push O } (.ref s.heap.objs.size) "set":=⟨_,hS,by rw[hO]⟩;have hli:=YR.init.lookup;have hbi:=YR.init.bind (.ref s.heap.objs.size)
   repeat (any_goals (first | assumption | wp_step))
   have hbody:wpAny (model prog w) A.in1.in1 (Builtin.«set.__init__» ⟨[.ref s.heap.objs.size,.ref l],[]⟩) (fun fin s'=>match fin with
     | .done f=>wants (fun r s2=>r = .none/\∃h' tk xs,s2 = { s with heap:=h',toks:=tk }/\SetT prog w h' s.heap.objs.size xs/\(∀y,y∈xs ↔ y∈ss)/\∀b o,b<s.heap.objs.size->s.heap.get? b=some o->h'.get? b=some o) E (.ok f) s'
     | .again c'=>c'.quiet=true/\codeAny (model prog w) A.in1 c' (wants (fun r s2=>r = .none/\∃h' tk xs,s2 = { s with heap:=h',toks:=tk }/\SetT prog w h' s.heap.objs.size xs/\(∀y,y∈xs ↔ y∈ss)/\∀b o,b<s.heap.objs.size->s.heap.get? b=some o->h'.get? b=some o) E) s')
     (fun e s'=>wants (fun r s2=>r = .none/\∃h' tk xs,s2 = { s with heap:=h',toks:=tk }/\SetT prog w h' s.heap.objs.size xs/\(∀y,y∈xs ↔ y∈ss)/\∀b o,b<s.heap.objs.size->s.heap.get? b=some o->h'.get? b=some o) E (.error e) s') { s with heap:=s.heap.push O }:=by
    obtain⟨ol,hol,hcl,nl,hdl⟩:=hl;obtain⟨ocls,odict,odata,oslots⟩:=ol;simp only at hcl hdl;subst hcl hdl hO;obtain⟨H1,hH1⟩:∃H1,H1=s.heap.push { cls:=.type "set",dict:=none,data:=.set #[] 0 (.fresh 0 0 (!byT w)) }:=⟨_,rfl⟩;rw[<-hH1] at hS hT ⊢;have hsz1:H1.objs.size=s.heap.objs.size+1:=by rw[hH1,WM]
    have hlS:l<s.heap.objs.size:=Ym hol;have hol':H1.get? l=some { cls:=.type "list",dict:=odict,data:=.seq items nl,slots:=oslots }:=by rw[hH1]; exact Ye _ hol
    have hl1:H1.IsList l items:=⟨_,hol',rfl,nl,rfl⟩;have hk1:∀b o,s.heap.get? b=some o->H1.get? b=some o:=fun b o e=>by rw[hH1]; exact Ye _ e
    have hsls:=PySem.F.sub_list_set;have hslf:=Ug;have hne:(Value.type "list" == Value.type "dict")=false:=by decide
    unfold Builtin.«set.__init__» noKeywords Builtin.Frozenset.updateFrom;generalize hPI:pyIter=PI
    wp_walk
    subst hPI;refine Vs hl1 (Ya (wpAny_runValue ?_));have hh3:A.in1.in1.in1.handled=none:=by simp[hh]
    have hI:l≠H1.objs.size:=Yx (by rw[hsz1]; exact Q0 hlS);have hf:s.heap.objs.size ∉ [H1.objs.size,l]:=by
     simp only[Yn,YS,WL,Uy];exact⟨Yx (by rw[hsz1]; exact Qg _),QD hlS⟩
    have hv:∀(i:Nat) (v:P7),items[i]?=some v->∃t,v = .str (ss.getD i "") t:=fun i v e=>by
     obtain⟨y,t,e1,e2⟩:=StrsAre.item hi i v (by rw[YG]; exact e);exact⟨t,by rw[e1,Yk,e2]; rfl⟩
    have hlen:ss.length=items.size:=by
     have:=hi.length;simpa using this.symm
    refine Zsc ((Walks.list hh3 _ l hI items).toS) hf (fun i=>ss.getD i "") hv hb (items.size - 0) 0 _ [] (by omega) (YV _) ⟨⟨_,Yq _ rfl,rfl,rfl⟩,hl1.push _⟩ ?_ (fun y=>⟨(fun z=>by cases z),fun⟨j,z,_⟩=>by omega⟩) (Yi _) fun s' xs m hS' hm => ?_
    ·exact⟨_,#[],0,_,Ye _ hS,⟨rfl,rfl,rfl⟩,rfl,⟨by rfl,rfl,fun _=>rfl⟩,fun e he=>by simp at he,.nil,Q2,by decide⟩
    ·obtain⟨h',g',d',tk',os'⟩:=s';have eg:g'=s.gens:=m.gens;have ed:d'=s.drawn:=m.drawn;have eo:os'=s.os:=m.os;subst eg ed eo;show wpAny _ _ _ _ _ _;refine Yb ?_;show wpAny _ _ (ret Value.none) _ _ _;refine Yb ⟨rfl,h',tk',xs,rfl,hS',fun y => ?_,fun b o hb' e => ?_⟩
     ·rw[hm];constructor
      ·rintro⟨j,hj,rfl⟩;rw[Yk,Yj (by omega)];exact QH _
      ·intro hy;obtain⟨j,hj,rfl⟩:=QK hy;exact⟨j,by omega,by rw[Yk,Yj hj]; rfl⟩
     ·refine m.heap b o ?_ (Ye _ (hk1 b o e));simp only[Yn,YS,WL,Uy];exact⟨Yx hb',Yx (by rw[hsz1]; exact Q0 hb')⟩
   refine QE (codeAny_call_builtin YR.init.plain PySem.F.entry_set_init (check_set_init_1 hT hbody)) fun r2 s2 hr2 => ?_;cases r2 with
   | error e=>exact hr2
   | ok fl2 =>
    cases fl2 with
    | ret r =>
     obtain⟨rfl,h',tk,xs,rfl,g1,g2,g3⟩:=hr2
     repeat (any_goals (first | assumption | wp_step))
     exact h _ _ xs g1 g2 g3
    | _=>exact hr2.elim
  | _=>exact hr.elim
end
end DL
end
section
namespace DL
open PySem PySem.Spec PyProof.Rows L2
namespace SF
theorem slotN:Slot "set_iterator" "__next__" "set_iterator.__next__" :=
 .of (owner:="set_iterator") (n:="__next__") (by rw[typeLookup_type,builtinLookup_eq_fast]; kernel_rfl) (by decide +kernel) (by decide +kernel)
  (by decide +kernel) (by first | exact .inl (by decide +kernel) | exact .inr (by decide +kernel)) (by rw[V6]; kernel_rfl)
theorem entryN:entryFor table "set_iterator.__next__" = some Builtin.«set_iterator.__next__»:=entryFor_of_tree (by kernel_rfl)
theorem Zho:Manifest.owners.lookup (String.ofList ['r','o','t','a','r','e','t','i','_','t','e','s'].reverse)=some Manifest.sig_set_iterator:=by kernel_rfl
theorem argsN(v:P7):argsOk "set_iterator.__next__" ⟨[v],[]⟩:=by
 unfold argsOk;rw[signature?_of (id:="set_iterator.__next__") (n:=['_','_','t','x','e','n','_','_']) (o:=['r','o','t','a','r','e','t','i','_','t','e','s']) (by kernel_rfl) Zho]
 kernel_rfl
theorem entryI:entryFor table "set.__iter__" = some Builtin.«frozenset.__iter__»:=entryFor_alias (id':="frozenset.__iter__") (by kernel_rfl) rfl (by decide +kernel) (by kernel_rfl)
end SF
theorem ZsK{M:Model}{A:P4}{E:P7->P1->Prop}{s:P1}{src:Source}{n:Nat}{Q:Nat->P1->Prop}(hn:n≠0)(h:∀i d,i<n->Q i { s with drawn:=d }):wpAny M A (choose src n) Q E s :=
 fun _ _ _=>⟨hn,h _ _ (V2 _ (Nat.pos_of_ne_zero hn))⟩
theorem ZfV{α:Type}:∀(xs:List α) (i:Nat) (h:i<xs.length),(xs[i] :: xs.eraseIdx i).Perm xs
 | x :: xs,0,_ => .refl _
 | x :: xs,i+1,h=>by
  have hi:i<xs.length:=by simpa using h
  have ih:=ZfV xs i hi;show (xs[i]'hi :: x :: xs.eraseIdx i).Perm (x :: xs);exact (List.Perm.swap _ _ _).trans (ih.cons x)
theorem Zib{α:Type}{M:Model}{A:P4}{E:P7->P1->Prop}:∀(n:Nat) (xs:List α) (s:P1) {Q:List α->P1->Prop},xs.length=n->(∀ys d,ys.Perm xs->Q ys { s with drawn:=d })->wpAny M A (drawOrder n xs) Q E s
 | 0,xs,s,Q,hl,h=>by
  have e:xs=[]:=Wm.mp hl;subst e;have e2:s = { s with drawn:=s.drawn }:=by cases s; rfl
  unfold drawOrder;refine Yb ?_;rw[e2];exact h [] _ (.refl _)
 | n+1,[],s,Q,hl,h=>by cases hl
 | n+1,x :: xs,s,Q,hl,h=>by
  unfold drawOrder;refine Ya (ZsK (by simp) fun i d hi => ?_);rw[Yj hi];dsimp only;refine Ya (Zib n ((x :: xs).eraseIdx i) _ (by rw[Uh hi,hl]; rfl) fun ys d' p=>Yb ?_);refine h _ d' ((p.cons _).trans ?_);exact ZfV _ i hi
theorem ZjV{α:Type}(next:Nat->Nat):∀(f k:Nat) (left:List α) (out:Array α),left.length=f->(pickOrder.go next f k left out).toList.Perm (out.toList++left)
 | 0,k,left,out,hl=>by
  have e:left=[]:=Wm.mp hl;subst e;unfold pickOrder.go;rw[Wo]
 | f+1,k,left,out,hl=>by
  have hi:next k % left.length<left.length:=V2 _ (by omega);unfold pickOrder.go;rw[Yj hi];dsimp only;refine (ZjV next f (k+1) _ _ (by rw[Uh hi,hl]; rfl)).trans ?_;rw[Qd,Wi];exact (ZfV left _ hi).append_left _
theorem Zr5{α:Type}(next:Nat->Nat)(xs:Array α):(pickOrder next xs).toList.Perm xs.toList:=by
 unfold pickOrder;have:=ZjV next xs.size 0 xs.toList #[] (by simp);simpa using this
section
variable{prog:P5}{w:World}{A:P4}{E:P7->P1->Prop}{s:P1}{a:Addr}
theorem Zea{Q:Bool->P1->Prop}(h:Q (byT w) s):wpAny (model prog w) A setsByText Q E s:=by
 unfold setsByText;exact Ya (Ux (Yb h))
structure ItS(h:Heap)(I a:Addr)(o:Obj)(n ep:Nat)(first:P7)(i:Nat):Prop where
 it:∃oI,h.get? I=some oI/\oI.cls = .type "set_iterator"/\oI.data = .fields #[first,.int i 0,.ref a,.int n 0,.int ep 0]
 st:h.get? a=some o
theorem ItS.typeIs{o:Obj}{n ep i:Nat}{first:P7}{I:Addr}(x:ItS s.heap I a o n ep first i):s.TypeIs (.ref I) "set_iterator":=by
 obtain⟨⟨oI,h1,h2,_⟩,_⟩:=x;exact⟨oI,h1,h2⟩
theorem ZfF{α:Type}{Q':α->P1->Prop}{E':P7->P1->Prop}(hh:A.handled=none)(h:∀o1 o2:Obj,o2.cls = .type "StopIteration"->((s.heap.push o1).push o2).get? (s.heap.push o1).objs.size=some o2->E' (.ref (s.heap.push o1).objs.size) { s with heap:=(s.heap.push o1).push o2 }) :
  wpAny (model prog w) A.in1 (newExc (.type "StopIteration") [] >>= fun e=>(raiseNew e:Sem α)) Q' E' s:=by
 refine Ya ?_;simp only[newExc,newTuple];refine Ya (Y3 ?_ (by size_fits));refine Ya (m:=firstArgMember _ _) (V9 (a:=Value.none) (by first | rfl | (simp only[firstArgMember]; rfl)) ?_);refine Y3 ?_ (by size_fits);simp only[raiseNew];refine Ya (wpAny_handled ?_);rw[show A.in1.handled=none from hh];refine Ya (Yb (wpAny_throw ?_));exact h _ _ rfl (Yq _ rfl)
theorem next_item{I:Addr}{o:Obj}{es:Array (Int×P7)}{ep i:Nat}{t:SetTable}{first first' x:P7}{Q:Option P7->P1->Prop}(X:ItS s.heap I a o es.size ep first i)(hd:o.data = .set es ep t)(hf:t.fits es.size=true)(hIa:I≠a)
  (hstep:(∃(slot j:Nat),first = .int slot 0/\first' = .int j 0/\∀(A:P4) (E:P7->P1->Prop) (Q:Option (P7×Nat)->P1->Prop),Q (some (x,j)) s->wpAny (model prog w) A (setNext a slot i ep) Q E s) \/
   (∃(T:Addr) (oT:Obj) (ps:Array P7) (m place:Nat) (hx:Int),first = .ref T/\first' = .ref T/\s.heap.get? T=some oT/\oT.data = .seq ps m/\ps[i]?=some (.int place 0)/\es[place]?=some (hx,x)))
  (h:∀h',Heap.SameBut I s.heap h'->ItS h' I a o es.size ep first' (i+1)->Q (some x) { s with heap:=h' }) :
  wpAny (model prog w) A (pyNext (.ref I)) Q E s:=by
 obtain⟨⟨oI,hI,hc,hdI⟩,ha⟩:=id X;have fin:∀{h':Heap},Heap.SameBut I s.heap h'->h'.get? I=some { oI with data:=.fields #[first',.int ((i:Int)+1) 0,.ref a,.int es.size 0,.int ep 0] }->ItS h' I a o es.size ep first' (i+1):=by
  intro h' sb e;exact⟨⟨_,e,hc,rfl⟩,(sb.2 a (Y7 hIa)).trans ha⟩
 unfold pyNext;refine Ya (VB (Wl (name:=Str.ofString "__next__") X.typeIs SF.slotN (YU SF.slotN X.typeIs SF.entryN ?_ (SF.argsN _))));unfold Builtin.«set_iterator.__next__»;refine Ya (Yb (Ya (V7 hI hdI ?_)));dsimp only;refine Ya (V5 ha hd hf ?_);rw[Yh (by simp)];rcases hstep with⟨slot,j,rfl,rfl,hn⟩ | ⟨T,oT,ps,m,place,hx,rfl,rfl,hT,hdT,hp,he⟩
 ·dsimp only;simp only[Wq];refine Ya (hn _ _ _ ?_);dsimp only;refine Ya (WN hI hdI (by simp) ?_);have h1:=YL (Obj.mapFields (·.setIfInBounds 0 (rawInt (j:Int)))) hI (W6 (Y5 hdI _));have d1:=Y5 hdI (·.setIfInBounds 0 (rawInt (j:Int)));refine Ya (WN (s:={ s with heap:=s.heap.update I (Obj.mapFields (·.setIfInBounds 0 (rawInt (j:Int)))) }) h1 d1 (by simp) ?_);have h2:=YL (Obj.mapFields (·.setIfInBounds 1 (rawInt ((i:Int)+1)))) h1 (W6 (Y5 d1 _));have d2:=Y5 d1 (·.setIfInBounds 1 (rawInt ((i:Int)+1)));have sb:=(YH s.heap I (Obj.mapFields (·.setIfInBounds 0 (rawInt (j:Int))))).trans (YH _ I (Obj.mapFields (·.setIfInBounds 1 (rawInt ((i:Int)+1)))));refine Yb ⟨_,rfl,Yb (h _ sb ⟨⟨_,h2,?_,?_⟩,(sb.2 a (Y7 hIa)).trans ha⟩)⟩
  ·rw[QY,QY]; exact hc
  ·rw[d2]; simp[rawInt]
 ·dsimp only;simp only[Wq];unfold seqItems?;dsimp only;refine Ya (Ya (wpAny_load hT ?_));rw[hdT];refine Yb ?_;dsimp only;rw[hp];dsimp only;simp only[Wq];unfold setNextDrawn;refine Ya (Ya (YX ha hd hf ?_));dsimp only;rw[Yh (by simp)];rw[he];refine Yb ?_;refine Ya (WN hI hdI (by simp) ?_);have h2:=YL (Obj.mapFields (·.setIfInBounds 1 (rawInt ((i:Int)+1)))) hI (W6 (Y5 hdI _));have d2:=Y5 hdI (·.setIfInBounds 1 (rawInt ((i:Int)+1)));have sb:=YH s.heap I (Obj.mapFields (·.setIfInBounds 1 (rawInt ((i:Int)+1))));refine Yb ⟨_,rfl,Yb (h _ sb ⟨⟨_,h2,?_,?_⟩,(sb.2 a (Y7 hIa)).trans ha⟩)⟩
  ·rw[QY]; exact hc
  ·rw[d2]; simp[rawInt]
theorem next_end{I:Addr}{o:Obj}{es:Array (Int×P7)}{ep i:Nat}{t:SetTable}{first:P7}{Q:Option P7->P1->Prop}(hh:A.handled=none)(X:ItS s.heap I a o es.size ep first i)(hd:o.data = .set es ep t)(hf:t.fits es.size=true)
  (hstep:(∃(slot:Nat),first = .int slot 0/\∀(A:P4) (E:P7->P1->Prop) (Q:Option (P7×Nat)->P1->Prop),Q none s->wpAny (model prog w) A (setNext a slot i ep) Q E s) \/
   (∃(T:Addr) (oT:Obj) (ps:Array P7) (m:Nat),first = .ref T/\s.heap.get? T=some oT/\oT.data = .seq ps m/\ps[i]?=none))
  (h:∀h',Heap.ExtBut I s.heap h'->Q none { s with heap:=h' }) :
  wpAny (model prog w) A (pyNext (.ref I)) Q E s:=by
 obtain⟨⟨oI,hI,hc,hdI⟩,ha⟩:=id X;unfold pyNext;refine Ya (VB (Wl (name:=Str.ofString "__next__") X.typeIs SF.slotN (YU SF.slotN X.typeIs SF.entryN ?_ (SF.argsN _))));unfold Builtin.«set_iterator.__next__»;refine Ya (Yb (Ya (V7 hI hdI ?_)));dsimp only;refine Ya (V5 ha hd hf ?_);rw[Yh (by simp)];rcases hstep with⟨slot,rfl,hn⟩ | ⟨T,oT,ps,m,rfl,hT,hdT,hp⟩
 ·dsimp only;simp only[Wq];refine Ya (hn _ _ _ ?_);dsimp only;refine Ya (WN hI hdI (by simp) ?_);refine ZfF (s:={ s with heap:=s.heap.update I (Obj.mapFields (·.setIfInBounds 2 Value.none)) }) hh fun o1 o2 c2 g2 => ?_;refine Ya (Q5 (T:="StopIteration") (b:=true) ⟨_,g2,c2⟩ isSubtype_stop ?_);exact Yb (h _ (((YH ..).extBut.push _).push _))
 ·dsimp only;simp only[Wq];unfold seqItems?;dsimp only;refine Ya (Ya (wpAny_load hT ?_));rw[hdT];refine Yb ?_;dsimp only;rw[hp];dsimp only;refine Ya (WN hI hdI (by simp) ?_);have h1:=YL (Obj.mapFields (·.setIfInBounds 0 (rawInt 0))) hI (W6 (Y5 hdI _));have d1:=Y5 hdI (·.setIfInBounds 0 (rawInt 0));refine Ya (WN (s:={ s with heap:=s.heap.update I (Obj.mapFields (·.setIfInBounds 0 (rawInt 0))) }) h1 d1 (by simp) ?_);refine ZfF (s:={ s with heap:=(s.heap.update I (Obj.mapFields (·.setIfInBounds 0 (rawInt 0)))).update I (Obj.mapFields (·.setIfInBounds 2 Value.none)) }) hh fun o1 o2 c2 g2 => ?_;refine Ya (Q5 (T:="StopIteration") (b:=true) ⟨_,g2,c2⟩ isSubtype_stop ?_);exact Yb (h _ ((((YH ..).trans (YH ..)).extBut.push _).push _))
end
end DL
end
section
namespace DL
open PySem PySem.Spec PyProof.Rows L2
namespace SF
theorem slotJ:Slot "set_iterator" "__iter__" "set_iterator.__iter__" :=
 .of (owner:="set_iterator") (n:="__iter__") (by rw[typeLookup_type,builtinLookup_eq_fast]; kernel_rfl) (by decide +kernel) (by decide +kernel)
  (by decide +kernel) (by first | exact .inl (by decide +kernel) | exact .inr (by decide +kernel)) (by rw[V6]; kernel_rfl)
theorem entryJ:entryFor table "set_iterator.__iter__" = some Builtin.«dict_keyiterator.__iter__»:=entryFor_alias (id':="dict_keyiterator.__iter__") (by kernel_rfl) rfl (by decide +kernel) (by kernel_rfl)
theorem argsJ(v:P7):argsOk "set_iterator.__iter__" ⟨[v],[]⟩:=by
 unfold argsOk;rw[signature?_of (id:="set_iterator.__iter__") (n:=['_','_','r','e','t','i','_','_']) (o:=['r','o','t','a','r','e','t','i','_','t','e','s']) (by kernel_rfl) Zho]
 kernel_rfl
end SF
section
variable{prog:P5}{w:World}{A:P4}{E:P7->P1->Prop}{s:P1}{a:Addr}
def Zql(prog:P5)(w:World)(s:P1)(a:Addr)(es:Array (Int×P7))(ep i:Nat)(first first' x:P7):Prop :=
 (∃(slot j:Nat),first = .int slot 0/\first' = .int j 0/\∀(A:P4) (E:P7->P1->Prop) (Q:Option (P7×Nat)->P1->Prop),Q (some (x,j)) s->wpAny (model prog w) A (setNext a slot i ep) Q E s) \/
   (∃(T:Addr) (oT:Obj) (ps:Array P7) (m place:Nat) (hx:Int),first = .ref T/\first' = .ref T/\s.heap.get? T=some oT/\oT.data = .seq ps m/\ps[i]?=some (.int place 0)/\es[place]?=some (hx,x))
def Zsi(prog:P5)(w:World)(s:P1)(a:Addr)(ep i:Nat)(first:P7):Prop :=
 (∃(slot:Nat),first = .int slot 0/\∀(A:P4) (E:P7->P1->Prop) (Q:Option (P7×Nat)->P1->Prop),Q none s->wpAny (model prog w) A (setNext a slot i ep) Q E s) \/
   (∃(T:Addr) (oT:Obj) (ps:Array P7) (m:Nat),first = .ref T/\s.heap.get? T=some oT/\oT.data = .seq ps m/\ps[i]?=none)
theorem Zgb{I:Addr}{o:Obj}{es:Array (Int×P7)}{ep:Nat}{t:SetTable}{fp:List Addr}{P:Nat->P7->Prop}{F:Nat->P7->Heap->Prop}(hh:A.handled=none)(hd:o.data = .set es ep t)(hf:t.fits es.size=true)(hIa:I≠a)(hI:I∈fp)(ha:a∈fp)
  (hF:∀i f h h',F i f h->(∀b∈fp,b≠I->∀o,h.get? b=some o->h'.get? b=some o)->F i f h')
  (hs:∀i (s:P1) f,i<es.size->s.heap.get? a=some o->F i f s.heap->∃x f',P i x/\Zql prog w s a es ep i f f' x/\F (i+1) f' s.heap)
  (he:∀(s:P1) f,s.heap.get? a=some o->F es.size f s.heap->Zsi prog w s a ep es.size f) :
  WalksS prog w A I fp [I] (fun x y=>y=x) es.size P (fun i s => ∃f,ItS s.heap I a o es.size ep f i/\F i f s.heap) where
 sub:=fun b hb=>by rw[Ys.mp hb]; exact hI
 grefl:=fun _=>rfl
 gtrans:=fun _ _ _ h1 h2=>h2.trans h1
 frame:=fun i s h' tk st _ hk=>by
  obtain⟨f,X,hf'⟩:=st;obtain⟨⟨oI,h1,h2,h3⟩,h4⟩:=X;exact⟨f,⟨⟨oI,hk I hI _ h1,h2,h3⟩,hk a ha _ h4⟩,hF _ _ _ _ hf' fun b hb _ o e=>hk b hb o e⟩
 item:=fun i s Q E hi st hQ=>by
  obtain⟨f,X,hf'⟩:=st;obtain⟨x,f',hP,hst,hn⟩:=hs i s f hi X.st hf';refine next_item X hd hf hIa hst fun h' sb X'=>hQ x _ hP ⟨f',X',hF _ _ _ _ hn fun b _ hb o e=>(sb.2 b hb).trans e⟩ ⟨fun b o hb e => ?_,rfl,rfl,rfl,Yi _⟩;exact (sb.2 b fun z=>hb (Ys.mpr z)).trans e
 done:=fun s Q E st hQ=>by
  obtain⟨f,X,hf'⟩:=st;refine next_end hh X hd hf (he s f X.st hf') fun h' xb=>hQ _ ⟨fun b o hb e=>xb b o (fun z=>hb (Ys.mpr z)) e,rfl,rfl,rfl,Yi _⟩
 self:=fun i s Q E st hQ=>by
  obtain⟨f,X,_⟩:=st;refine Uj X.typeIs SF.slotJ (YU SF.slotJ X.typeIs SF.entryJ ?_ (SF.argsJ _));show wpAny _ _ (ret (.ref I)) _ _ s;exact Yb ⟨_,rfl, "set_iterator",_,X.typeIs,SF.slotN.lookup,hQ⟩
theorem Zhs{o:Obj}{es:Array (Int×P7)}{ep:Nat}{t:SetTable}{slot i:Nat}{Q:Option (P7×Nat)->P1->Prop}(hb:byT w=true)(ho:s.heap.get? a=some o)(hd:o.data = .set es ep t)(hf:t.fits es.size=true)
  (h:Q (((pickOrder (w.params.setOrder a ep) es)[i]?).map fun e=>(e.2,slot)) s):wpAny (model prog w) A (setNext a slot i ep) Q E s:=by
 unfold setNext;refine Ya (YX ho hd hf ?_);dsimp only;refine Ya (Zea ?_);rw[hb];rw[Yg rfl,Yh (by simp)];refine Ya ?_;unfold setWalk;refine Ya (YX ho hd hf ?_);dsimp only;refine Ya (Zea ?_);rw[hb,Yg rfl];exact Ya (Ux (Yb (Yb h)))
end
end DL
end
section
namespace DL
open PySem PySem.Spec PyProof.Rows L2
theorem map_getD{α β:Type}(f:α->β)(b:β)(es:List α):(List.range es.length).map (fun i=>((es[i]?).map f).getD b)=es.map f:=by
 refine Q4 (by simp) fun i h1 h2 => ?_;have:i<es.length:=by simpa using h1
 simp[Yj this]
theorem Zny{L:List P7}{acc:Array P7}(h:ItemsOf (fun i v=>L[i]?=some v) acc L.length):acc.toList=L:=by
 obtain⟨h1,h2⟩:=h;refine List.ext_getElem? fun i => ?_;rw[YG];by_cases hi:i<acc.size
 ·rw[Yp hi];exact (h2 i _ (Yp hi)).symm
 ·rw[QW (by omega),VP (by omega)]
end DL
end
section
namespace DL
open PySem PySem.Spec PyProof.Rows L2 PySem.W SO
section
variable{prog:P5}{w:World}{A:P4}{E:P7->P1->Prop}{s:P1}{a:Addr}
theorem SetT.kept{h h':Heap}{xs:List Str}(x:SetT prog w h a xs)(hk:∀b o,h.get? b=some o->h'.get? b=some o):SetT prog w h' a xs:=by
 obtain⟨o,es,ep,t,ho,r⟩:=x;exact⟨o,es,ep,t,hk _ _ ho,r⟩
theorem SetT.typeIs{xs:List Str}(x:SetT prog w s.heap a xs):s.TypeIs (.ref a) "set":=by
 obtain⟨o,es,ep,t,ho,hx,_⟩:=x;exact⟨o,ho,hx.1⟩
theorem SetT.len{h:Heap}{xs:List Str}(x:SetT prog w h a xs):xs.length<scanBound/\xs.Nodup/\a<h.objs.size:=by
 obtain⟨o,es,ep,t,ho,hx,hd,hT,hel,hs,hn,hb⟩:=x;have:=hs.length;rw[Yr,Yo] at this;exact⟨by omega,hn,Ym ho⟩
theorem Zmp{Q:Bool->P1->Prop}(hT:s.TypeIs (.ref a) "set")(h:Q false s):wpAny (model prog w) A (Builtin.List.listLengthHint (.ref a)) Q E s:=by
 unfold Builtin.List.listLengthHint;refine Ya (V0 hT PySem.F.slot_set_len.lookup ?_);generalize hid:("set.__len__" : String)=id0
 wp_delta
 rw[show splitId id0=some ("set", "__len__") from by subst hid; decide +kernel];subst hid;refine Ya (Q5 (T:="set") (b:=true) hT (by rw[V6]; kernel_rfl) ?_);refine Yw (fun z=>absurd z (by decide)) (fun _ => ?_);exact Yw (fun _=>Ya (Qj hT (Yb h))) (fun z=>absurd (by decide +kernel) z)
end
end DL
end
section
namespace DL
open PySem PySem.Spec PyProof.Rows L2 PySem.W SO
def ddS:List Str->List Str
 | []=>[]
 | x :: xs=>if x∈ddS xs then ddS xs else x :: ddS xs
theorem ZcP:∀(xs:List Str) (y:Str),y∈ddS xs ↔ y∈xs
 | [],y=>Iff.rfl
 | x :: xs,y=>by
  unfold ddS;split
  ·rename_i h;rw[ZcP xs y,Yn];exact⟨.inr,fun z=>z.elim (fun e=>e ▸ (ZcP xs x).mp h) id⟩
  ·rw[Yn,Yn,ZcP xs y]
theorem Ze7:∀(xs:List Str),(ddS xs).Nodup
 | []=>Q2
 | x :: xs=>by
  unfold ddS;split
  ·exact Ze7 xs
  ·rename_i h;exact W7.mpr ⟨h,Ze7 xs⟩
theorem ZgI:∀(xs:List Str),(ddS xs).length<=xs.length
 | []=>Yi _
 | x :: xs=>by
  unfold ddS;have:=ZgI xs;split
  ·exact Nat.le_succ_of_le this
  ·exact Nat.succ_le_succ this
def ZdZ:List D->Sto->Out (List D)
 | [d],st=>match ZN st d with
  | some xs=>match ZbT xs with
   | some ss=>if ss.length<64 then .ok ((srtS (ddS ss)).map D.str) st else .bad
   | none => .bad
  | none => .bad
 | _,_ => .bad
section
variable{X:Cx}{EX:EXT}{pins:List (Addr×Obj)}{σ:L2.St}{H:Hp}{s:P1}
theorem Inv.drew{d:Drawn}(I:Inv X pins σ H s):Inv X pins σ H { s with drawn:=d }:=⟨I.ok,I.os,I.bare,I.base,I.loc,I.cell,I.free,I.freeC,I.pin,I.hok,I.len⟩
end
end DL
end
section
end
section
end
section
namespace DL
open PySem PySem.Spec PyProof.Rows L2
def Itl(K:P3)(a b:Addr):It :=
  ⟨fun i H => ∃xs ys x y,SqL K H a xs/\SqL K H b ys/\xs[i]?=some x/\ys[i]?=some y,
   fun i H v H' => ∃p x y,H p=none/\v = .ref p/\H'=upd H p (.tup [x,y])/\(∀xs,SqL K H a xs->xs[i]?=some x)/\∀ys,SqL K H b ys->ys[i]?=some y,
   fun i H => ∃xs ys,SqL K H a xs/\SqL K H b ys/\(xs.length<=i\/ys.length<=i)⟩
end DL
end
section
end
section
namespace DL
open PySem PySem.Spec PyProof.Rows L2 PySem.W
def RawD(h:Heap)(d:Addr)(es:Array DictEntry)(ep:Nat):Prop:=∃o,h.get? d=some o/\o.ExactDict/\o.data = .dict es ep
section
variable{prog:P5}{w:World}{A:P4}{E:P7->P1->Prop}{s:P1}
theorem RawD.typeIs{d:Addr}{es:Array DictEntry}{ep:Nat}(x:RawD s.heap d es ep):s.TypeIs (.ref d) "dict":=let ⟨o,e,c,_⟩:=x; ⟨o,e,c.1⟩
theorem RawD.kept{h h':Heap}{d:Addr}{es:Array DictEntry}{ep:Nat}(x:RawD h d es ep)(k:∀o,h.get? d=some o->h'.get? d=some o):RawD h' d es ep:=let ⟨o,e,r⟩:=x; ⟨o,k o e,r⟩
theorem ZmR{d:Addr}{es:Array DictEntry}{ep:Nat}{Q:P7->P1->Prop}(hd:(d == sysModules)=false)(hm:RawD s.heap d es ep)
  (hQ:Q (.ref s.heap.objs.size) { s with heap:=s.heap.push { cls:=.type "dict_keyiterator",data:=.fields #[.ref d,.int 0 0,.int es.size 0,.int ep 0] } }):wpAny (model prog w) A (pyIter (.ref d)) Q E s:=by
 obtain⟨o,ho,hc,hdat⟩:=id hm;have hT:=hm.typeIs;refine Uj hT PySem.F.slot_dict_iter (YU PySem.F.slot_dict_iter hT PySem.F.entry_dict_iter ?_ (PySem.F.args_dict_iter_1 _));unfold Builtin.«dict.__iter__» Builtin.Dict.dictSlotNone;refine Ya (Ya (wpAny_notOrdered_dict hT (Yb ?_)));dsimp only;refine Ya (m:=Builtin.Dict.showsAll d) ?_;unfold Builtin.Dict.showsAll;refine Yw (fun z=>by rw[hd] at z; cases z) (fun _=>Yb ?_);refine Ya (Vu ho hdat (Ya (Qs ho hdat ?_)));refine Ya (Y3 (Yb ⟨_,rfl, "dict_keyiterator",_,⟨_,Yq _ rfl,rfl⟩,Wt.lookup,?_⟩));simpa[rawInt] using hQ
theorem ZsD{it d:Addr}{i ep:Nat}{es:Array DictEntry}{e:DictEntry}{Q:Option P7->P1->Prop}(hit:s.heap.IsKeyIter it d i es.size ep)(hm:RawD s.heap d es ep)(hx:es[i]?=some e)
  (hQ:∀h',h'.IsKeyIter it d (i+1) es.size ep->Heap.SameBut it s.heap h'->Q (some e.key) { s with heap:=h' }):wpAny (model prog w) A (pyNext (.ref it)) Q E s:=by
 obtain⟨o,ho,hc,hd⟩:=id hit;obtain⟨od,hod,hcd,hdd⟩:=id hm;unfold pyNext;refine Ya (VB (Wl (name:=Str.ofString "__next__") hit.typeIs Wt
  (YU Wt hit.typeIs Vm ?_ (Vh _))))
 have hown:Builtin.Dict_items.ownsTuple "dict_keyiterator" = false:=by decide
 have hT:=hit.typeIs
 repeat (any_goals (first | assumption | with_reducible refine Qe hT ?_ | with_reducible refine V7 ho hd ?_ | with_reducible refine Vu hod hdd ?_ | with_reducible refine Qs hod hdd ?_ | with_reducible refine Qt hT ?_ | wp_step))
 simp only[show ¬ ((i:Int)<0) by omega,Wz,Wq,hx]
 repeat (any_goals (first | assumption | with_reducible refine Qe hT ?_ | with_reducible refine Qt hT ?_ | ((fail_if_success (with_reducible show wpAny _ _ (setField _ _ _) _ _ _)); wp_step)))
 simp only[hown,YQ,Wz,Wv];refine WN ho hd (by simp) ?_;rw[Yh]
 rotate_left
 ·decide +kernel
 have hit':(s.heap.update it (Obj.mapFields (·.setIfInBounds 1 (rawInt ((i:Int)+1))))).IsKeyIter it d (i+1) es.size ep :=
  ⟨_,YL _ ho (W6 (Y5 hd _)),(QY ..).trans hc,by rw[Y5 hd]; simp[rawInt]⟩
 have sb:=YH s.heap it (Obj.mapFields (·.setIfInBounds 1 (rawInt ((i:Int)+1))));generalize s.heap.update it (Obj.mapFields (·.setIfInBounds 1 (rawInt ((i:Int)+1))))=h2 at hit' sb;have hT2:Shared.TypeIs { s with heap:=h2 } (.ref it) "dict_keyiterator":=hit'.typeIs;refine Ya (YM (Ya (Qt hT2 ?_)));refine Yw (fun _ => ?_) (fun z=>absurd (by decide +kernel) z);exact Yb (Yb ⟨_,rfl,Yb (hQ _ hit' sb)⟩)
theorem ZpR{it d:Addr}{i ep:Nat}{es:Array DictEntry}{Q:Option P7->P1->Prop}(hh:A.handled=none)(hit:s.heap.IsKeyIter it d i es.size ep)(hm:RawD s.heap d es ep)(hx:es[i]?=none)
  (hQ:∀h',Heap.ExtBut it s.heap h'->Q none { s with heap:=h' }):wpAny (model prog w) A (pyNext (.ref it)) Q E s:=by
 obtain⟨o,ho,hc,hd⟩:=id hit;obtain⟨od,hod,hcd,hdd⟩:=id hm;unfold pyNext;refine Ya (VB (Wl (name:=Str.ofString "__next__") hit.typeIs Wt
  (YU Wt hit.typeIs Vm ?_ (Vh _))))
 have hown:Builtin.Dict_items.ownsTuple "dict_keyiterator" = false:=by decide
 have hT:=hit.typeIs
 repeat (any_goals (first | assumption | with_reducible refine Qe hT ?_ | with_reducible refine V7 ho hd ?_ | with_reducible refine Vu hod hdd ?_ | with_reducible refine Qs hod hdd ?_ | with_reducible refine Qt hT ?_ | wp_step))
 simp only[show ¬ ((i:Int)<0) by omega,Wz,Wq,hx]
 repeat (any_goals (first | assumption | with_reducible refine Qe hT ?_ | with_reducible refine Qt hT ?_ | ((fail_if_success (with_reducible show wpAny _ _ (setField _ _ _) _ _ _)); wp_step)))
 simp only[hown,YQ,Wz];refine WN ho hd (by simp) ?_;refine ZfF (s:={ s with heap:=s.heap.update it (Obj.mapFields (·.setIfInBounds 0 Value.none)) }) hh fun o1 o2 c2 g2 => ?_;refine Ya (Q5 (T:="StopIteration") (b:=true) ⟨_,g2,c2⟩ isSubtype_stop ?_);exact Yb (hQ _ (((YH ..).extBut.push _).push _))
theorem Zm1(hh:A.handled=none)(I d:Addr)(hne:d≠I)(es:Array DictEntry)(ep:Nat) :
  Walks prog w A I [I,d] [I] es.size (fun i v => ∃e,es[i]?=some e/\v=e.key) (fun i h=>h.IsKeyIter I d i es.size ep/\RawD h d es ep) where
 sub:=fun b hb=>by simp at hb; simp[hb]
 frame:=fun _ _ _ st hk=>⟨let ⟨o,e,r⟩:=st.1; ⟨o,hk I (by simp) o e,r⟩,st.2.kept fun o e=>hk d (by simp) o e⟩
 item:=fun i s Q E hi st hQ=>by
  refine ZsD st.1 st.2 (e:=es[i]) (by simp[hi]) fun h' hit' hs' => ?_;exact hQ _ h' s.toks ⟨es[i],by simp[hi],rfl⟩ ⟨hit',st.2.kept fun o e=>hs'.extBut d o hne e⟩ fun b o hb e=>hs'.extBut b o (fun h=>hb (by simp[h])) e
 done:=fun s Q E st hQ=>ZpR hh st.1 st.2 (by simp) fun h' he'=>hQ h' s.toks fun b o hb e=>he' b o (fun h=>hb (by simp[h])) e
 self:=fun _ _ _ _ st hQ=>wpAny_pyIter_keyiter st.1 hQ
theorem ZpV{d:Addr}{es:Array DictEntry}{ep:Nat}(lo:(d == sysModules)=false):KdlSrc prog w "dict" d d es.size (fun i v => ∃e,es[i]?=some e/\v=e.key) (fun h=>RawD h d es ep) where
 type:=fun _ hm=>hm.typeIs
 there:=fun _ hm=>let ⟨_,e,_⟩:=hm; ⟨Ym e,Ym e⟩
 keep:=fun _ _ hm hk=>hm.kept fun o e=>hk d (.inl rfl) o e
 notList:=by decide
 notTuple:=by decide
 hint:=fun _ _ _ _ hm hq=>kdl_hint_dict hm.typeIs hq
 iter:=fun _ _ hh hm=>⟨_,_,(fun _ _ hq=>ZmR lo hm hq),Zm1 hh _ d (Yx (let ⟨_,e,_⟩:=hm; Ym e)) es ep,⟨⟨_,Yq _ rfl,rfl,rfl⟩,hm.kept fun o e=>Ye _ e⟩⟩
end
end DL
end
section
namespace DL
open PySem PySem.Spec PyProof.Rows L2 PySem.W
theorem Znw{K:P3}{O:List Addr}{H:Hp}{d:D}{q:Key}(h:Zaq d=some q):Rep K O H d (kV q):=by
 cases d with
 | int i =>
  cases (show some (Sum.inl i)=some q from h);exact Rep.int_i.mpr rfl
 | str x =>
  cases (show some (Sum.inr x)=some q from h);exact Rep.str_i.mpr rfl
 | _=>cases h
theorem Zky{K:P3}{O:List Addr}{H:Hp}:∀{ds:List D} {qs:List Key},Zbe ds=some qs->Reps K O H ds (qs.map kV)
 | [],qs,h=>by
  cases (show some []=some qs from h);exact Reps.nil_i.mpr rfl
 | d :: ds,qs,h=>by
  unfold Zbe at h;cases h1:Zaq d with
  | none=>rw[h1] at h; cases h
  | some k =>
   cases h2:Zbe ds with
   | none=>rw[h1,h2] at h; cases h
   | some ks =>
    rw[h1,h2] at h;cases h;exact Reps.cons_i.mpr ⟨_,_,rfl,Znw h1,Zky h2⟩
theorem Zpm{K:P3}{O:List Addr}{H:Hp}{d:D}{q:List Key}{a:Addr}(h:ZM d=some q)(ha:H a=some (.tup (q.map kV))):Rep K O H d (.ref a):=by
 cases d with
 | tup ds=>exact Rep.tup_i.mpr ⟨a,_,rfl,ha,Zky h⟩
 | _=>cases h
theorem Zf2{K:P3}{O:List Addr}{H:Hp}:∀{ds:List (D×D)} {vs:List (List Key×V)} {xs:List (List Key×Addr×P7)},Kvs K ZM O H ds vs->KT H vs xs->Reps K O H (ds.map (·.1)) (xs.map fun x=>V.ref x.2.1)
 | [],vs,xs,h,t=>by
  cases (show vs=[] from h);cases t;exact Reps.nil_i.mpr rfl
 | (k,d) :: ds,vs,xs,h,t=>by
  obtain⟨q,v,r,rfl,hk,hr,ht⟩:=(show ∃q v r,vs=(q,v) :: r/\ZM k=some q/\Rep K O H d v/\Kvs K ZM O H ds r from h);cases t with
  | cons hq t =>
   rw[YF,YF];refine Reps.cons_i.mpr ⟨_,_,rfl,Zpm hk ?_,Zf2 ht t⟩;exact hq.2.1
end DL
end
section
namespace DL
open PySem PySem.Spec PyProof.Rows L2 PySem.W SO
def plB:List Str->List Str->Bool
 | [],[]=>false
 | [],_ :: _=>true
 | _ :: _,[]=>false
 | x :: xs,y :: ys=>if x=y then plB xs ys else Z3 x y
theorem ZbO{x y:Str}(h:x=y)(xs ys:List Str):plB (x :: xs) (y :: ys)=plB xs ys:=by
 show (if x=y then _ else _)=_;rw[Yg h]
section
variable{prog:P5}{w:World}{A:P4}{E:P7->P1->Prop}{s:P1}
theorem Znx{x y:Addr}{xs ys:List P7}{ps qs:List Str}{Q:P7->P1->Prop}(hx:IsTup s.heap x xs.toArray)(hy:IsTup s.heap y ys.toArray)(sx:StrsAre xs ps)(sy:StrsAre ys qs)(h:Q (.bool (plB ps qs)) s) :
  wpAny (model prog w) A (Builtin.«tuple.__lt__» ⟨[.ref x,.ref y],[]⟩) (fun fin s' => ∃v,fin = .done (.ret v)/\Q v s') E s:=by
 have hTy:=hy.typeIs;unfold Builtin.«tuple.__lt__»;refine Ya (m:=slotArgs _ _ _) (Yb ?_);dsimp only;refine Ya (Q5 (T:="tuple") (b:=true) hTy (by rw[V6]; kernel_rfl) ?_);refine Yw (fun z=>absurd z (by decide)) (fun _ => ?_);refine Ya (tupleItemsOf_ hx (Ya (tupleItemsOf_ hy ?_)));refine Ya ?_;have loop:∀(xs ys:List P7) (ps qs:List Str),StrsAre xs ps->StrsAre ys qs->∀(R:Option Fin×Unit->P1->Prop),(∀b,b=plB ps qs->R (some (.done (.ret (.bool b))),()) s)->(plB ps qs=decide (xs.length<ys.length)->R (none,()) s) ->
   wpAny (model prog w) A (forIn (xs.zip ys) ((none,()):Option Fin×Unit) fun x __s=>do
      let __do_lift <-eqBool x.fst x.snd
      if (!__do_lift)=true then do
        rule "tuple.compare.by-the-first-pair-that-differs"
        let __do_lift <-richCompare CmpOp.Lt x.fst x.snd
        let __do_lift <-ret __do_lift
        pure (ForInStep.done (some __do_lift,()))
       else pure (ForInStep.yield (none,()))) R E s:=by
  intro xs
  induction xs with
  | nil =>
   intro ys ps qs sx sy R h1 h2;cases sx;rw[List.zip_nil_left,UG];refine Yb (h2 ?_);cases sy <;> simp[plB]
  | cons v xs ih =>
   intro ys ps qs sx sy R h1 h2;cases sx with
   | cons a t sx =>
    cases sy with
    | nil =>
     rw[List.zip_nil_right,UG];exact Yb (h2 (by simp[plB]))
    | cons b u sy =>
     rw[Uc,UD];refine Ya ?_;dsimp only;refine Ya (Uo ?_);by_cases hab:a=b
     ·rw[Yv hab];refine Yw (fun z=>absurd z (by decide)) (fun _=>Yb ?_);dsimp only;refine ih _ _ _ sx sy R (fun c hc=>h1 c (hc.trans (ZbO hab _ _).symm)) fun hc=>h2 ?_;rw[ZbO hab,hc];simp
     ·rw[YA hab];refine Yw (fun _ => ?_) (fun z=>absurd (by decide) z);refine Ya (Wg (Ya (show wpAny _ _ (compareOp .Lt (.str a t) (.str b u)) _ _ _ from lt_str ?_)));refine Ya (Yb (Yb (Yb (h1 _ ?_))));show _=(if a=b then _ else _);rw[Yh hab];rfl
 refine loop xs ys ps qs sx sy _ (fun b hb => ?_) fun hb => ?_
 ·subst hb;exact Yb ⟨_,rfl,h⟩
 ·refine Yb ⟨_,rfl,?_⟩;rw[hb] at h;simpa[Builtin.Tuple.tupleCompareSizes] using h
theorem Zjl{x y:Addr}{xs ys:List P7}{ps qs:List Str}{Q:P7->P1->Prop}(hx:IsTup s.heap x xs.toArray)(hy:IsTup s.heap y ys.toArray)(sx:StrsAre xs ps)(sy:StrsAre ys qs)(h:Q (.bool (plB ps qs)) s) :
  wpAny (model prog w) A (call (.builtin "tuple.__lt__") [.ref x,.ref y]) Q E s :=
 YU Qu hx.typeIs PySem.F.entry_tuple_lt (Znx hx hy sx sy h) (PySem.F.args_tuple_lt_2 _ _)
theorem Zqw{x y:Addr}{xs ys:List P7}{ps qs:List Str}{Q:Bool->P1->Prop}(hu:A.units<cLine)(hx:IsTup s.heap x xs.toArray)(hy:IsTup s.heap y ys.toArray)(sx:StrsAre xs ps)(sy:StrsAre ys qs)(h:Q (plB ps qs) s) :
  wpAny (model prog w) A (keyLt' oneType' (.ref x) (.ref y)) Q E s:=by
 rw[keyLt'_oneType,oneLt'_eq];simp only[Qb];refine Ya (wpAny_cRoomFor hu ?_);refine Ya (V3 hx.typeIs Qu (Zjl hx hy sx sy ?_));exact Qw h
theorem ZqF{x y:Addr}{xs ys:List P7}{ps qs:List Str}{Q:Bool->P1->Prop}(hu:A.units<cLine)(hx:IsTup s.heap x xs.toArray)(hy:IsTup s.heap y ys.toArray)(sx:StrsAre xs ps)(sy:StrsAre ys qs)(h:Q (plB ps qs) s) :
  wpAny (model prog w) A (keyLt' general' (.ref x) (.ref y)) Q E s:=by
 show wpAny _ _ (oneLt' false (.ref x) (.ref y)) _ _ _;have hTx:=hx.typeIs;have hTy:=hy.typeIs;have f1:typeLookup (.type "tuple") "__lt__" = pure (some (.builtin "tuple.__lt__")):=Qu.lookup;have f2:=Qu.bind (.ref x);refine kat_one _ _ ?_;show wpAny _ _ (richCompare .Lt (.ref x) (.ref y)) _ _ _;unfold richCompare;refine YM (Ya (wpAny_cRoomFor hu ?_));obtain⟨hp,g,d,tk,os⟩:=s;have sl:Slot "tuple" "__lt__" "tuple.__lt__":=Qu
 repeat (any_goals (first | assumption | refine V3 (name:=Str.ofString "__lt__") hTx sl (Zjl hx hy sx sy ?_) | wp_step))
 done
end
end DL
end
section
namespace DL
open PySem PySem.Spec PyProof.Rows L2 PySem.W SO
def PlsAre(h:Heap):List P7->List (List Str)->Prop
 | [],[]=>True
 | v :: vs,p :: ps=>(∃b its,v = .ref b/\IsTup h b its.toArray/\StrsAre its p)/\PlsAre h vs ps
 | _,_=>False
theorem PlsAre.mono{h h':Heap}:∀{vs:List P7} {ps:List (List Str)},PlsAre h vs ps->(∀b,(.ref b)∈vs->∀o,h.get? b=some o->h'.get? b=some o)->PlsAre h' vs ps
 | [],[],_,_=>trivial
 | v :: vs,p :: ps,x,k=>by
  obtain⟨⟨b,its,rfl,⟨o,e,r⟩,s⟩,t⟩:=x;exact⟨⟨b,its,rfl,⟨o,k b Yt o e,r⟩,s⟩,t.mono fun c hc=>k c (Yl _ hc)⟩
 | [],_ :: _,x,_=>x.elim
 | _ :: _,[],x,_=>x.elim
theorem PlsAre.length{h:Heap}:∀{vs:List P7} {ps:List (List Str)},PlsAre h vs ps->vs.length=ps.length
 | [],[],_=>rfl
 | v :: vs,p :: ps,x=>by simp[PlsAre.length x.2]
 | [],_ :: _,x=>x.elim
 | _ :: _,[],x=>x.elim
theorem PlsAre.get{h:Heap}:∀{vs:List P7} {ps:List (List Str)},PlsAre h vs ps->∀(i:Nat),i<vs.length->∃b its,vs.getD i .none = .ref b/\IsTup h b its.toArray/\StrsAre its (ps.getD i [])
 | [],[],_,i,hi=>by simp at hi
 | v :: vs,p :: ps,x,i,hi=>by
  obtain⟨⟨b,its,rfl,t,s⟩,r⟩:=x;cases i with
  | zero=>exact⟨b,its,rfl,t,s⟩
  | succ i=>exact PlsAre.get r i (by simpa using hi)
 | [],_ :: _,x,_,_=>x.elim
 | _ :: _,[],x,_,_=>x.elim
def ZbY:List (Option P7)->List (List Str)->Prop
 | [],[]=>True
 | none :: fs,[] :: ps=>ZbY fs ps
 | some v :: fs,(x :: _) :: ps=>(∃t,v = .str x t)/\ZbY fs ps
 | _,_=>False
section
variable{prog:P5}{w:World}{A:P4}{E:P7->P1->Prop}{s:P1}
theorem ZkE:∀{vs:List P7} {ps:List (List Str)} {Q:List (Option P7)->P1->Prop},PlsAre s.heap vs ps->(∀fs,ZbY fs ps->Q fs s)->wpAny (model prog w) A (vs.mapM firstOfTuple') Q E s
 | [],[],Q,_,h=>by rw[List.mapM_nil]; exact Yb (h [] trivial)
 | [],_ :: _,_,x,_=>x.elim
 | _ :: _,[],_,x,_=>x.elim
 | v :: vs,p :: ps,Q,x,h=>by
  obtain⟨⟨b,its,rfl,ht,hs⟩,r⟩:=x;obtain⟨o,ho,hc,n,hd⟩:=id ht;rw[List.mapM_cons];refine Ya ?_;rw[kas_first_eq];refine Ya (Qj (T:="tuple") ⟨o,ho,hc⟩ ?_);refine Yw (fun z=>absurd z (by decide)) (fun _ => ?_);refine Ya (listItems_at ho hd (Yb ?_));refine Ya (ZkE (Q:=fun bs s'=>wpAny (model prog w) A (pure (its.toArray[0]? :: bs)) Q E s') r fun fs hf=>Yb (h _ ?_));cases hs with
  | nil=>exact hf
  | cons x t hs=>exact⟨⟨t,rfl⟩,hf⟩
theorem Zjt:∀{fs:List (Option P7)} {ps:List (List Str)},ZbY fs ps->(fs.all (·.isSome))=ps.all (fun p => !p.isEmpty)
 | [],[],_=>rfl
 | none :: fs,[] :: ps,h=>by simp
 | some v :: fs,(x :: _) :: ps,h=>by simp[Zjt h.2]
 | [],_ :: _,h=>by cases h
 | none :: fs,(_ :: _) :: ps,h=>by cases h
 | some v :: fs,[] :: ps,h=>by cases h
 | _ :: _,[],h=>by rename_i o fs; cases o <;> cases h
theorem Zfs:∀{fs:List (Option P7)} {ps:List (List Str)},ZbY fs ps->∀v∈fs.filterMap id,∃x t,v = .str x t
 | [],[],_,v,hv=>by simp at hv
 | none :: fs,[] :: ps,h,v,hv=>Zfs (show ZbY fs ps from h) v (by simpa using hv)
 | some u :: fs,(x :: _) :: ps,h,v,hv=>by
  obtain⟨⟨t,rfl⟩,h2⟩:=(show (∃t,u = .str x t)/\ZbY fs ps from h);simp only[WE,id] at hv;rcases Yn.mp hv with rfl | hv
  ·exact⟨x,t,rfl⟩
  ·exact Zfs h2 v hv
 | [],_ :: _,h,_,_=>by cases h
 | none :: fs,(_ :: _) :: ps,h,_,_=>by cases h
 | some v :: fs,[] :: ps,h,_,_=>by cases h
 | o :: _,[],h,_,_=>by cases o <;> cases h
theorem Zp5{fs:List (Option P7)}{p:List Str}{ps:List (List Str)}(h:ZbY fs (p :: ps)):((fs.toArray[0]?).bind id).isSome = !p.isEmpty:=by
 match fs,p,h with
 | none :: fs,[],h=>rfl
 | some v :: fs,x :: _,h=>rfl
 | [],_,h=>cases h
 | none :: fs,_ :: _,h=>cases h
 | some v :: fs,[],h=>cases h
def Zde(ps:List (List Str)):SortKind:=if ps.all (fun p => !p.isEmpty)=true then tuples' true else if (ps.headD []).isEmpty=true then oneType' else general'
theorem ZoI{vs:List P7}{ps:List (List Str)}{Q:SortKind->P1->Prop}(x:PlsAre s.heap vs ps)(h2:2<=vs.length)(h:Q (Zde ps) s):wpAny (model prog w) A (keyKind' vs.toArray) Q E s:=by
 rw[kat_kind_eq,Uk,Uz];have hl:=x.length;refine Ya (Ya (ZkE x fun fs hf=>Yb ?_));have ha:=Zjt hf;unfold Zde at h;refine Yw (fun c => ?_) (fun c => ?_)
 ·have c':fs.all (·.isSome)=true:=by simpa using c
  rw[ha] at c';rw[Yg c'] at h;refine Ya (Wg ?_);have hfm:(fs.toArray.filterMap id)=(fs.filterMap id).toArray:=by simp
  rw[hfm,oneTypeOnly'_eq,Uk,Uz];refine Ya (Ya (Ya (kas_mapM (r:=Value.type "str") _ (fun v hv Q' hq => ?_) (Yb ?_))))
  ·obtain⟨y,t,rfl⟩:=Zfs hf v hv;exact Qj (typeIs_str s y t) hq
  ·have hne:fs.filterMap id≠[]:=by
    match ps,fs,hf,hl,h2,c' with
    | [],_,_,hl,h2,_=>simp at hl; rw[hl] at h2; simp at h2
    | (y :: _) :: ps,some v :: fs,hf,_,_,_=>simp
    | [] :: ps,_,_,_,_,c'=>simp at c'
    | (_ :: _) :: ps,[],hf,_,_,_=>cases hf
    | (_ :: _) :: ps,none :: _,hf,_,_,_=>cases hf
   obtain⟨f1,fr,e⟩:=List.exists_cons_of_ne_nil hne;rw[e];have h0:(List.map (fun _=>Value.type "str") (f1 :: fr)).toArray[0]?=some (Value.type "str"):=by simp
   rw[h0];have hall2:((List.map (fun _=>Value.type "str") (f1 :: fr)).toArray.all fun x=>x == Value.type "str")=true:=by simp
   simp only[hall2,Qb];exact Yb (Yb h)
 ·have c':¬ ps.all (fun p => !p.isEmpty)=true:=by
   rw[<-ha];simpa using c
  rw[Yh c'] at h
  match ps,hl,h2,hf,h with
  | [],hl,h2,_,_=>simp at hl; rw[hl] at h2; simp at h2
  | p :: ps,hl,h2,hf,h =>
   have hh:=Zp5 hf;refine Yw (fun d => ?_) (fun d => ?_)
   ·rw[hh] at d;have:p.isEmpty=false:=by simpa using d
    rw[show ((p :: ps).headD []).isEmpty=false from this] at h;exact Yb (by simpa using h)
   ·rw[hh] at d;have hp:p.isEmpty=true:=by simpa using d
    rw[show ((p :: ps).headD []).isEmpty=true from hp,Yg rfl] at h;rw[oneTypeOnly'_eq,Uk,Uz];refine Ya (Ya (Ya (kas_mapM (r:=Value.type "tuple") _ (fun v hv Q' hq => ?_) (Yb ?_))))
    ·obtain⟨i,hi,rfl⟩:=QK hv;obtain⟨b,its,e1,⟨o,e2,e3,_⟩,_⟩:=x.get i hi;rw[Yk,Yj hi] at e1;rw[show vs[i] = .ref b from e1];exact Qj (T:="tuple") ⟨o,e2,e3⟩ hq
    ·match vs,h2 with
     | v :: vr,_ =>
      have h0:(List.map (fun _=>Value.type "tuple") (v :: vr)).toArray[0]?=some (Value.type "tuple"):=by simp
      rw[h0];have hall2:((List.map (fun _=>Value.type "tuple") (v :: vr)).toArray.all fun x=>x == Value.type "tuple")=true:=by simp
      simp only[hall2,Qb];exact Yb (Yb (by simpa using h))
theorem ZbI{x y:Str}(h:¬ x=y)(xs ys:List Str):plB (x :: xs) (y :: ys)=Z3 x y:=Yh h
theorem ZjS{fin:Bool}{Q:Bool->P1->Prop}:∀(xs ys:List P7) (ps qs:List Str) (i:Nat),StrsAre xs ps->StrsAre ys qs->(plB ps qs=decide (xs.length<ys.length)->Q fin s)->Q (plB ps qs) s->KatLex prog w A true fin Q (xs.zip ys) i s
 | [],ys,ps,qs,i,sx,sy,h1,h2=>by
  cases sx;rw[List.zip_nil_left];refine kat_nil (h1 ?_);cases sy <;> simp[plB]
 | v :: xs,[],ps,qs,i,sx,sy,h1,h2=>by
  cases sx;cases sy;rw[List.zip_nil_right];exact kat_nil (h1 (by simp[plB]))
 | v :: xs,u :: ys,ps,qs,i,sx,sy,h1,h2=>by
  cases sx with
  | cons a t sx =>
   cases sy with
   | cons b u sy =>
    rw[Uc];refine kat_cons (Uo ?_);by_cases hab:a=b
    ·rw[Yv hab];rw[ZbO hab] at h2;refine kat_yes (ZjS xs ys _ _ (i+1) sx sy (fun hc=>h1 ?_) h2);rw[ZbO hab,hc];simp
    ·rw[YA hab];rw[ZbI hab] at h2;refine kat_no ?_;cases hi:(true && i == 0) with
     | true=>exact oneLt_str h2
     | false=>exact kat_one _ _ (lt_str h2)
theorem Zl8{vs:List P7}{ps:List (List Str)}{i j:Nat}{Q:Bool->P1->Prop}(x:PlsAre s.heap vs ps)(hu:A.units<cLine)(hi:i<vs.length)(hj:j<vs.length)(h:Q (plB (ps.getD i []) (ps.getD j [])) s) :
  wpAny (model prog w) A (keyLt' (Zde ps) (vs.getD i .none) (vs.getD j .none)) Q E s:=by
 obtain⟨b,its,e1,t1,s1⟩:=x.get i hi;obtain⟨b',its',e2,t2,s2⟩:=x.get j hj;rw[e1,e2];unfold Zde;split
 ·obtain⟨o,ho,_,n,hd⟩:=t1;obtain⟨o',ho',_,n',hd'⟩:=t2;refine kat_lt ho hd ho' hd' (ZjS its its' _ _ 0 s1 s2 (fun hc => ?_) h);rw[hc] at h;simpa using h
 ·split
  ·exact Zqw hu t1 t2 s1 s2 h
  ·exact ZqF hu t1 t2 s1 s2 h
end
end DL
end
section
namespace SO
open PySem PySem.W PyProof.Rows
section
variable{prog:P5}{w:World}{A:P4}{E:P7->P1->Prop}{s:P1}
structure CmpR(prog:P5)(w:World)(s:P1)(a:Addr)(vs:List P7)(κ:SortKind)(lt:Nat->Nat->Bool):Prop where
 kind:2<=vs.length->∀(h':Heap) (A:P4) (E:P7->P1->Prop) (Q:SortKind->P1->Prop),KB s a h'->Q κ { s with heap:=h' }->wpAny (model prog w) A (keyKind' vs.toArray) Q E { s with heap:=h' }
 less:2<=vs.length->∀(h':Heap) (A:P4) (E:P7->P1->Prop) (Q:Bool->P1->Prop) (i j:Nat),A.units<cLine->KB s a h'->i<vs.length->j<vs.length->Q (lt i j) { s with heap:=h' }->wpAny (model prog w) A (keyLt' κ (vs.getD i .none) (vs.getD j .none)) Q E { s with heap:=h' }
 inj:∀i j,i<vs.length->j<vs.length->vs.getD i .none=vs.getD j .none->i=j
theorem Zja{g:Heap}{a:Addr}{e1:Nat}{vs:List P7}{p:List Nat}{f:Bool->Sem PySem.Fin}{P:PySem.Fin->P1->Prop}(hoa:g.get? a=some (seqObj "list" #[] e1))(h64:vs.length<128)(hp:p.Perm (List.range vs.length))
  (k:∀h' c,(∀b o,b≠a->g.get? b=some o->h'.get? b=some o)->h'.get? a=some (seqObj "list" (p.map fun i=>vs.getD i .none).toArray c)->wpAny (model prog w) A (f false) P E { s with heap:=h' }) :
  wpAny (model prog w) A (seqEpoch a >>= fun e=>Builtin.List.listUpdate (.ref a) (fun _=>(p.map fun i=>vs.getD i Value.none).toArray) >>= fun _=>f (e != e1)) P E { s with heap:=g }:=by
 have z:((p.map fun i=>vs.getD i Value.none).toArray).size<=sizeLine+1:=by
  rw[Yu,Yr,hp.length_eq,Ws,Wd];omega
 have s2:=YH g a (Obj.mapSeq fun _=>(p.map fun i=>vs.getD i Value.none).toArray);refine Ya (seqEpoch_at hoa rfl (Ya (listUpdate_at hoa rfl ?_ (YV _) z)));rw[bne_self_eq_false];exact k _ _ (fun b o ne e=>s2.extBut b o ne e) (get?_update_seq hoa fun _=>(p.map fun i=>vs.getD i Value.none).toArray)
theorem ZfR{a:Addr}{vs:List P7}{n0:Nat}{κ:SortKind}{lt:Nat->Nat->Bool}{P:PySem.Fin->P1->Prop}(hu:A.units<cLine)(ho:s.heap.get? a=some (seqObj "list" vs.toArray n0))(h64:vs.length<128)
  (C:CmpR prog w s a vs κ lt) (O:Ord vs.length lt)
  (k:∀p:List Nat,p.Perm (List.range vs.length)->p.Pairwise (fun i j=>lt i j=true)->∀h' c,KB s a h'->h'.get? a=some (seqObj "list" (p.map fun i=>vs.getD i .none).toArray c)->P (.done (.ret .none)) { s with heap:=h' }) :
  wpAny (model prog w) A (Builtin.«list.sort» ⟨[.ref a],[]⟩) P E s:=by
 have ha:a<s.heap.objs.size:=Ym ho;have s1:=YH s.heap a (Obj.mapSeq fun _=>(#[]:Array P7));obtain⟨e1,ho1⟩:∃e1,(s.heap.update a (Obj.mapSeq fun _=>(#[]:Array P7))).get? a=some (seqObj "list" #[] e1):=⟨_,get?_update_seq ho fun _ => #[]⟩;have hk:KB s a (((s.heap.update a (Obj.mapSeq fun _=>(#[]:Array P7))).push (seqObj "tuple" vs.toArray 0)).push (seqObj "list" #[] 0)):=fun b o hb e =>
  Ye _ (Ye _ (s1.extBut b o hb e))
 have hoa:(((s.heap.update a (Obj.mapSeq fun _=>(#[]:Array P7))).push (seqObj "tuple" vs.toArray 0)).push (seqObj "list" #[] 0)).get? a=some (seqObj "list" #[] e1):=Ye _ (Ye _ ho1);rw[list_sort_plain];refine Ya (listItems_at ho rfl ?_);refine Ya (listUpdate_at ho rfl ?_ (by rw[Yu,Wd]; omega) (YV _));refine Ya (seqEpoch_at ho1 rfl ?_);refine Ya (wpAny_newTuple ?_ (by show vs.length<=_; rw[Wd]; omega));refine Ya (Ui ?_ (YV _));refine YM ?_;show wpAny (model prog w) A _ P E { s with heap:=((s.heap.update a (Obj.mapSeq fun _=>(#[]:Array P7))).push (seqObj "tuple" vs.toArray 0)).push (seqObj "list" #[] 0) };generalize hg:((s.heap.update a (Obj.mapSeq fun _=>(#[]:Array P7))).push (seqObj "tuple" vs.toArray 0)).push (seqObj "list" #[] 0)=g at hk hoa;dsimp only;by_cases h2:vs.length<2
 ·have hn2:vs.toArray.size<2:=by rw[Yu]; omega
  rw[Yg hn2,Yg hn2];refine Ya (Yb (Ya (Yb ?_)));have hm:(arrOf (SortSt.mk' general' (vs.toArray.zip vs.toArray) #[] 7 none)).map (·.2)=((List.range vs.length).map fun i=>vs.getD i Value.none).toArray:=by
   show (vs.toArray.zip vs.toArray).map (·.2)=_
   match vs,h2 with
   | [],_=>simp
   | [v],_=>simp[List.range_succ]
  have hpw:(List.range vs.length).Pairwise (fun i j=>lt i j=true):=by
   match vs,h2 with
   | [],_=>exact .nil
   | [v],_=>exact List.pairwise_singleton _ _
  have hf:failedOf (SortSt.mk' general' (vs.toArray.zip vs.toArray) #[] 7 none)=none:=rfl;dsimp only;rw[hm];refine Zja (f:=fun b=>if b=true then _ else _) hoa h64 (List.Perm.refl _) fun h' c hb hc => ?_;simp only[YQ,Wz];exact Yb (k _ (List.Perm.refl _) hpw h' c (fun b o ne e=>hb b o ne (hk b o ne e)) hc)
 ·have hn2:¬ vs.toArray.size<2:=by rw[Yu]; omega
  rw[Yh hn2,Yh hn2];refine Ya (C.kind (by omega) g A E _ hk ?_);refine Ya (YW (Znm (κ:=κ) (vs:=vs) (lt:=lt) (Q:=fun st' s' => ∃p:Array Nat,arrOf st'=p.map (kas_item (vs.toArray.zip vs.toArray))/\failedOf st'=none/\p.toList.Perm (List.range vs.length)/\p.toList.Pairwise (fun i j=>lt i j=true)/\s' = { s with heap:=g })
   (by omega) h64 C.inj (fun E Q i j hi hj hQ=>C.less (by omega) g A E Q i j hu hk hi hj hQ) O fun st' p h1 h2 h3 h4=>⟨p,h3,h4,h1,h2,rfl⟩) ?_ fun _ _ e=>e)
  rintro⟨⟨⟩,st'⟩ s' ⟨p,har,hf,hA,hS,rfl⟩;dsimp only;rw[kat_snds rfl har,hf];refine Zja (f:=fun b=>if b=true then _ else _) hoa h64 hA fun h' c hb hc => ?_;simp only[YQ,Wz];exact Yb (k _ hA hS h' c (fun b o ne e=>hb b o ne (hk b o ne e)) hc)
theorem Zlc{T:String}{r d:Addr}{n:Nat}{P:Nat->P7->Prop}{OK:Heap->Prop}{κ:SortKind}{lt:Nat->Nat->Bool}{Q:P7->P1->Prop}(hu:A.units+2<cLine)(src:KdlSrc prog w T r d n P OK)(hh:A.handled=none)(ok:OK s.heap)(h64:n<128)
  (C:∀vs a h' tk,ItemsOf P vs n->(∀b o,s.heap.get? b=some o->b≠a)->(∀b o,s.heap.get? b=some o->h'.get? b=some o)->CmpR prog w { s with heap:=h',toks:=tk } a vs.toList κ lt) (O:Ord n lt)
  (k:∀vs,ItemsOf P vs n->∀p:List Nat,p.Perm (List.range n)->p.Pairwise (fun i j=>lt i j=true)->∀(h1:Heap) a (h':Heap) tk c,(∀b o,s.heap.get? b=some o->h1.get? b=some o)->h1.objs.size<=a->(∀b o,h1.get? b=some o->h'.get? b=some o) ->
   h'.get? a=some (seqObj "list" (p.map fun i=>vs.toList.getD i .none).toArray c)->Q (.ref a) { s with heap:=h',toks:=tk }) :
  wpAny (model prog w) A (call (.builtin "sorted") [.ref r]) Q E s:=by
 refine Vc kind_sorted plain_sorted entry_sorted (args_sorted1 _) ?_;unfold Builtin.«sorted»;refine Ya (m:=checkCount "sorted" 1 1 _) (Yb ?_);refine Ya (kdu_collect src hh ok (by rw[Wd]; omega) fun h1 tk acc k1 hI => ?_);have hlen:acc.toList.length=n:=by rw[Yo]; exact hI.1
 refine Ya (Ui ?_ (by rw[Wd,hlen]; omega));have hoL:(h1.push (seqObj "list" acc.toList.toArray 0)).get? h1.objs.size=some (seqObj "list" acc.toList.toArray 0):=Yq _ rfl;have keep:∀b o,h1.get? b=some o->(h1.push (seqObj "list" acc.toList.toArray 0)).get? b=some o:=fun b o q=>Ye _ q;show wpAny _ _ _ _ _ { s with heap:=h1.push (seqObj "list" acc.toList.toArray 0),toks:=tk };generalize h1.push (seqObj "list" acc.toList.toArray 0)=g at hoL keep;refine Ya (YM (YU slot_list_sort ⟨_,hoL,rfl⟩ entry_list_sort ?body (args_list_sort _)))
 case body =>
  refine ZfR (s:={ s with heap:=g,toks:=tk }) (by show _<_; omega) hoL (by omega) (C acc _ g tk hI (fun b o e=>Yx (Ym (k1 b o e))) fun b o e=>keep b o (k1 b o e)) (by rw[hlen]; exact O) fun p hp hpw h' c hb hc => ?_;refine⟨_,rfl,Yb ⟨_,rfl,?_⟩⟩;rw[hlen] at hp;exact k acc hI p hp hpw h1 _ h' tk c k1 (Yi _) (fun b o e=>hb b o (Yx (Ym e)) (keep b o e)) hc
end
end SO
namespace DL
open PySem PySem.Spec PyProof.Rows L2 PySem.W SO
theorem ZlV(a:Str):Z3 a a=false:=by simp[Z3]
theorem Zln{a b c:Str}(h1:Z3 a b=true)(h2:Z3 b c=true):Z3 a c=true:=by
 simp only[Z3,Wr] at *;exact Ue h1 h2
theorem Zpl{a b:Str}(h:a≠b)(h1:Z3 a b=false):Z3 b a=true:=by
 simp only[Z3,Wr,Vq] at *;have h2:=Vz.mp h1;by_cases h3:b.cps.toList<a.cps.toList
 ·exact h3
 ·exact absurd (ZeM (VI (Vz.mp h3) h2)) h
theorem ZeH:∀a:List Str,plB a a=false
 | []=>rfl
 | x :: xs=>by rw[ZbO rfl]; exact ZeH xs
theorem ZcN:∀{a b c:List Str},plB a b=true->plB b c=true->plB a c=true
 | [],[],c,h,_=>by cases h
 | [],_ :: _,[],_,h=>by cases h
 | [],_ :: _,_ :: _,_,_=>rfl
 | _ :: _,[],_,h,_=>by cases h
 | _ :: _,_ :: _,[],_,h=>by cases h
 | x :: xs,y :: ys,z :: zs,h1,h2=>by
  by_cases e1:x=y
  ·subst e1;rw[ZbO rfl] at h1;by_cases e2:x=z
   ·subst e2;rw[ZbO rfl] at h2 ⊢;exact ZcN h1 h2
   ·rw[ZbI e2] at h2 ⊢;exact h2
  ·rw[ZbI e1] at h1;by_cases e2:y=z
   ·subst e2;rw[ZbI e1];exact h1
   ·rw[ZbI e2] at h2;have h3:=Zln h1 h2;by_cases e3:x=z
    ·subst e3;rw[ZlV] at h3;cases h3
    ·rw[ZbI e3];exact h3
theorem ZcJ:∀{a b:List Str},a≠b->plB a b=false->plB b a=true
 | [],[],h,_=>absurd rfl h
 | [],_ :: _,_,h=>by cases h
 | _ :: _,[],_,_=>rfl
 | x :: xs,y :: ys,h,h1=>by
  by_cases e:x=y
  ·subst e;rw[ZbO rfl] at h1 ⊢;exact ZcJ (fun z=>h (by rw[z])) h1
  ·rw[ZbI e] at h1;rw[ZbI fun z=>e z.symm];exact Zpl e h1
def Za9(a b:List Str):Bool:=!plB b a
def Z7(ps:List (List Str)):List (List Str):=ps.mergeSort Za9
theorem ZaX(ps:List (List Str)):(Z7 ps).Perm ps:=List.mergeSort_perm _ _
theorem Zgg(ps:List (List Str)):(Z7 ps).Pairwise (fun a b=>Za9 a b=true):=by
 refine List.pairwise_mergeSort (fun a b c h1 h2 => ?_) (fun a b => ?_) ps
 ·simp only[Za9,Bool.not_eq_true'] at *;cases hca:plB c a with
  | false=>rfl
  | true =>
   by_cases e:a=b
   ·subst e;rw[hca] at h2;cases h2
   ·have h3:=ZcJ (fun z=>e z.symm) h1;rw[ZcN hca h3] at h2;cases h2
 ·cases h:plB b a with
  | false=>simp[Za9,h]
  | true =>
   have:plB a b=false:=by
    cases h2:plB a b with
    | false=>rfl
    | true =>
     have:=ZcN h h2;rw[ZeH] at this;cases this
   simp[Za9,this]
theorem ZfU{ps qs:List (List Str)}(hp:qs.Perm ps)(hw:qs.Pairwise (fun a b=>plB a b=true)):qs=Z7 ps:=by
 refine Uw (le:=fun a b=>Za9 a b=true) (fun a b _ _ h1 h2 => ?_) (hw.imp fun {a b} h => ?_) (Zgg ps) (hp.trans (ZaX ps).symm)
 ·simp only[Za9,Bool.not_eq_true'] at h1 h2;by_cases e:a=b
  ·exact e
  ·have:=ZcJ e h2;rw[h1] at this;cases this
 ·cases h2:plB b a with
  | false=>simp[Za9,h2]
  | true =>
   have:=ZcN h h2;rw[ZeH] at this;cases this
theorem Zkp{ps:List (List Str)}(hn:ps.Nodup):Ord ps.length (fun i j=>plB (ps.getD i []) (ps.getD j [])):=by
 have apart:∀i j,i<ps.length->j<ps.length->i≠j->ps.getD i []≠ps.getD j []:=fun i j hi hj ne e=>by
  rw[Yk,Yk,Yj hi,Yj hj] at e;exact ne ((QC hn).mp e)
 refine⟨fun i j hi hj ne h=>ZcJ (apart i j hi hj ne) h,fun i j hi hj h => ?_,fun i j k hi hj hk h1 h2=>ZcN h1 h2⟩;cases h2:plB (ps.getD j []) (ps.getD i []) with
 | false=>rfl
 | true =>
  have:=ZcN h h2;rw[ZeH] at this;cases this
section
variable{prog:P5}{w:World}{A:P4}{E:P7->P1->Prop}{s:P1}
theorem Zkz:∀{its:List P7} {p q:List Str},StrsAre its p->StrsAre its q->p=q
 | _,_,_,.nil,.nil=>rfl
 | _,_,_,.cons x t r,.cons _ _ r2=>by rw[Zkz r r2]
theorem ZgM{h:Heap}:∀{vs:List P7} {ps:List (List Str)},PlsAre h vs ps->∀i,i<vs.length->∃b its,vs.getD i .none = .ref b/\IsTup h b its.toArray/\StrsAre its (ps.getD i [])
 | [],[],_,i,hi=>absurd hi (by simp)
 | v :: vs,p :: ps,x,0,_=>by
  obtain⟨b,its,h1,h2,h3⟩:=x.1;exact⟨b,its,h1,h2,h3⟩
 | v :: vs,p :: ps,x,i+1,hi=>ZgM x.2 i (by simpa using hi)
theorem Znn{h:Heap}{vs:List P7}{ps:List (List Str)}(x:PlsAre h vs ps)(hn:ps.Nodup)(hl:vs.length=ps.length)(i j:Nat)(hi:i<vs.length)(hj:j<vs.length)(e:vs.getD i .none=vs.getD j .none):i=j:=by
 obtain⟨b,its,h1,⟨o,g1,g2,n1,g3⟩,h3⟩:=ZgM x i hi;obtain⟨b',its',h1',⟨o',g1',g2',n1',g3'⟩,h3'⟩:=ZgM x j hj;rw[h1,h1'] at e;cases e;rw[g1] at g1';cases g1';rw[g3] at g3';have e2:its.toArray=its'.toArray:=by injection g3'
 have e3:its=its':=by simpa using e2
 subst e3;have e4:=Zkz h3 h3';rw[Yk,Yk,Yj (by omega),Yj (by omega)] at e4;exact (QC hn).mp e4
theorem ZhK{vs:List P7}{ps:List (List Str)}{a:Addr}{h':Heap}{tk:Nat}(hn:ps.Nodup)(x:PlsAre s.heap vs ps)(ha:∀b o,s.heap.get? b=some o->b≠a)(hk:∀b o,s.heap.get? b=some o->h'.get? b=some o) :
  CmpR prog w { s with heap:=h',toks:=tk } a vs (Zde ps) (fun i j=>plB (ps.getD i []) (ps.getD j [])):=by
 have y:∀g,KB { s with heap:=h',toks:=tk } a g->PlsAre g vs ps:=fun g hg=>x.mono fun b _ o e=>hg b o (ha b o e) (hk b o e);exact⟨fun h2 g A E Q hg hQ=>ZoI (s:={ s with heap:=g,toks:=tk }) (y g hg) h2 hQ,fun h2 g A E Q i j hu hg hi hj hQ=>Zl8 (s:={ s with heap:=g,toks:=tk }) (y g hg) hu hi hj hQ,Znn x hn x.length⟩
end
end DL
end
section
namespace DL
open PySem PySem.Spec PyProof.Rows L2 PySem.W SO
def Za1:List D->Option (List (List Str))
 | []=>some []
 | .tup ds :: r=>match ZbT ds,Za1 r with
  | some p,some ps=>some (p :: ps)
  | _,_=>none
 | _ :: _=>none
theorem ZeW:∀{ds:List D} {ps:List (List Str)},Za1 ds=some ps->ds=ps.map fun p=>D.tup (p.map D.str)
 | [],ps,e=>by cases e; rfl
 | d :: ds,ps,e=>by
  unfold Za1 at e;split at e
  ·rename_i h; cases h
  ·rename_i es r h;cases h;split at e
   ·rename_i p qs h1 h2;cases e;rw[YF,<-ZeW h2,ZfT h1]
   ·cases e
  ·cases e
theorem ZeY:∀(ps:List (List Str)),Za1 (ps.map fun p=>D.tup (p.map D.str))=some ps
 | []=>rfl
 | p :: ps=>by
  show (match ZbT (p.map D.str),Za1 (ps.map fun p=>D.tup (p.map D.str)) with | some p,some ps=>some (p :: ps) | _,_=>none)=_;rw[Zf4,ZeY ps]
section
variable{X:Cx}{EX:EXT}{pins:List (Addr×Obj)}{σ:L2.St}{H:Hp}{s:P1}{O:List Addr}
theorem ZdU(I:Inv X pins σ H s):∀{ps:List (List Str)} {vs:List V} {us:List P7},Reps X.K O H (ps.map fun p=>D.tup (p.map D.str)) vs->Vals vs us->PlsAre s.heap us ps
 | [],vs,us,r,u=>by
  rw[Uq,Reps.nil_i] at r;subst r;cases u;trivial
 | p :: ps,vs,us,r,u=>by
  obtain⟨v,rs,rfl,r1,r2⟩:=Reps.cons_i.mp r;rw[Rep.tup_i] at r1;obtain⟨a,ys,rfl,q,r3⟩:=r1;cases u with
  | cons u1 u2 =>
   cases u1;obtain⟨its,t1,t2,_⟩:=I.tuple (SqT.of q);refine⟨⟨a,its,rfl,t2,?_⟩,ZdU I r2 u2⟩;have hl1:=t1.length;have hl2:=r3.length;rw[Yr] at hl2;refine ZgY (by omega) fun i v x h1 h2 => ?_;obtain⟨y,h3,h4⟩:=r3.get (i:=i) (d:=D.str x) (by rw[YO,h2]; rfl);rw[Rep.str_i] at h4;subst h4;obtain⟨u,h5,t,h6⟩:=t1.get h3;rw[h1] at h5;cases h5;exact⟨t,h6⟩
theorem Zhr{st:Sto}{Q:VK}{its:List P7}{vs:List V}{ps:List (List Str)}{ix:List Nat}{a:Addr}{h1 h':Heap}{tk c:Nat}(I:Inv X pins σ H s)(W:WR X.K O H st)(rs:Reps X.K O H (ps.map fun p=>D.tup (p.map D.str)) vs)(rv:Vals vs its)
  (R:Run X.K EX O H (.ok ((Z7 ps).map fun p=>D.tup (p.map D.str)) st) (New X.K Q)) (hp:ix.Perm (List.range ps.length)) (hw:ix.Pairwise (fun i j=>plB (ps.getD i []) (ps.getD j [])=true)) (h64:ps.length<128)
  (k1:∀b o,s.heap.get? b=some o->h1.get? b=some o) (ha:h1.objs.size<=a) (hk:∀b o,h1.get? b=some o->h'.get? b=some o) (hg:h'.get? a=some (seqObj "list" (ix.map fun i=>its.getD i .none).toArray c)) :
  ∃v H',Inv X pins σ H' { s with heap:=h',toks:=tk }/\RelV v (.ref a)/\Q v H':=by
 have hl:=rv.length;have hl2:=rs.length;rw[Yr] at hl2;have hix:ix.map (fun i=>ps.getD i [])=Z7 ps:=by
  refine ZfU ?_ (Vt.mpr hw);refine (hp.map (fun i=>ps.getD i [])).trans (Vb ?_);refine Q4 (by simp) fun i h1 h2 => ?_;simp[Yk,Yj h2]
 have hb:∀i∈ix,i<ps.length:=fun i hi=>by
  have:=hp.mem_iff.mp hi;simpa using this
 have I1:Inv X pins σ H { s with heap:=h1,toks:=tk }:=I.kept k1;refine⟨.ref a,upd H a (.lst (ix.map fun i=>vs.getD i .non)),I1.laid hk ha ⟨?_,ix.map (fun i=>its.getD i .none),c,?_,hg⟩,rfl,?_⟩
 ·have h0:=hp.length_eq;simp only[Yr,Ws] at h0 ⊢;rw[Wd];omega
 ·refine Zgf ix fun i hi => ?_;have:=hb i hi;obtain⟨u,h1,h2⟩:=rv.get (i:=i) (x:=vs.getD i .non) (by rw[Yk,Yj (by omega)]; rfl);rw[Yk (l:=its),h1];exact h2
 ·refine Run.now (k:=New X.K Q) R W a _ ?_ (I1.hok.fresh ha);rw[<-hix,Ql];refine Zgz ix fun i hi => ?_;have:=hb i hi;obtain⟨v,h1,h2⟩:=rs.get (i:=i) (d:=D.tup ((ps.getD i []).map D.str)) (by rw[YO,Yk,Yj this]; rfl);rw[Yk (l:=vs),h1];exact h2
end
def ZdT:List D->Sto->Out (List D)
 | [.res i],st=>match st[i]? with
  | some (.dtt ds)=>match Za1 (ds.map (·.1)) with
   | some ps=>if ps.Nodup/\ps.length<128 then .ok ((Z7 ps).map fun p=>D.tup (p.map D.str)) st else .bad
   | none => .bad
  | _ => .bad
 | _,_ => .bad
section
variable{X:Cx}{EX:EXT}
theorem ZoH(hc:X.calm=true)(hu:X.A.units+2<cLine):Ze1 X EX (.builtin "sorted") ZdT:=by
 intro pins s σ H xs us Q I rx h;obtain⟨O,ds,st,W,r,R⟩:=h;unfold ZdT at R;split at R
 ·rename_i i;obtain⟨v,rfl,rv⟩:=r.one_of;rw[Rep.res_i] at rv;obtain⟨a,rfl,q⟩:=rv;split at R
  ·rename_i kvs hk;obtain⟨vs,e2,kv⟩:=W.at_ _ _ _ q hk;split at R
   ·rename_i ps hps;by_cases hok:ps.Nodup/\ps.length<128
    ·rw[Yg hok] at R;cases rx with
     | cons r0 rt =>
      cases rt;cases r0;obtain⟨z,hd,xs,kt,o,es,ep,g1,g2,g3,g4,g5,g6⟩:=ZbM I.hok (.inl e2);have hl:es.size=xs.length:=by
       have:=congrArg List.length g4;simpa using this
      have rs:=Zf2 kv kt;rw[ZeW hps] at rs;have hlp:ps.length=xs.length:=by
       have:=rs.length;simpa using this
      have refs:∀(l:List (List Key×Addr×P7)),Vals (l.map fun x=>V.ref x.2.1) (l.map fun x=>Value.ref x.2.1):=by
       intro l
       induction l with
       | nil=>exact .nil
       | cons x l ih=>exact .cons rfl ih
      have hacc:∀acc:Array P7,ItemsOf (fun i v => ∃e,es[i]?=some e/\v=e.key) acc es.size->acc.toList=xs.map fun x=>Value.ref x.2.1:=by
       intro acc hit;refine List.ext_getElem? fun j => ?_;rw[YG,YO];by_cases hj:j<acc.size
       ·obtain⟨e,h1,h2⟩:=hit.2 j acc[j] (Yp hj);rw[Yp hj,h2];have h3:es.toList[j]?=some e:=by rw[YG]; exact h1
        rw[g4,YO] at h3;obtain⟨x,h4,h5⟩:=QV.mp h3;rw[h4,<-h5];rfl
       ·have:=hit.1;rw[QW (by omega),VP (by omega)];rfl
      have P0:PlsAre s.heap (xs.map fun x=>Value.ref x.2.1) ps:=ZdU I rs (refs xs);refine Zlc (κ:=Zde ps) (lt:=fun i j=>plB (ps.getD i []) (ps.getD j [])) hu (ZpV (d:=a) (es:=es) (ep:=ep) hd) (I.ok.hd hc) ⟨o,g1,g2,g3⟩ (by omega) (fun acc b h' tk hI ha hk' => ?_) (by rw[hl,<-hlp]; exact Zkp hok.1) fun acc hI ix hp hw h1 b h' tk c k1 hb hk' hg => ?_
      ·rw[hacc acc hI];exact ZhK hok.1 P0 ha hk'
      ·rw[hl,<-hlp] at hp;rw[hacc acc hI] at hg;exact Zhr I W rs (refs xs) R hp hw hok.2 k1 hb hk' hg
    ·rw[Yh hok] at R; exact R.elim
   ·exact R.elim
  ·exact R.elim
 ·exact R.elim
end
open PySem
theorem Zsn{A:P4}(h:A.units+64<cLine):A.units+2<cLine:=by omega
end DL
end
section
namespace DL
open PySem PySem.Spec PyProof.Rows L2
def Rs(xs:Array Nat):Prop:=xs.toList.Pairwise (· < ·)
theorem Rs.lt{xs:Array Nat}(h:Rs xs){i j:Nat}(hij:i<j)(hj:j<xs.size):xs.getD i 0<xs.getD j 0:=by
 have hi:i<xs.size:=by omega
 have:=Wa.mp h i j (by simpa using hi) (by simpa using hj) hij;simpa[Array.getD,hi,hj] using this
theorem ZgF{xs:Array Nat}(h:Rs xs)(j:Nat):∀(f lo hi:Nat),hi - lo<=f->lo<=hi->hi<=xs.size->(∀k,k<lo->xs.getD k 0<j)->(∀k,hi<=k->k<xs.size->j<=xs.getD k 0) ->
  SetTable.below.go xs j f lo hi<=xs.size/\(∀k,k<SetTable.below.go xs j f lo hi->xs.getD k 0<j)/\∀k,SetTable.below.go xs j f lo hi<=k->k<xs.size->j<=xs.getD k 0
 | 0,lo,hi,hf,hlh,hs,h1,h2=>by
  have:lo=hi:=by omega
  subst this;unfold SetTable.below.go;exact⟨hs,h1,h2⟩
 | f+1,lo,hi,hf,hlh,hs,h1,h2=>by
  unfold SetTable.below.go;by_cases hc:lo<hi
  ·rw[Yg hc];have hm1:lo<=(lo+hi) / 2:=by omega
   have hm2:(lo+hi) / 2<hi:=by omega
   have hms:(lo+hi) / 2<xs.size:=by omega
   have eD:xs.getD ((lo+hi) / 2) j=xs.getD ((lo+hi) / 2) 0:=by simp[Array.getD,hms]
   dsimp only;rw[eD];by_cases hd:xs.getD ((lo+hi) / 2) 0<j
   ·rw[Yg hd];refine ZgF h j f _ hi (by omega) (by omega) hs (fun k hk => ?_) h2;by_cases e:k=(lo+hi) / 2
    ·rw[e]; exact hd
    ·exact VX (h.lt (by omega) hms) hd
   ·rw[Yh hd];refine ZgF h j f lo _ (by omega) hm1 (by omega) h1 fun k hk hks => ?_;by_cases e:k=(lo+hi) / 2
    ·rw[e]; omega
    ·have:=h.lt (show (lo+hi) / 2<k by omega) hks;omega
  ·rw[Yh hc];have:lo=hi:=by omega
   subst this;exact⟨hs,h1,h2⟩
theorem Zel{xs:Array Nat}(h:Rs xs)(j:Nat):SetTable.below xs j<=xs.size/\(∀k,k<SetTable.below xs j->xs.getD k 0<j)/\∀k,SetTable.below xs j<=k->k<xs.size->j<=xs.getD k 0 :=
 ZgF h j xs.size 0 xs.size (by omega) (YV _) (Yi _) (fun k hk=>by omega) fun k hk hks=>by omega
theorem Zq9{xs:Array Nat}(h:Rs xs){i:Nat}(hi:i<xs.size):SetTable.below xs (xs.getD i 0+1)=i+1:=by
 obtain⟨a,b,c⟩:=Zel h (xs.getD i 0+1);have h1:¬ SetTable.below xs (xs.getD i 0+1)<=i:=fun z=>by
  have:=c i z hi;omega
 have h2:¬ i+1<SetTable.below xs (xs.getD i 0+1):=fun z=>by
  have h3:=b (i+1) z;have h4:=h.lt (show i<i+1 by omega) (show i+1<xs.size by omega);omega
 omega
theorem Zp1{xs:Array Nat}(h:Rs xs):SetTable.below xs 0=0:=by
 obtain⟨a,b,c⟩:=Zel h 0;by_cases h0:SetTable.below xs 0=0
 ·exact h0
 ·have:=b 0 (by omega);omega
def live(t:SetTable)(j:Nat):Prop:=t.place[SetTable.below t.place j]?=some j
theorem Zgt{t:SetTable}{j:Nat}(h:t.slot j = .empty\/t.slot j = .dummy):¬ live t j:=by
 intro hl;unfold live at hl;have:t.slot j = .live (SetTable.below t.place j):=by
  unfold SetTable.slot;simp[hl]
 rw[this] at h;rcases h with h | h <;> cases h
theorem ZgP{t:SetTable}{f:Nat->Int}{h:Int}:∀(n:Nat) (p:SetTable.Probe) {j:Nat} {d:Option Nat},(∀k,p.dummy=some k->¬ live t k)->SetTable.probe.go t f h n p=some (.empty j d)->¬ live t (d.getD j)
 | 0,p,j,d,_,e=>by unfold SetTable.probe.go at e; cases e
 | n+1,p,j,d,hp,e=>by
  unfold SetTable.probe.go at e;have hadv:∀(q:SetTable.Probe),(t.advance q).dummy=q.dummy:=fun q=>by
   unfold SetTable.advance;split <;> rfl
  cases hs:t.slot p.j with
  | empty =>
   rw[hs] at e;cases e;cases hd:p.dummy with
   | none=>exact Zgt (.inl hs)
   | some k=>exact hp k hd
  | dummy =>
   rw[hs] at e;refine ZgP n _ (fun k hk => ?_) e;rw[hadv] at hk;cases hk;exact Zgt (.inr hs)
  | live i =>
   rw[hs] at e;dsimp only at e;split at e
   ·cases e
   ·refine ZgP n _ (fun k hk => ?_) e;rw[hadv] at hk;exact hp k hk
theorem ZkQ{t:SetTable}{h:Int}{j:Nat}{b:Bool}(e:t.freeSlot h=some (j,b)):¬ live t j:=by
 unfold SetTable.freeSlot at e;split at e
 ·rename_i j' d he;cases e;exact ZgP _ _ (fun k hk=>by cases hk) he
 ·cases e
theorem ZjQ{t:SetTable}{j:Nat}(h:Rs t.place)(hl:¬ live t j):Rs (t.put j).1.place:=by
 obtain⟨a,b,c⟩:=Zel h j;show Rs (SetTable.insertAt t.place (SetTable.below t.place j) j);unfold live at hl;generalize SetTable.below t.place j=p at *;unfold Rs at *;have e:(SetTable.insertAt t.place p j).toList=t.place.toList.take p++j :: t.place.toList.drop p:=by
  unfold SetTable.insertAt;simp[W9,List.extract];rw[Qh (by simp)]
 have hsp:t.place.toList=t.place.toList.take p++t.place.toList.drop p:=(Wh _ _).symm;rw[hsp,Y4] at h;rw[e,Y4];refine⟨h.1,List.pairwise_cons.mpr ⟨fun x hx => ?_,h.2.1⟩,fun x hx y hy => ?_⟩
 ·obtain⟨k,hk,rfl⟩:=QK hx;have hk':p+k<t.place.size:=by simp at hk; omega
  have h1:=c (p+k) (by omega) hk';have h2:(t.place.toList.drop p)[k]=t.place.getD (p+k) 0:=by simp[Array.getD,hk']
  rw[h2];by_cases hz:k=0
  ·subst hz;refine Nat.lt_of_le_of_ne h1 fun z=>hl ?_;rw[Yp (by omega)];simp only[Uu] at z hk';rw[z];simp[Array.getD,hk']
  ·have hp0:p<t.place.size:=by omega
   have h3:=c p (Yi _) hp0;have h4:t.place.getD p 0<t.place.getD (p+k) 0:=by
    have h5:=Wa.mp h.2.1 0 k (by simp; omega) hk (by omega);simpa[Array.getD,hk',hp0] using h5
   omega
 ·rcases Yn.mp hy with rfl | hy
  ·obtain⟨k,hk,rfl⟩:=QK hx;have hk1:k<p:=by simp at hk; omega
   have hk2:k<t.place.size:=by omega
   have:=b k hk1;simpa[Array.getD,hk2] using this
  ·exact h.2.2 x hx y hy
theorem Zem{α:Type}(f:Nat->Option α):∀l:List Nat,((l.filterMap fun j=>(f j).map (j,·)).map (·.1)).Sublist l
 | [] => .slnil
 | x :: l=>by
  rw[WE];cases f x with
  | none=>exact (Zem f l).cons x
  | some y=>exact (Zem f l).cons₂ x
theorem Zsj{mask finger moves:Nat}{led plain:Bool}{hs:Array Int}{t:SetTable}{o:Array Nat}(h:SetTable.laid mask finger moves led plain hs=some (t,o)):Rs t.place:=by
 unfold SetTable.laid at h;cases hc:SetTable.layClean mask hs with
 | none=>rw[hc] at h; cases h
 | some ow =>
  rw[hc] at h;have h':=Option.some.inj h;cases h';unfold Rs;dsimp only;exact List.Pairwise.sublist (Zem _ _) Vy
end DL
end
section
namespace DL
open PySem PySem.Spec PyProof.Rows L2
theorem Zqe{t:SetTable}{es:Array (Int×P7)}{h:Int}{x:P7}(hr:t.plain=true->Rs t.place)(hp:(layNew t es h x).2.1.plain=true):Rs (layNew t es h x).2.1.place:=by
 have ht:=(Zf5 t es h x).2 hp;unfold layNew at hp ⊢;cases hf:t.freeSlot h with
 | none=>rw[hf] at hp; cases hp
 | some q =>
  obtain⟨j,b⟩:=q;rw[hf] at hp;dsimp only at hp ⊢;unfold SetTable.orStandIn at hp ⊢;split
  ·exact ZjQ (hr ht) (ZkQ hf)
  ·rename_i hc;rw[Yh hc] at hp;cases hp
theorem Zm9{t:SetTable}{es:Array (Int×P7)}{k:Nat}(hp:(relayAll t es k).2.1.plain=true):Rs (relayAll t es k).2.1.place:=by
 unfold relayAll at hp ⊢;cases hr:t.relaid (es.map (·.1)) k with
 | none=>rw[hr] at hp; cases hp
 | some q =>
  obtain⟨t',o⟩:=q;rw[hr] at hp;dsimp only at hp ⊢;split
  ·exact Zsj hr
  ·rename_i hc;rw[Yh hc] at hp;cases hp
structure TabI(w:World)(t:SetTable)(n:Nat):Prop where
 fits:t.fits n=true
 led:t.led = !byT w
 plain:t.plain=true->Rs t.place
section
variable(prog:P5)(w:World)
def SetI(h:Heap)(a:Addr)(xs:List Int):Prop :=
 ∃o es ep t,h.get? a=some o/\o.ExactSet/\o.data = .set es ep t/\TabI w t es.size/\ElemsOf (intKind prog w) es.toList/\IntsAre (es.toList.map (·.2)) xs/\xs.Nodup/\es.size<scanBound
end
section
variable{prog:P5}{w:World}{A:P4}{E:P7->P1->Prop}{s:P1}{a:Addr}
theorem Zgx:∀{vs:List P7} {xs:List Int},IntsAre vs xs->∀x,x∈xs ↔ ∃v∈vs,(intKind prog w).is x v=true
 | _,_,.nil,x=>⟨(fun h=>by cases h),fun⟨v,h,_⟩=>by cases h⟩
 | _,_,.cons y t r,x=>by
  have ih:=Zgx r x;constructor
  ·intro h;rcases Yn.mp h with rfl | h
   ·exact⟨_,Yt,intKind_is _ _ _ _⟩
   ·obtain⟨v,h1,h2⟩:=ih.mp h;exact⟨v,Yl _ h1,h2⟩
  ·rintro⟨v,h1,h2⟩;rcases Yn.mp h1 with rfl | h1
   ·have e:x=y:=(intKind prog w).inj _ x y h2 (intKind_is _ _ _ _);rw[e];exact Yt
   ·exact Yl _ (ih.mpr ⟨v,h1,h2⟩)
theorem Zkw:∀{vs vs':List P7},vs.Perm vs'->∀{xs:List Int},IntsAre vs xs->∃xs',IntsAre vs' xs'/\xs.Perm xs':=by
 intro vs vs' p
 induction p with
 | nil=>intro xs h; exact⟨xs,h,.refl _⟩
 | cons v _ ih =>
  intro xs h;cases h with
  | cons x t r =>
   obtain⟨xs',h1,h2⟩:=ih r;exact⟨x :: xs',.cons x t h1,h2.cons x⟩
 | swap u v l =>
  intro xs h;cases h with
  | cons x t r =>
   cases r with
   | cons y t' r'=>exact⟨y :: x :: _,.cons y t' (.cons x t r'),.swap y x _⟩
 | trans _ _ ih1 ih2 =>
  intro xs h;obtain⟨ys,h1,h2⟩:=ih1 h;obtain⟨zs,h3,h4⟩:=ih2 h1;exact⟨zs,h3,h2.trans h4⟩
theorem ints_snoc:∀{vs:List P7} {xs:List Int},IntsAre vs xs->∀(x:Int) (t:Tok),IntsAre (vs++[.int x t]) (xs++[x])
 | _,_,.nil,x,t => .cons x t .nil
 | _,_,.cons y u r,x,t => .cons y u (ints_snoc r x t)
theorem Zhe{es es1:Array (Int×P7)}{ep:Nat}{t t2:SetTable}{o:Obj}{xs1:List Int}{wd:Bool}{g:Bool->Sem Unit}{R:Option Bool->P1->Prop}(hg:∀(b:Bool) (s₁:P1) (Q':Unit->P1->Prop),Q' () s₁->wpAny (model prog w) A (g b) Q' E s₁)
  (ho:s.heap.get? a=some o) (hx:o.ExactSet) (hd:o.data = .set es ep t) (hb:es1.size<scanBound) (hT:TabI w t2 es1.size) (hel:ElemsOf (intKind prog w) es1.toList) (hs:IntsAre (es1.toList.map (·.2)) xs1) (hn:xs1.Nodup)
  (h:∀h' xs',Heap.SameBut a s.heap h'->SetI prog w h' a xs'->xs1.Perm xs'->R (some true) { s with heap:=h' }) :
  wpAny (model prog w) A (do
    storeSet a es1 t2
    if (!wd && t2.tooFull)=true then do
      g (relayAll t2 es1 (SetTable.grown es1.size)).2.2
      storeSet a (relayAll t2 es1 (SetTable.grown es1.size)).1 (relayAll t2 es1 (SetTable.grown es1.size)).2.1
      pure (some true)
     else pure (some true)) R E s:=by
 refine Ya (QA ho hd ?_ (QZ hb));have o1:(s.heap.update a (Obj.putSet es1 t2)).get? a=some { o with data:=.set es1 (ep+1) t2 }:=by
  have q:=YL (Obj.putSet es1 t2) ho (by rw[Qm es1 t2 hd]; rfl);rwa[Qm es1 t2 hd] at q
 have b1:=YH s.heap a (Obj.putSet es1 t2);by_cases hc:(!wd && t2.tooFull)=true
 ·rw[Yg hc];have hp:=relayAll_perm t2 es1 (SetTable.grown es1.size);have hf:=relayAll_fits t2 es1 (SetTable.grown es1.size);have hl:=Zhp t2 es1 (SetTable.grown es1.size);have hrs:=Zm9 (t:=t2) (es:=es1) (k:=SetTable.grown es1.size);generalize relayAll t2 es1 (SetTable.grown es1.size)=Rl at hp hf hl hrs ⊢;obtain⟨es2,t3,gv⟩:=Rl;dsimp only at hp hf hl hrs ⊢;have hz:es2.size=es1.size:=by simpa using hp.length_eq
  obtain⟨xs2,hs2,hpx⟩:=Zkw (hp.map (·.2)).symm hs;refine Ya (hg _ _ _ (Ya (QA (s:={ s with heap:=s.heap.update a (Obj.putSet es1 t2) }) o1 rfl ?_ (QZ (by rw[hz]; exact hb)))));have o2:((s.heap.update a (Obj.putSet es1 t2)).update a (Obj.putSet es2 t3)).get? a=some { o with data:=.set es2 (ep+1+1) t3 }:=by
   have q:=YL (Obj.putSet es2 t3) o1 (by rw[Qm es2 t3 rfl]; rfl);rwa[Qm es2 t3 rfl] at q
  exact Yb (h _ xs2 (b1.trans (YH _ a _)) ⟨_,es2,_,t3,o2,hx,rfl,⟨hf,by rw[hl.1]; exact hT.led,hrs⟩,hel.perm hp,hs2,hpx.nodup_iff.mp hn,by rw[hz]; exact hb⟩ hpx)
 ·rw[Yh hc];exact Yb (h _ xs1 b1 ⟨_,es1,_,t2,o1,hx,rfl,hT,hel,hs,hn,hb⟩ (.refl _))
theorem add_int{x:Int}{tk:Tok}{xs:List Int}{Q:Bool->P1->Prop}(hS:SetI prog w s.heap a xs)(hr:xs.length+1<scanBound)
  (h:∀h' xs' b,Heap.SameBut a s.heap h'->SetI prog w h' a xs'->(∀y,y∈xs' ↔ y∈xs\/y=x)->xs'.length<=xs.length+1->Q b { s with heap:=h' }) :
  wpAny (model prog w) A (setAddHashed a (.int x tk) ((intKind prog w).hash x)) Q E s:=by
 obtain⟨o,es,ep,t,ho,hx,hd,hT,hel,hs,hn,hb⟩:=id hS;have hsz:es.size=xs.length:=by
  have:=hs.length;simpa using this
 have hkey:(intKind prog w).is x (.int x tk)=true:=intKind_is _ _ _ _;have hsc:(Value.int x tk).scannable=true:=rfl;unfold setAddHashed setAddHashedIn;refine YM (Ya (YX ho hd hT.fits ?_));dsimp only;rw[byScan_of (knd:=intKind prog w) hsc hb hel,Yg rfl];unfold setAddByScan;refine Ya (Ya (Wg (Ya (wpAny_setScan_of (knd:=intKind prog w) hkey ho hd hT.fits hel ?_))));cases hf:es.toList.findIdx? (fun e=>(intKind prog w).is x e.2) with
 | some j =>
  dsimp only;obtain⟨hj,hp,_⟩:=VA.mp hf;have hm:x∈xs:=(Zgx hs x).mpr ⟨_,Y9.mpr ⟨_,QH hj,rfl⟩,hp⟩;refine Yb (Yb ?_);have e:s = { s with heap:=s.heap }:=by cases s; rfl
  rw[e];exact h s.heap xs false (Heap.SameBut.refl a s.heap) hS (fun y=>⟨.inl,fun z=>z.elim id fun z=>z ▸ hm⟩) (QT _)
 | none =>
  dsimp only;have hm:x ∉ xs:=fun hm=>by
   obtain⟨v,hv,q⟩:=(Zgx (prog:=prog) (w:=w) hs x).mp hm;obtain⟨e,he,rfl⟩:=Y9.mp hv;have:=Um.mp hf e he;rw[q] at this;cases this
  have hg:∀(b:Bool) {s₁:P1} {Q':Unit->P1->Prop},Q' () s₁->wpAny (model prog w) A (match b with | true=>rule "set.scan.the-table-gave-way" | false=>pure ()) Q' E s₁:=by
   intro b s₁ Q' hq;cases b
   ·exact Yb hq
   ·exact Wg hq
  have hp:=layNew_perm t es ((intKind prog w).hash x) (.int x tk);have hfit:=layNew_fits t es ((intKind prog w).hash x) (.int x tk);have hl:=Zf5 t es ((intKind prog w).hash x) (.int x tk);have hrs:=Zqe (t:=t) (es:=es) (h:=(intKind prog w).hash x) (x:=.int x tk) hT.plain;generalize layNew t es ((intKind prog w).hash x) (.int x tk)=Ln at hp hfit hl hrs ⊢;obtain⟨es1,t1,wd,gv⟩:=Ln;dsimp only at hp hfit hl hrs ⊢;rw[Qd] at hp;have hz:es1.size=es.size+1:=by simpa using hp.length_eq
  have hel1:ElemsOf (intKind prog w) es1.toList:=(hel.push hkey hsc).perm hp;have hs0:IntsAre ((es.toList++[((intKind prog w).hash x,Value.int x tk)]).map (·.2)) (xs++[x]):=by
   rw[V1];exact ints_snoc hs x tk
  obtain⟨xs1,hs1,hpx⟩:=Zkw (hp.map (·.2)).symm hs0;have hn1:xs1.Nodup:=hpx.nodup_iff.mp (Qy.mpr ⟨hn,by simp,fun u hu v hv=>by
   rw[Ys.mp hv];rintro rfl;exact hm hu⟩)
  have fin:∀h' xs',Heap.SameBut a s.heap h'->SetI prog w h' a xs'->xs1.Perm xs'->Q true { s with heap:=h' }:=fun h' xs' b1 b2 b3=>h h' xs' true b1 b2 (fun y=>by
   rw[<-(hpx.trans b3).mem_iff];simp) (by rw[<-(hpx.trans b3).length_eq]; simp)
  refine Ya (hg _ ?_);by_cases hpl:t1.plain=true
  ·rw[Yg hpl,hashByValue_scannable 8 hsc];refine Ya (Yb ?_);refine Zhe (t2:=if plainKind (Value.int x tk)=true then t1 else { t1 with plain:=false }) (fun b s₁ Q' hq=>by cases b <;> first | exact Yb hq | exact Wg hq) ho hx hd (by omega) ?_ hel1 hs1 hn1 fun h' xs' b1 b2 b3=>Yb (fin h' xs' b1 b2 b3);rw[Yg (show plainKind (Value.int x tk)=true from rfl)];exact⟨hfit,by rw[<-hT.led]; exact hl.1,hrs⟩
  ·rw[Yh hpl];refine Ya (Yb ?_);simp only[Qb];exact Zhe (fun b s₁ Q' hq=>by cases b <;> first | exact Yb hq | exact Wg hq) ho hx hd (by omega) ⟨hfit,by rw[<-hT.led]; exact hl.1,fun z=>absurd z hpl⟩ hel1 hs1 hn1 fun h' xs' b1 b2 b3=>Yb (fin h' xs' b1 b2 b3)
end
end DL
end
section
namespace DL
open PySem PySem.Spec PyProof.Rows L2 PySem.W SO
section
variable{prog:P5}{w:World}{A:P4}{E:P7->P1->Prop}{s:P1}{a:Addr}
theorem Zkn{o:Obj}{es:Array (Int×P7)}{ep:Nat}{t:SetTable}{slot i:Nat}{Q:Option (P7×Nat)->P1->Prop}(hb:byT w=false)(ho:s.heap.get? a=some o)(hd:o.data = .set es ep t)(hT:TabI w t es.size)(h1:¬ (!t.plain && decide (es.size > 1))=true)
  (h:Q (match es[SetTable.below t.place slot]?,t.place[SetTable.below t.place slot]? with | some (_,x),some j=>some (x,j+1) | _,_=>none) s):wpAny (model prog w) A (setNext a slot i ep) Q E s:=by
 unfold setNext;refine Ya (YX ho hd hT.fits ?_);dsimp only;refine Ya (Zea ?_);rw[hb];refine Yw (fun z=>absurd z (by decide)) (fun _ => ?_);refine Yw (fun z => ?_) (fun _ => ?_)
 ·exact absurd z h1
 ·have hl:t.led=true:=by rw[hT.led,hb]; rfl
  refine Ya ?_;refine V9 (a:=()) ?_ (Yb h);show (if (!t.led && !es.isEmpty)=true then unsupported "set:maker-not-led" else pure ())=_;rw[hl];rfl
theorem SetI.kept{h h':Heap}{xs:List Int}(x:SetI prog w h a xs)(hk:∀b o,h.get? b=some o->h'.get? b=some o):SetI prog w h' a xs:=by
 obtain⟨o,es,ep,t,ho,r⟩:=x;exact⟨o,es,ep,t,hk _ _ ho,r⟩
theorem SetI.typeIs{xs:List Int}(x:SetI prog w s.heap a xs):s.TypeIs (.ref a) "set":=by
 obtain⟨o,es,ep,t,ho,hx,_⟩:=x;exact⟨o,ho,hx.1⟩
theorem SetI.len{h:Heap}{xs:List Int}(x:SetI prog w h a xs):xs.length<scanBound/\xs.Nodup/\a<h.objs.size:=by
 obtain⟨o,es,ep,t,ho,hx,hd,hT,hel,hs,hn,hb⟩:=x;have:=hs.length;rw[Yr,Yo] at this;exact⟨by omega,hn,Ym ho⟩
end
end DL
end
section
end
section
namespace DL
open PySem PySem.SetTable
def lq(m:Nat):Nat->Nat×Nat->Nat×Nat
 | 0,q=>q
 | n+1,q=>lq m n (leap m q.1 q.2)
theorem ZiF(m:Nat):∀(a b:Nat) (q:Nat×Nat),lq m (a+b) q=lq m b (lq m a q)
 | 0,b,q=>by rw[Wv]; rfl
 | a+1,b,q=>by rw[Nat.succ_add]; exact ZiF m a b _
theorem Zi2(m:Nat):∀(n:Nat) (q:Nat×Nat),(lq m n q).2=q.2 / 32 ^ n
 | 0,q=>by simp[lq]
 | n+1,q=>by
  rw[lq,Zi2];show q.2 / 32 / 32 ^ n=_;rw[Nat.div_div_eq_div_mul,Nat.pow_succ,Nat.mul_comm]
theorem Zij(m:Nat):∀(n:Nat) (q:Nat×Nat),q.1<=m->(lq m n q).1<=m
 | 0,q,h=>h
 | n+1,q,h=>Zij m n _ (by
  show (q.1 * 5+1+q.2 / 32) % (m+1)<=m;have:=V2 (q.1 * 5+1+q.2 / 32) (show 0<m+1 by omega);omega)
def lc(m:Nat):Nat->Nat->Nat
 | 0,i=>i
 | n+1,i=>lc m n ((i * 5+1) % (m+1))
theorem Zfj(m:Nat):∀(a b i:Nat),lc m (a+b) i=lc m b (lc m a i)
 | 0,b,i=>by rw[Wv]; rfl
 | a+1,b,i=>by rw[Nat.succ_add]; exact Zfj m a b _
theorem ZjI(m:Nat):∀(n i:Nat),lq m n (i,0)=(lc m n i,0)
 | 0,i=>rfl
 | n+1,i=>by
  rw[lq];have:leap m (i,0).1 (i,0).2=((i * 5+1) % (m+1),0):=by simp[leap]
  rw[this,ZjI];rfl
def orb(m:Nat):Nat->Nat->List Nat
 | 0,_=>[]
 | n+1,i=>i :: orb m n ((i * 5+1) % (m+1))
theorem Zhq(m:Nat):∀(n i x:Nat),x∈orb m n i->∃k,k<n/\lc m k i=x
 | 0,i,x,h=>by cases h
 | n+1,i,x,h=>by
  rcases Yn.mp h with rfl | h
  ·exact⟨0,by omega,rfl⟩
  ·obtain⟨k,h1,h2⟩:=Zhq m n _ x h;exact⟨k+1,by omega,h2⟩
def full(m:Nat):Bool:=(List.range (m+1)).all (fun e=>(orb m (m+1) 0).contains e) && lc m (m+1) 0 == 0
theorem Zkk{m e:Nat}(h:full m=true)(he:e<=m):∃a,a<=m/\lc m a 0=e:=by
 unfold full at h;rw[Y2] at h;have h1:=WJ.mp h.1 e (by simp; omega);obtain⟨k,h2,h3⟩:=Zhq m (m+1) 0 e (by simpa using h1);exact⟨k,by omega,h3⟩
theorem ZsV{m i e:Nat}(h:full m=true)(hi:i<=m)(he:e<=m):∃n,n<=m/\lc m n i=e:=by
 have h0:lc m (m+1) 0=0:=by
  unfold full at h;rw[Y2] at h;exact eq_of_beq h.2
 obtain⟨a,ha,rfl⟩:=Zkk h hi;obtain⟨b,hb,rfl⟩:=Zkk h he;by_cases hab:a<=b
 ·exact⟨b - a,by omega,by rw[<-Zfj,show a+(b - a)=b by omega]⟩
 ·exact⟨m+1+b - a,by omega,by rw[<-Zfj,show a+(m+1+b - a)=(m+1)+b by omega,Zfj,h0]⟩
def Msk(m:Nat):Prop:=m=7\/m=31\/m=127\/m=511
theorem Zpq:full 7=true:=by decide +kernel
theorem ZoP:full 31=true:=by decide +kernel
theorem Zlf:full 127=true:=by decide +kernel
theorem ZpG:full 511=true:=by decide +kernel
theorem Msk.full{m:Nat}(h:Msk m):full m=true:=by
 rcases h with rfl | rfl | rfl | rfl
 ·exact Zpq
 ·exact ZoP
 ·exact Zlf
 ·exact ZpG
theorem Zj5{m e:Nat}(hm:Msk m)(q:Nat×Nat)(hi:q.1<=m)(hp:q.2<2 ^ 64)(he:e<=m):∃n,1<=n/\n<=13+m/\(lq m n q).1=e:=by
 have h2:(lq m 13 q).2=0:=by
  rw[Zi2];exact Nat.div_eq_of_lt (Yz hp (by decide))
 obtain⟨n,h3,h4⟩:=ZsV hm.full (Zij m 13 q hi) he;refine⟨13+n,by omega,by omega,?_⟩;rw[ZiF];have:lq m 13 q=((lq m 13 q).1,0):=by rw[<-h2]
 rw[this,ZjI,h4]
section
variable{t:SetTable}
def Zt(t:SetTable):Nat->Probe->Probe
 | 0,p=>p
 | n+1,p=>Zt t n (t.advance p)
theorem Zcj:∀(a b:Nat) (p:Probe),Zt t (a+b) p=Zt t b (Zt t a p)
 | 0,b,p=>by rw[Wv]; rfl
 | a+1,b,p=>by rw[Nat.succ_add]; exact Zcj a b _
theorem Zoo(n:Nat)(p:Probe):Zt t (n+1) p=t.advance (Zt t n p):=Zcj n 1 p
theorem ZgQ:∀(n:Nat) (p:Probe),(Zt t n p).dummy=p.dummy
 | 0,p=>rfl
 | n+1,p=>by
  rw[Zt,ZgQ n];unfold advance;split <;> rfl
theorem ZfS:∀(k:Nat) (p:Probe),k<=p.more->Zt t k p = { p with j:=p.j+k,more:=p.more - k }
 | 0,p,_=>rfl
 | k+1,p,h=>by
  rw[Zt];have:t.advance p = { p with j:=p.j+1,more:=p.more - 1 }:=by
   unfold advance;rw[Yg (by omega)]
  rw[this,ZfS k _ (by show k<=p.more - 1; omega)];dsimp only;congr 1 <;> omega
def Zgy(t:SetTable)(p:Probe)(L:Nat×Nat):Probe:={ p with j:=L.1,more:=runEnd t.mask L.1 - L.1,i:=L.1,perturb:=L.2 }
theorem ZfA(p:Probe):Zt t (p.more+1) p=Zgy t p (leap t.mask p.i p.perturb):=by
 rw[Zoo,ZfS _ _ (Yi _)];unfold advance;rw[Yh (by show ¬ p.more - p.more > 0; omega)];rfl
theorem ZiD(m i:Nat):runEnd m i - i<=9:=by
 unfold runEnd;split <;> omega
theorem Zkj:∀(n:Nat) (p:Probe),p.more<=9->∃k,k<=10 * (n+1)/\Zt t k p=Zgy t p (lq t.mask (n+1) (p.i,p.perturb))
 | 0,p,h=>⟨p.more+1,by omega,ZfA p⟩
 | n+1,p,h=>by
  obtain⟨k,h1,h2⟩:=Zkj n (Zgy t p (leap t.mask p.i p.perturb)) (ZiD _ _);refine⟨p.more+1+k,by omega,?_⟩;rw[Zcj,ZfA,h2];rfl
theorem Zoz{e:Nat}(hm:Msk t.mask){p:Probe}(h1:p.more<=9)(h2:p.i<=t.mask)(h3:p.perturb<2 ^ 64)(he:e<=t.mask):∃k,k<=10 * (13+t.mask)/\(Zt t k p).j=e:=by
 obtain⟨n,a,b,c⟩:=Zj5 hm (p.i,p.perturb) h2 h3 he;obtain⟨k,d,e'⟩:=Zkj (t:=t) (n - 1) p h1;rw[show n - 1+1=n by omega] at d e';exact⟨k,by omega,by rw[e']; exact c⟩
theorem Zix(h:Int):bits h<2 ^ 64:=by
 unfold bits;have:=Qn h (show (0:Int)<2 ^ 64 by decide);have:=QR h (show (2 ^ 64:Int)≠0 by decide);omega
theorem Zh1:∀(n:Nat) (l:List Nat),(∀e,e<n->e∈l)->n<=l.length
 | 0,l,_=>YV _
 | n+1,l,h=>by
  have hn:=h n (by omega);have:=Zh1 n (l.erase n) fun e he=>(List.mem_erase_of_ne (by omega)).mpr (h e (by omega));rw[UA hn] at this;have:0<l.length:=List.length_pos_of_mem hn;omega
theorem Zk3{l:List Nat}{m:Nat}(h:l.length<=m):∃e,e<=m/\e ∉ l:=by
 refine WI fun z => ?_;have:=Zh1 (m+1) l fun e he=>WI fun y=>z ⟨e,by omega,y⟩;omega
theorem Zgc(j:Nat):has #[] j=false:=by simp[has]
theorem slot_of(hd:t.dummies = #[])(j:Nat):t.slot j = .empty\/∃i,t.slot j = .live i/\t.place[i]?=some j:=by
 unfold slot;by_cases h:(t.place[below t.place j]? == some j)=true
 ·right;exact⟨below t.place j,by simp only[h,Qb],eq_of_beq h⟩
 ·left;simp only[h,Wz,hd,Zgc,YQ]
theorem below_at{xs:Array Nat}(h:Rs xs){i j:Nat}(e:xs[i]?=some j):below xs j=i:=by
 obtain⟨hi,e⟩:=WC.mp e;obtain⟨a,b,c⟩:=Zel h j;have hg:xs.getD i 0=j:=by simp[Array.getD,hi,e]
 have h1:¬ i<below xs j:=fun z=>by have:=b i z; omega
 have h2:¬ below xs j<i:=fun z=>by
  have h3:=h.lt z hi;have h4:=c _ (Yi _) (by omega);omega
 omega
theorem ZeZ(h:Rs t.place){i j:Nat}(e:t.place[i]?=some j):t.slot j = .live i:=by
 unfold slot;simp only[below_at h e,e,beq_self_eq_true,Qb]
theorem ZjN(hd:t.dummies = #[]){j:Nat}(h:j ∉ t.place.toList):t.slot j = .empty:=by
 rcases slot_of hd j with e | ⟨i,_,e⟩
 ·exact e
 ·exact absurd (by rw[<-YG] at e; exact Wx e) h
theorem ZnD{j:Nat}(hr:Rs t.place)(h:t.slot j = .empty):j ∉ t.place.toList:=fun z=>by
 obtain⟨i,hi⟩:=WZ.mp z;rw[YG] at hi;rw[ZeZ hr hi] at h;cases h
theorem ZkK{f:Nat->Int}{h:Int}(hd:t.dummies = #[]):∀(F:Nat) (p:Probe) (n:Nat),n<F->p.dummy=none->t.slot (Zt t n p).j = .empty ->
  ∃k,k<=n/\(∀m,m<k->∃i,t.slot (Zt t m p).j = .live i/\(f i == h)=false) /\
   ((t.slot (Zt t k p).j = .empty/\probe.go t f h F p=some (.empty (Zt t k p).j none)) \/
    (∃i,t.slot (Zt t k p).j = .live i/\(f i == h)=true/\k<n/\probe.go t f h F p=some (.candidate (Zt t k p).j i (Zt t (k+1) p))))
 | 0,p,n,hn,_,_=>by omega
 | F+1,p,n,hn,hp,he=>by
  unfold probe.go;rcases slot_of hd p.j with e | ⟨i,e,_⟩
  ·refine⟨0,YV _,fun m hm=>by omega,.inl ⟨e,?_⟩⟩;rw[e,hp];rfl
  ·have hn0:n≠0:=by
    rintro rfl;rw[show Zt t 0 p=p from rfl,e] at he;cases he
   rw[e];cases hh:f i == h with
   | true =>
    refine⟨0,YV _,fun m hm=>by omega,.inr ⟨i,e,hh,by omega,?_⟩⟩;simp only[hh,Qb];rfl
   | false =>
    simp only[hh,Wz,YQ];obtain⟨k,a,b,c⟩:=ZkK (f:=f) (h:=h) hd F (t.advance p) (n - 1) (by omega) (by rw[<-hp]; exact ZgQ 1 p) (by
     have:Zt t n p=Zt t (n - 1) (t.advance p):=by
      obtain⟨n',rfl⟩:∃n',n=n' + 1:=⟨n - 1,by omega⟩;rfl
     rw[<-this]; exact he)
    refine⟨k+1,by omega,fun m hm => ?_,?_⟩
    ·cases m with
     | zero=>exact⟨i,e,hh⟩
     | succ m=>exact b m (by omega)
    ·rcases c with⟨c1,c2⟩ | ⟨i',c1,c2,c3,c4⟩
     ·exact .inl ⟨c1,c2⟩
     ·exact .inr ⟨i',c1,c2,by omega,c4⟩
end
end DL
end
section
namespace DL
open PySem PySem.SetTable
def Pth(t:SetTable)(p:Probe)(j:Nat):Prop:=∃n,(Zt t n p).j=j/\∀m,m<n->t.slot (Zt t m p).j≠.empty
structure TabP(t:SetTable)(es:List (Int×P7)):Prop where
 msk:Msk t.mask
 dum:t.dummies = #[]
 rs:Rs t.place
 len:t.place.size=es.length
 few:es.length * 5<t.mask * 3
 pth:∀q∈t.place.toList.zip es,Pth t (t.probeStart q.2.1) q.1
section
variable{t t':SetTable}{es:List (Int×P7)}
theorem Msk.le{m:Nat}(h:Msk m):7<=m/\m<=511/\m % 2=1:=by
 rcases h with rfl | rfl | rfl | rfl <;> decide
theorem TabP.room(T:TabP t es):es.length<=t.mask:=by
 have:=T.few;omega
theorem TabP.fits(T:TabP t es):t.fits es.length=true:=by
 have h:=T.room;have l:=T.len;have d:=T.dum;unfold SetTable.fits SetTable.fill;simp[l,d,h]
theorem TabP.gave(T:TabP t es):t.gaveWay=false:=by
 have:=T.msk.le;unfold SetTable.gaveWay;simp[this.2.2]
theorem Zi0(t:SetTable)(h:Int):(t.probeStart h).more<=9/\(t.probeStart h).i<=t.mask/\(t.probeStart h).perturb<2 ^ 64/\(t.probeStart h).dummy=none:=by
 refine⟨ZiD _ _,?_,Zix h,rfl⟩;have:=V2 (bits h) (show 0<t.mask+1 by omega);show bits h % (t.mask+1)<=t.mask;omega
theorem TabP.ends(T:TabP t es)(h:Int):∃N,N<=10 * (13+t.mask)/\t.slot (Zt t N (t.probeStart h)).j = .empty:=by
 obtain⟨e,h1,h2⟩:=Zk3 (l:=t.place.toList) (m:=t.mask) (by rw[Yo,T.len]; exact T.room);obtain⟨a,b,c,_⟩:=Zi0 t h;obtain⟨k,h3,h4⟩:=Zoz T.msk a b c h1;exact⟨k,h3,by rw[h4]; exact ZjN T.dum h2⟩
theorem ZoD(h:t.mask=t'.mask)(p:Probe):t.advance p=t'.advance p:=by
 unfold advance;rw[h]
theorem ZeV(h:t.mask=t'.mask):∀(n:Nat) (p:Probe),Zt t n p=Zt t' n p
 | 0,p=>rfl
 | n+1,p=>by rw[Zt,Zt,ZoD h,ZeV h]
theorem Pth.mono{p:Probe}{j:Nat}(h:t.mask=t'.mask)(hs:∀x,t.slot x≠.empty->t'.slot x≠.empty)(q:Pth t p j):Pth t' p j:=by
 obtain⟨n,a,b⟩:=q;exact⟨n,by rw[<-ZeV h]; exact a,fun m hm=>by rw[<-ZeV h]; exact hs _ (b m hm)⟩
theorem ZgN(hd:t.dummies = #[])(hr:Rs t.place)(x:Nat):t.slot x≠.empty ↔ x∈t.place.toList:=by
 constructor
 ·intro h;exact WI fun z=>h (ZjN hd z)
 ·intro h z;exact ZnD hr z h
theorem ZeP{α:Type}(xs:Array α)(p:Nat)(x:α):(insertAt xs p x).toList=xs.toList.take p++x :: xs.toList.drop p:=by
 unfold insertAt;simp[W9,List.extract];rw[Qh (by simp)]
theorem Zml{α β:Type}{xs:List α}{ys:List β}(h:xs.length=ys.length)(p:Nat)(x:α)(y:β)(q:α×β)(hq:q∈(xs.take p++x :: xs.drop p).zip (ys.take p++y :: ys.drop p)):q=(x,y)\/q∈xs.zip ys:=by
 rw[UE (by simp[h]),Uc] at hq;rcases YJ.mp hq with z | z
 ·right;rw[<-Wh p xs,<-Wh p ys,UE (by simp[h])];exact Wn _ z
 ·rcases Yn.mp z with z | z
  ·exact .inl z
  ·right;rw[<-Wh p xs,<-Wh p ys,UE (by simp[h])];exact YK _ z
theorem TabP.put(T:TabP t es){j:Nat}{h:Int}{v:P7}(hj:t.slot j = .empty)(hp:Pth t (t.probeStart h) j)(pl:Bool)(hf:(es.length+1) * 5<t.mask * 3) :
  TabP { (t.put j).1 with plain:=pl } (es.take (t.put j).2++(h,v) :: es.drop (t.put j).2):=by
 have hd:(t.put j).1.dummies = #[]:=by
  show (if has t.dummies j then _ else t.dummies)=_;rw[T.dum,Zgc];rfl
 have hpl:(t.put j).1.place.toList=t.place.toList.take (below t.place j)++j :: t.place.toList.drop (below t.place j):=ZeP _ _ _;have hrs:Rs (t.put j).1.place:=ZjQ T.rs (Zgt (.inl hj));have hl:(es.take (t.put j).2++(h,v) :: es.drop (t.put j).2).length=es.length+1:=by
  simp only[Yy,YB,Y1,WA];omega
 have hsl:∀x,t.slot x≠.empty->({ (t.put j).1 with plain:=pl }:SetTable).slot x≠.empty:=fun x hx=>by
  rw[ZgN (show ({ (t.put j).1 with plain:=pl }:SetTable).dummies = #[] from hd) (show Rs ({ (t.put j).1 with plain:=pl }:SetTable).place from hrs)];have:=(ZgN T.dum T.rs x).mp hx;show x∈(t.put j).1.place.toList;rw[hpl,YJ,Yn];rw[<-Wh (below t.place j) t.place.toList,YJ] at this;rcases this with z | z
  ·exact .inl z
  ·exact .inr (.inr z)
 refine⟨T.msk,hd,hrs,?_,?_,fun q hq => ?_⟩
 ·have h1:=congrArg List.length hpl;rw[Yo] at h1;rw[hl];show (t.put j).1.place.size=_;rw[h1];have:=T.len;simp only[Yy,YB,Y1,WA,Yo];omega
 ·rw[hl];exact hf
 ·have hq':q∈(t.place.toList.take (below t.place j)++j :: t.place.toList.drop (below t.place j)).zip (es.take (below t.place j)++(h,v) :: es.drop (below t.place j)):=by
   rw[<-hpl];exact hq
  rcases Zml (by rw[Yo]; exact T.len) _ _ _ q hq' with rfl | z
  ·exact Pth.mono (t:=t) rfl hsl hp
  ·exact Pth.mono (t:=t) rfl hsl (T.pth q z)
end
section
variable{t:SetTable}{owner:Array (Option Nat)}
def Zfe(t:SetTable)(owner:Array (Option Nat))(p:Probe)(j:Nat):Prop:=∃n,(Zt t n p).j=j/\∀m,m<n->∃k,owner[(Zt t m p).j]?=some (some k)
def stP(t:SetTable)(i pert:Nat):Probe:={ j:=i,more:=runEnd t.mask i - i,i,perturb:=pert,dummy:=none }
theorem Zqj{m i:Nat}(h:i<=m):runEnd m i<=m/\i<=runEnd m i:=by
 unfold runEnd;split <;> omega
theorem getD_some{j:Nat}(h:j<owner.size)(hn:(owner.getD j (some 0)).isNone=false):∃k,owner[j]?=some (some k):=by
 rw[Yp h];simp only[Array.getD,h,dite_true] at hn;have hn':owner[j].isNone=false:=hn;cases e:owner[j] with
 | none=>rw[e] at hn'; cases hn'
 | some k=>exact⟨k,rfl⟩
theorem getD_none{j:Nat}(hn:(owner.getD j (some 0)).isNone=true):owner[j]?=some none:=by
 by_cases h:j<owner.size
 ·rw[Yp h];simp only[Array.getD,h,dite_true] at hn;have hn':owner[j].isNone=true:=hn;cases e:owner[j] with
  | none=>rfl
  | some k=>rw[e] at hn'; cases hn'
 ·simp[Array.getD,h] at hn
theorem Ziv(ho:owner.size=t.mask+1):∀(F i pert:Nat),i<=t.mask->(∃n,n<F/\owner[(lq t.mask n (i,pert)).1]?=some none) ->
  ∃j,layClean.free t.mask owner F i pert=some j/\owner[j]?=some none/\Zfe t owner (stP t i pert) j
 | 0,i,pert,_,⟨n,h,_⟩=>by omega
 | F+1,i,pert,hi,⟨n,h1,h2⟩=>by
  have hr:=Zqj hi;have lin:∀m,m<=runEnd t.mask i - i->(Zt t m (stP t i pert)).j=i+m:=fun m hm=>by
   rw[ZfS m _ hm];rfl
  unfold layClean.free;cases hf:(List.range (runEnd t.mask i+1 - i)).find? fun k=>(owner.getD (i+k) (some 0)).isNone with
  | some k =>
   rw[List.find?_range_eq_some] at hf;obtain⟨f1,f2,f3⟩:=hf;have hk:k<runEnd t.mask i+1 - i:=WD.mp f2;refine⟨i+k,rfl,getD_none f1,k,lin k (by omega),fun m hm => ?_⟩;rw[lin m (by omega)];have:=f3 m hm;exact getD_some (by omega) (by simpa using this)
  | none =>
   have hall:∀m,m<=runEnd t.mask i - i->∃k,owner[i+m]?=some (some k):=fun m hm=>by
    have:=List.find?_eq_none.mp hf m (WD.mpr (by omega));exact getD_some (by omega) (Bool.eq_false_iff.mpr this)
   have hn0:n≠0:=by
    rintro rfl;obtain⟨k,e⟩:=hall 0 (YV _);rw[Uu] at e;have h2':owner[i]?=some none:=h2;rw[e] at h2';cases h2'
   obtain⟨n',rfl⟩:∃n',n=n' + 1:=⟨n - 1,by omega⟩;have hle:(leap t.mask i pert).1<=t.mask:=by
    have:=V2 (i * 5+1+pert / 32) (show 0<t.mask+1 by omega);show (i * 5+1+pert / 32) % (t.mask+1)<=t.mask;omega
   obtain⟨j,a,b,n2,c,d⟩:=Ziv ho F (leap t.mask i pert).1 (leap t.mask i pert).2 hle ⟨n',by omega,h2⟩;have hlp:Zt t (runEnd t.mask i - i+1) (stP t i pert)=stP t (leap t.mask i pert).1 (leap t.mask i pert).2:=ZfA (stP t i pert);refine⟨j,a,b,runEnd t.mask i - i+1+n2,by rw[Zcj,hlp]; exact c,fun m hm => ?_⟩;by_cases hmm:m<runEnd t.mask i - i+1
   ·rw[lin m (by omega)];exact hall m (by omega)
   ·have e:m=runEnd t.mask i - i+1+(m - (runEnd t.mask i - i+1)):=by omega
    rw[e,Zcj,hlp];exact d _ (by omega)
structure OwnOk(t:SetTable)(hs:List Int)(owner:Array (Option Nat))(k:Nat):Prop where
 size:owner.size=t.mask+1
 perm:(owner.toList.filterMap id).Perm (List.range k)
 way:∀j i,owner[j]?=some (some i)->∃h,hs[i]?=some h/\Zfe t owner (t.probeStart h) j
theorem Zg7{k:Nat}:∀(l:List (Option Nat)) (j:Nat),l[j]?=some none->((l.set j (some k)).filterMap id).Perm (k :: l.filterMap id)
 | [],j,h=>by simp at h
 | x :: l,0,h=>by
  simp at h;subst h;simp
 | x :: l,j+1,h=>by
  have ih:=Zg7 (k:=k) l j (by simpa using h);cases x with
  | none=>simpa using ih
  | some y =>
   simp only[List.set_cons_succ,WE,id];exact (ih.cons y).trans (.swap k y _)
theorem Zg6:∀(l:List (Option Nat)),(∀j,j<l.length->l[j]?≠some none)->l.length<=(l.filterMap id).length
 | [],_=>Yi _
 | none :: l,h=>absurd rfl (h 0 (by simp))
 | some x :: l,h=>by
  have:=Zg6 l fun j hj=>by
   have:=h (j+1) (by simpa using hj);simpa using this
  simpa using this
theorem OwnOk.step{hs:List Int}{k:Nat}{h:Int}(O:OwnOk t hs owner k)(hm:Msk t.mask)(hk:k<=t.mask)(hh:hs[k]?=some h) :
  ∃j,layClean.free t.mask owner (turns t.mask) (bits h % (t.mask+1)) (bits h)=some j/\OwnOk t hs (owner.setIfInBounds j (some k)) (k+1):=by
 obtain⟨e,he⟩:∃e:Nat,owner[e]?=some none:=by
  refine WI fun z => ?_;have h1:=Zg6 owner.toList fun j _ hj=>z ⟨j,by rw[<-YG]; exact hj⟩;rw[O.perm.length_eq,Ws,Yo,O.size] at h1;omega
 have hel:e<=t.mask:=by
  have:=(WC.mp he).1;rw[O.size] at this;omega
 have hi:bits h % (t.mask+1)<=t.mask:=by
  have:=V2 (bits h) (show 0<t.mask+1 by omega);omega
 obtain⟨n,h1,h2,h3⟩:=Zj5 hm (bits h % (t.mask+1),bits h) hi (Zix h) hel;obtain⟨j,a,b,c⟩:=Ziv O.size (turns t.mask) _ _ hi ⟨n,by unfold turns; omega,by rw[h3]; exact he⟩;have hj:j<owner.size:=(WC.mp b).1;have keep:∀x i,owner[x]?=some (some i)->(owner.setIfInBounds j (some k))[x]?=some (some i):=fun x i hx=>by
  rw[V8];rw[Yh]
  ·exact hx
  ·rintro rfl;rw[b] at hx;cases hx
 have keepP:∀{p:Probe} {x:Nat},Zfe t owner p x->Zfe t (owner.setIfInBounds j (some k)) p x:=fun⟨n,u,v⟩=>⟨n,u,fun m hm=>let ⟨i,hi⟩:=v m hm; ⟨i,keep _ _ hi⟩⟩;refine⟨j,a,by simp[O.size],?_,fun x i hx => ?_⟩
 ·rw[Q7];refine (Zg7 (k:=k) owner.toList j (by rw[YG]; exact b)).trans ?_;refine (O.perm.cons k).trans ?_;rw[List.range_succ];exact (List.perm_append_singleton k _).symm
 ·rw[V8] at hx;by_cases hjx:j=x
  ·subst hjx;rw[Yg rfl,Yg hj] at hx;cases hx;exact⟨h,hh,keepP c⟩
  ·rw[Yh hjx] at hx;obtain⟨h',u,v⟩:=O.way x i hx;exact⟨h',u,keepP v⟩
theorem Zmh{hs:List Int}(hm:Msk t.mask)(hl:hs.length<=t.mask):∃owner,layClean t.mask hs.toArray=some owner/\OwnOk t hs owner hs.length:=by
 have main:∀(rest done:List Int) (owner:Array (Option Nat)),hs=done++rest->OwnOk t hs owner done.length ->
   ∃owner',rest.foldl (fun (acc:Option (Array (Option Nat)×Nat)) h=>do
    let (owner,k) <-acc
    let j <-layClean.free t.mask owner (turns t.mask) (bits h % (t.mask+1)) (bits h)
    pure (owner.setIfInBounds j (some k),k+1)) (some (owner,done.length))=some (owner',hs.length)/\OwnOk t hs owner' hs.length:=by
  intro rest
  induction rest with
  | nil =>
   intro done owner e O;rw[Wo] at e;subst e;exact⟨owner,rfl,O⟩
  | cons h rest ih =>
   intro done owner e O;have hl':done.length<=t.mask:=by
    have:=congrArg List.length e;simp at this;omega
   obtain⟨j,a,O'⟩:=O.step hm hl' (h:=h) (by rw[e]; simp);rw[Va];have:(do
    let (owner,k) <-(some (owner,done.length):Option (Array (Option Nat)×Nat))
    let j <-layClean.free t.mask owner (turns t.mask) (bits h % (t.mask+1)) (bits h)
    pure (owner.setIfInBounds j (some k),k+1))=some (owner.setIfInBounds j (some done.length),done.length+1):=by
    show (layClean.free t.mask owner (turns t.mask) (bits h % (t.mask+1)) (bits h)).bind _=_;rw[a];rfl
   rw[this];have:=ih (done++[h]) (owner.setIfInBounds j (some done.length)) (by simp[e]) (by rw[Yy]; exact O');rw[Yy] at this;exact this
 obtain⟨owner,a,O⟩:=main hs [] (Array.replicate (t.mask+1) none) rfl ⟨by simp,by
  rw[Array.toList_replicate];have:∀n,(List.replicate n (none:Option Nat)).filterMap id=[]:=fun n=>by
   induction n with
   | zero=>rfl
   | succ n ih=>rw[List.replicate_succ,WE]; exact ih
  rw[this];exact .refl _,fun j i hx=>by
   rw[Array.getElem?_replicate] at hx;split at hx <;> cases hx⟩
 refine⟨owner,?_,O⟩;unfold layClean;rw[<-Array.foldl_toList];have a':=congrArg (Option.map (·.1)) a;exact a'
end
theorem ZnI(owner:Array (Option Nat)):((List.range owner.size).filterMap fun j=>(owner.getD j none).map (j,·)).map (·.2)=owner.toList.filterMap id:=by
 rw[List.map_filterMap];have e:owner.toList=(List.range owner.size).map fun j=>owner.getD j none:=by
  refine Q4 (by simp) fun i h1 h2 => ?_;simp at h1;simp[Array.getD,h1]
 rw[e,Ua];congr 1;funext j;simp only[Option.map_map,Function.comp,id];cases owner.getD j none <;> rfl
theorem Zrj{t:SetTable}{es:Array (Int×P7)}{M:Nat}{w:Nat}(hw:sizeAbove w - 1=M)(hm:Msk M)(hl:es.size * 5<M * 3) :
  ∃t1 order,t.relaid (es.map (·.1)) w=some (t1,order)/\TabP t1 (order.filterMap (es[·]?)).toList/\(order.filterMap (es[·]?)).toList.Perm es.toList/\t1.led=t.led:=by
 obtain⟨owner,a,O⟩:=Zmh (t:={ t with mask:=M }) (hs:=(es.map (·.1)).toList) hm (by simp; omega);rw[Array.toArray_toList] at a;have a':layClean M (es.map (·.1))=some owner:=a;have hsz:owner.size=M+1:=O.size;have hn:(es.map (·.1)).toList.length=es.size:=by simp
 have hp:=O.perm;rw[hn] at hp;rw[<-ZnI owner,hsz] at hp;generalize hL:(List.range (M+1)).filterMap (fun j=>(owner.getD j none).map (j,·))=live at hp;have hlive:∀x∈live,owner[x.1]?=some (some x.2):=fun x hx=>by
  rw[<-hL] at hx;obtain⟨j,hj,h2⟩:=QO.mp hx;obtain⟨i,h3,rfl⟩:=QV.mp h2;by_cases hjs:j<owner.size
  ·simp only[Array.getD,hjs,dite_true] at h3;rw[Yp hjs];exact congrArg some h3
  ·simp[Array.getD,hjs] at h3
 have hin:∀x∈live,x.2<es.size:=fun x hx=>by
  have:=hp.mem_iff.mp (Y9.mpr ⟨x,hx,rfl⟩);simpa using this
 refine⟨{ mask:=M,place:=(live.map (·.1)).toArray,dummies:=#[],finger:=t.finger,led:=t.led,moves:=t.movedTo M,plain:=t.plain },(live.map (·.2)).toArray,?_,?_,?_,rfl⟩
 ·unfold relaid laid;rw[hw,a'];show some _=some _;rw[hL]
 ·have hfm:((live.map (·.2)).toArray.filterMap (es[·]?)).toList=live.map fun x=>es.getD x.2 (0,.none):=by
   rw[Array.toList_filterMap];show (live.map (·.2)).filterMap (es[·]?)=_;rw[Ua];clear hL hp
   induction live with
   | nil=>rfl
   | cons x l ih =>
    have h1:=hin x Yt;rw[WE,YF];simp only[Function.comp,Yp h1];rw[ih (fun y hy=>hlive y (Yl _ hy)) fun y hy=>hin y (Yl _ hy)];simp[Array.getD,h1]
  have hlen:live.length=es.size:=by
   have:=hp.length_eq;simpa using this
  have hrs:Rs (live.map (·.1)).toArray:=by
   unfold Rs;rw[<-hL];exact List.Pairwise.sublist (Zem _ _) Vy
  refine⟨hm,rfl,hrs,?_,?_,?_⟩
  ·rw[hfm];simp
  ·rw[hfm,Yr,hlen];exact hl
  ·rw[hfm];intro q hq;have hz:(live.map (·.1)).zip (live.map fun x=>es.getD x.2 (0,.none))=live.map fun x=>(x.1,es.getD x.2 (0,.none)):=List.zip_map' ..;have hq':q∈(live.map (·.1)).zip (live.map fun x=>es.getD x.2 (0,.none)):=hq;rw[hz] at hq';obtain⟨x,hx,rfl⟩:=Y9.mp hq';have h1:=hlive x hx;obtain⟨h,h2,n,h3,h4⟩:=O.way _ _ h1;have h5:(es.getD x.2 (0,.none)).1=h:=by
    have:=hin x hx;rw[YG,Array.getElem?_map,Yp this] at h2;simp only[Qq,YE] at h2;simp[Array.getD,this,h2]
   dsimp only;rw[h5];have hmask:∀n p,Zt ({ mask:=M,place:=(live.map (·.1)).toArray,dummies:=#[],finger:=t.finger,led:=t.led,moves:=t.movedTo M,plain:=t.plain }:SetTable) n p=Zt { t with mask:=M } n p:=fun n p=>ZeV (t:={ mask:=M,place:=(live.map (·.1)).toArray,dummies:=#[],finger:=t.finger,led:=t.led,moves:=t.movedTo M,plain:=t.plain }) (t':={ t with mask:=M }) rfl n p;refine⟨n,by rw[hmask]; exact h3,fun m hm => ?_⟩;obtain⟨k,h6⟩:=h4 m hm;rw[ZgN rfl hrs];rw[hmask];show _∈live.map (·.1);refine Y9.mpr ⟨((Zt { t with mask:=M } m (({ t with mask:=M }:SetTable).probeStart h)).j,k),?_,rfl⟩;rw[<-hL];refine QO.mpr ⟨(Zt { t with mask:=M } m (({ t with mask:=M }:SetTable).probeStart h)).j,?_,?_⟩
   ·have:=(WC.mp h6).1;rw[hsz] at this;exact WD.mpr this
   ·obtain⟨u,v⟩:=WC.mp h6;simp[Array.getD,u,v]
 ·rw[Array.toList_filterMap];show ((live.map (·.2)).filterMap (es[·]?)).Perm _;refine (hp.filterMap _).trans (Vb ?_);exact filterMap_getElem?_range es
end DL
end
section
namespace DL
open PySem PySem.Spec PyProof.Rows L2 PySem.W SO
section
variable(prog:P5)(w:World)(B:Addr->Prop)
inductive ElP(h:Heap):List (Int×P7)->List (List Str)->Prop
 | nil:ElP h [] []
 | cons {es:List (Int×P7)} {ps:List (List Str)} (b:Addr) (its:List P7) (p:List Str):B b->IsTup h b its.toArray->StrsAre its p->ElP h es ps->ElP h ((tupleKeyHash (strKind prog w) p,.ref b) :: es) (p :: ps)
def SetP(h:Heap)(a:Addr)(ps:List (List Str)):Prop :=
 ∃o es ep t,h.get? a=some o/\o.ExactSet/\o.data = .set es ep t/\t.led = !byT w/\TabP t es.toList/\ElP prog w B h es.toList ps/\ps.Nodup/\es.size<128
end
section
variable{prog:P5}{w:World}{B:Addr->Prop}{A:P4}{E:P7->P1->Prop}{s:P1}{a:Addr}
theorem Zj0:∀{vs:List P7} {p:List Str},StrsAre vs p->ItemsAre (strKind prog w) p vs
 | _,_,.nil => .nil
 | _,_,.cons x t r => .cons (Ul _ _ _ _) (Zj0 r)
theorem Zd4{h:Heap}{b:Addr}{its:List P7}{p:List Str}(hx:IsTup h b its.toArray)(sx:StrsAre its p):IsTupleKey (strKind prog w) h p b:=by
 obtain⟨o,h1,h2,n,h3⟩:=hx;exact⟨o,_,n,h1,h2,h3,Zj0 sx⟩
theorem ElP.mono{h h':Heap}:∀{es:List (Int×P7)} {ps:List (List Str)},ElP prog w B h es ps->(∀b its,IsTup h b its->IsTup h' b its)->ElP prog w B h' es ps
 | _,_,.nil,_ => .nil
 | _,_,.cons b its p y t r e,k => .cons b its p y (k b _ t) r (e.mono k)
theorem ElP.length{h:Heap}{es:List (Int×P7)}{ps:List (List Str)}(e:ElP prog w B h es ps):es.length=ps.length:=by
 induction e with
 | nil=>rfl
 | cons b its p _ _ _ _ ih=>simp[ih]
theorem ElP.at{h:Heap}{es:List (Int×P7)}{ps:List (List Str)}(e:ElP prog w B h es ps):∀(i:Nat),i<es.length->∃b its p,es[i]?=some (tupleKeyHash (strKind prog w) p,.ref b)/\ps[i]?=some p/\IsTup h b its.toArray/\StrsAre its p/\B b:=by
 induction e with
 | nil=>intro i hi; simp at hi
 | cons b its p y t r _ ih =>
  intro i hi;cases i with
  | zero=>exact⟨b,its,p,rfl,rfl,t,r,y⟩
  | succ i=>exact ih i (by simpa using hi)
theorem ElP.perm{h:Heap}{es es':List (Int×P7)}(pm:es.Perm es'):∀{ps:List (List Str)},ElP prog w B h es ps->∃ps',ElP prog w B h es' ps'/\ps.Perm ps':=by
 induction pm with
 | nil=>intro ps e; exact⟨ps,e,.refl _⟩
 | cons x _ ih =>
  intro ps e;cases e with
  | cons b its p y t r e =>
   obtain⟨ps',h1,h2⟩:=ih e;exact⟨p :: ps',.cons b its p y t r h1,h2.cons p⟩
 | swap x y l =>
  intro ps e;cases e with
  | cons b its p y t r e =>
   cases e with
   | cons b' its' p' y' t' r' e=>exact⟨p' :: p :: _,.cons b' its' p' y' t' r' (.cons b its p y t r e),.swap p' p _⟩
 | trans _ _ ih1 ih2 =>
  intro ps e;obtain⟨qs,h1,h2⟩:=ih1 e;obtain⟨rs,h3,h4⟩:=ih2 h1;exact⟨rs,h3,h2.trans h4⟩
theorem ElP.pls{h:Heap}{es:List (Int×P7)}{ps:List (List Str)}(e:ElP prog w B h es ps):PlsAre h (es.map (·.2)) ps:=by
 induction e with
 | nil=>trivial
 | cons b its p _ t r _ ih=>exact⟨⟨b,its,rfl,t,r⟩,ih⟩
theorem ElP.bs{h:Heap}{es:List (Int×P7)}{ps:List (List Str)}(e:ElP prog w B h es ps):∀v∈es.map (·.2),∃b,v = .ref b/\B b:=by
 induction e with
 | nil=>intro v hv; cases hv
 | cons b its p y t r _ ih =>
  intro v hv;rcases Yn.mp hv with rfl | hv
  ·exact⟨b,rfl,y⟩
  ·exact ih v hv
theorem seqItems?_tup{x:Addr}{its:Array P7}{Q:Option (Array P7)->P1->Prop}(hx:IsTup s.heap x its)(h:Q (some its) s):wpAny (model prog w) A (seqItems? (.ref x)) Q E s:=by
 obtain⟨o,h1,h2,n,h3⟩:=hx;exact wpAny_seqItems h1 h3 h
theorem ZjB{x:Addr}{its:List P7}{p:List Str}{Q:Bool->P1->Prop}(hx:IsTup s.heap x its.toArray)(sx:StrsAre its p)(h:Q false s):wpAny (model prog w) A (ofAClassStatement 8 (.ref x)) Q E s:=by
 unfold ofAClassStatement;refine Ya (Qj (T:="tuple") hx.typeIs ?_);dsimp only;refine Ya (Yb ?_);refine Yw (fun z=>absurd z (by decide)) (fun _ => ?_);refine Ya (seqItems?_tup hx ?_);dsimp only;refine Ya ?_;rw[<-Array.forIn_toList];refine QI _ (fun rest r s'=>r.1=none/\s'=s/\∃p,StrsAre rest p) _ ?_ ?_ _ _ ⟨rfl,rfl,p,sx⟩
 ·rintro v rest r s' ⟨hr,rfl,p',hp⟩;cases hp with
  | cons y t hp =>
   refine Ya (m:=ofAClassStatement 7 (.str y t)) (Yb ?_);refine Yw (fun z=>absurd z (by decide)) (fun _=>Yb ⟨rfl,rfl,_,hp⟩)
 ·rintro⟨r1,r2⟩ s' ⟨hr,rfl,_⟩;simp only at hr;subst hr;exact Yb h
theorem Zli{x:Addr}{its:List P7}{p:List Str}{es:List (Int×P7)}{Q:Bool->P1->Prop}(hx:IsTup s.heap x its.toArray)(sx:StrsAre its p)(el:∀v∈es.map (·.2),∃b its p,v = .ref b/\IsTup s.heap b its.toArray/\StrsAre its p)(h:Q false s) :
  wpAny (model prog w) A (searchCouldBeSeen (.ref x) (es.map (·.2))) Q E s:=by
 unfold searchCouldBeSeen;refine Ya ?_;refine QI _ (fun rest r s'=>r.1=none/\s'=s/\∀v∈rest,∃b its p,v = .ref b/\IsTup s.heap b its.toArray/\StrsAre its p) _ ?_ ?_ _ _ ⟨rfl,rfl,el⟩
 ·rintro v rest r s' ⟨hr,rfl,hall⟩;obtain⟨b,jts,q,rfl,h1,h2⟩:=hall v Yt;have hn:∀v∈rest,∃b its p,v = .ref b/\IsTup s'.heap b its.toArray/\StrsAre its p:=fun v hv=>hall v (Yl _ hv);dsimp only;refine Yw (fun _=>Yb ⟨rfl,rfl,hn⟩) (fun _ => ?_);refine Ya (wpAny_eqIsQuiet_tuple (Zd4 (w:=w) hx sx) ?_);refine Yw (fun z=>absurd z (by decide)) (fun _ => ?_);refine Ya (wpAny_eqIsQuiet_tuple (Zd4 (w:=w) h1 h2) ?_);refine Yw (fun z=>absurd z (by decide)) (fun _ => ?_);refine Ya (ZjB hx sx ?_);refine Yw (fun z=>absurd z (by decide)) (fun _ => ?_);refine Ya (ZjB h1 h2 ?_);exact Yw (fun z=>absurd z (by decide)) (fun _=>Yb ⟨rfl,rfl,hn⟩)
 ·rintro⟨r1,r2⟩ s' ⟨hr,rfl,_⟩;simp only at hr;subst hr;exact Yb h
theorem Zow{α β:Type}{xs:List α}{ys:List β}{i:Nat}{x:α}{y:β}(h1:xs[i]?=some x)(h2:ys[i]?=some y):(x,y)∈xs.zip ys:=by
 refine WZ.mpr ⟨i,?_⟩;rw[List.getElem?_zip_eq_some];exact⟨h1,h2⟩
theorem Zme{x:Addr}{its:List P7}{p:List Str}{o:Obj}{es:Array (Int×P7)}{ep:Nat}{t:SetTable}{ps:List (List Str)}{Q:SetFound->P1->Prop}(hu:A.units<cLine)(hx:IsTup s.heap x its.toArray)(sx:StrsAre its p)
  (ho:s.heap.get? a=some o) (hd:o.data = .set es ep t) (T:TabP t es.toList) (el:ElP prog w B s.heap es.toList ps)
  (h1:p∈ps->Q (.there none) s) (h2:∀j,p ∉ ps->t.slot j = .empty->Pth t (t.probeStart (tupleKeyHash (strKind prog w) p)) j->Q (.free j false) s) {N:Nat} (hN:N<=10 * (13+t.mask)) (hNe:t.slot (Zt t N (t.probeStart (tupleKeyHash (strKind prog w) p))).j = .empty) :
  ∀(d m F:Nat) (stand:Option SetTable.Probe),N - m=d->m<=N->d<F->stand.getD (t.probeStart (tupleKeyHash (strKind prog w) p))=Zt t m (t.probeStart (tupleKeyHash (strKind prog w) p)) ->
   (∀m',m' < m->t.slot (Zt t m' (t.probeStart (tupleKeyHash (strKind prog w) p))).j≠.empty) ->
   (∀(i j n:Nat),t.place[i]?=some j->ps[i]?=some p->(Zt t n (t.probeStart (tupleKeyHash (strKind prog w) p))).j=j->(∀m',m' < n->t.slot (Zt t m' (t.probeStart (tupleKeyHash (strKind prog w) p))).j≠.empty)->m<=n) ->
   wpAny (model prog w) A (setSearchFrom a (.ref x) (tupleKeyHash (strKind prog w) p) true F stand) Q E s:=by
 have fits:t.fits es.size=true:=by rw[<-Yo]; exact T.fits
 have hsz:t.place.size=es.size:=by rw[T.len,Yo]
 generalize hh:tupleKeyHash (strKind prog w) p=h at *;generalize hp0:t.probeStart h=p0 at *;have hdum:p0.dummy=none:=by rw[<-hp0]; exact (Zi0 t h).2.2.2
 have way:∀(i:Nat),ps[i]?=some p->∃j n,t.place[i]?=some j/\es[i]?.map (fun e=>e.1)=some h/\(Zt t n p0).j=j/\∀m',m' < n->t.slot (Zt t m' p0).j≠.empty:=by
  intro i hi;have hil:i<es.toList.length:=by rw[el.length]; exact (Yc.mp hi).1
  obtain⟨b,jts,q,e1,e2,_⟩:=el.at i hil;rw[hi] at e2;cases e2;rw[hh] at e1;have hip:i<t.place.size:=by rw[hsz,<-Yo]; exact hil
  have e3:t.place.toList[i]?=some t.place[i]:=by rw[YG,Yp hip]
  obtain⟨n,c1,c2⟩:=T.pth _ (Zow e3 e1);rw[hp0] at c1 c2;refine⟨t.place[i],n,Yp hip,?_,c1,c2⟩;rw[<-YG,e1];rfl
 intro d
 induction d using Nat.strongRecOn with
 | ind d ih =>
  intro m F stand hd' hm hF hst hne hlater;obtain⟨F',rfl⟩:∃F',F=F' + 1:=⟨F - 1,by omega⟩;unfold setSearchFrom;refine Ya (YX ho hd fits ?_);dsimp only;rw[T.gave];refine Yw (fun z=>absurd z (by decide)) (fun _ => ?_);rw[hp0,hst];have hgo:=ZkK (t:=t) (f:=fun i=>((es[i]?.map (·.1)).getD 0)) (h:=h) T.dum (10 * SetTable.turns t.mask) (Zt t m p0) (N - m) (by unfold SetTable.turns; omega) (by rw[ZgQ]; exact hdum) (by rw[<-Zcj,show m+(N - m)=N by omega]; exact hNe);obtain⟨k,g1,g2,g3⟩:=hgo;simp only[<-Zcj] at g2 g3;have live:∀m',m' < m+k->t.slot (Zt t m' p0).j≠.empty:=fun m' hm'=>by
   by_cases z:m' < m
   ·exact hne m' z
   ·obtain⟨i,y,_⟩:=g2 (m' - m) (by omega);rw[show m+(m' - m)=m' by omega] at y;rw[y];exact fun c=>by cases c
  have notAhead:∀(i j n:Nat),t.place[i]?=some j->ps[i]?=some p->(Zt t n p0).j=j->(∀m',m' < n->t.slot (Zt t m' p0).j≠.empty)->m+k<=n:=by
   intro i j n e1 e2 e3 e4;have hmn:=hlater i j n e1 e2 e3 e4;refine WI fun z => ?_;obtain⟨i',y1,y2⟩:=g2 (n - m) (by omega);rw[show m+(n - m)=n by omega,e3,ZeZ T.rs e1] at y1;cases y1;obtain⟨_,_,_,e5,_⟩:=way i e2;rw[e5] at y2;simp at y2
  split
  rotate_left
  ·rename_i hmet;have hmet':SetTable.probe t (fun i=>((es[i]?.map (fun e=>e.1)).getD 0)) h (Zt t m p0)=none:=by
    rename_i hx';cases hp:SetTable.probe t (fun i=>((es[i]?.map (fun e=>e.1)).getD 0)) h (Zt t m p0) with
    | none=>rfl
    | some met=>exact absurd hp (hmet met)
   rcases g3 with⟨y1,y2⟩ | ⟨i,y1,y2,y3,y4⟩
   ·exact absurd (hmet'.symm.trans y2) (fun z=>by cases z)
   ·exact absurd (hmet'.symm.trans y4) (fun z=>by cases z)
  rename_i met hmet;rcases g3 with⟨y1,y2⟩ | ⟨i,y1,y2,y3,y4⟩
  ·have e:=hmet.symm.trans y2;cases e;dsimp only;refine Yb (h2 _ (fun hm' => ?_) y1 ⟨m+k,rfl,live⟩);obtain⟨i,hi⟩:=WZ.mp hm';obtain⟨j,n,e1,_,e3,e4⟩:=way i hi;have h5:=notAhead i j n e1 hi e3 e4;rcases Nat.lt_or_eq_of_le h5 with z | z
   ·exact e4 _ z y1
   ·rw[z,e3,ZeZ T.rs e1] at y1;cases y1
  ·have e:=hmet.symm.trans y4;cases e;dsimp only;have hi:t.place[i]?=some (Zt t (m+k) p0).j:=by
    rcases slot_of T.dum (Zt t (m+k) p0).j with e | ⟨i',e,e'⟩
    ·rw[e] at y1; cases y1
    ·rw[e] at y1;cases y1;exact e'
   have hil:i<es.size:=by rw[<-hsz]; exact (WC.mp hi).1
   obtain⟨b,jts,q,e1,e2,e3,e4,_⟩:=el.at i (by rw[Yo]; exact hil);have e1':es[i]?=some (tupleKeyHash (strKind prog w) q,.ref b):=by rw[<-YG]; exact e1
   refine Yw (fun _=>Ya (Zli hx sx ?c (Yw (fun z=>absurd z (by decide)) (fun _ => ?r1)))) (fun _ => ?r2)
   case c =>
    intro v hv;obtain⟨e,he,rfl⟩:=Y9.mp hv;rw[Array.toList_filter] at he;obtain⟨i2,hi2⟩:=WZ.mp (Wf.mp he).1;obtain⟨b2,jts2,q2,f1,f2,f3,f4,_⟩:=el.at i2 (Yc.mp hi2).1;rw[hi2] at f1;cases f1;exact⟨b2,jts2,q2,rfl,f3,f4⟩
   all_goals
    rw[e1'];dsimp only;refine Ya (YM (wpAny_eqBool_tuple (knd:=strKind prog w) hu (Zd4 e3 e4) (Zd4 hx sx) ?_));refine Ya (YX ho hd fits ?_);dsimp only;by_cases hq:q=p
    ·rw[Yv hq];refine Yw (fun _=>Yb (h1 ?_)) (fun z=>absurd (by decide) z);rw[<-hq];exact Wx e2
    ·rw[YA hq];refine Yw (fun z=>absurd z (by decide)) (fun _ => ?_);have hsm:t.sameMemory t.moves t.mask=some true:=by simp[SetTable.sameMemory]
     rw[hsm];dsimp only;rw[Yg rfl,y1];dsimp only;rw[e1'];dsimp only;refine Ya (wpAny_isSame_ref_self (Ya (Yb ?_)));rw[Yg rfl];dsimp only;refine Yw (fun z=>absurd z (by decide)) (fun _ => ?_);refine ih (N - (m+(k+1))) (by omega) (m+(k+1)) F' (some _) rfl (by omega) (by omega) rfl (fun m' hm' => ?_) ?_
     ·by_cases z:m' < m+k
      ·exact live m' z
      ·rw[show m'=m+k by omega,y1];exact fun c=>by cases c
     ·intro i' j n f1 f2 f3 f4;have h5:=notAhead i' j n f1 f2 f3 f4;rcases Nat.lt_or_eq_of_le h5 with z | z
      ·omega
      ·rw[z,f3,ZeZ T.rs f1] at y1;cases y1;rw[e2] at f2;exact absurd (Option.some.inj f2) hq
theorem ZrY{x:Addr}{its:List P7}{p:List Str}{Q:Bool->P1->Prop}(hx:IsTup s.heap x its.toArray)(sx:StrsAre its p)(h:∀b,Q b s):wpAny (model prog w) A (hashByValue 8 (.ref x)) Q E s:=by
 unfold hashByValue;refine Ya (V0 hx.typeIs PySem.F.slot_tuple_hash.lookup ?_);dsimp only;refine Ya (seqItems?_tup hx ?_);refine Ya ?_;show wpAny _ _ (forIn its.toArray _ _) _ _ s;rw[<-Array.forIn_toList];refine QI _ (fun rest r s'=>s'=s/\(∃p,StrsAre rest p)) _ ?_ ?_ _ _ ⟨rfl,p,sx⟩
 ·rintro v rest r s' ⟨rfl,p',hp⟩;cases hp with
  | cons y t hp =>
   refine Ya (m:=hashByValue 7 (.str y t)) (Yb ?_);exact Yw (fun _=>Yb (Yb (h _))) (fun _=>Yb ⟨rfl,_,hp⟩)
 ·rintro⟨r1,r2⟩ s' ⟨rfl,_⟩;cases r1 with
  | none=>exact Yb (h _)
  | some b=>exact Yb (h _)
theorem Zgv{h h':Heap}{b:Addr}{its:Array P7}{o:Obj}{es:Array (Int×P7)}{ep:Nat}{t:SetTable}(x:IsTup h b its)(ho:h.get? a=some o)(hd:o.data = .set es ep t)(hs:Heap.SameBut a h h'):IsTup h' b its:=by
 obtain⟨o',h1,h2,n,h3⟩:=x;refine⟨o',(hs.2 b ?_).trans h1,h2,n,h3⟩;rintro rfl;rw[ho] at h1;cases h1;rw[hd] at h3;cases h3
theorem Zs3{m n:Nat}(hm:Msk m)(h1:n * 5<m * 3)(h2:¬ (n+1) * 5<m * 3)(h3:n+1<128):∃M,Msk M/\SetTable.sizeAbove (SetTable.grown (n+1)) - 1=M/\(n+1) * 5<M * 3/\SetTable.sizeAbove (SetTable.grown (n+1))<=sizeLine:=by
 rw[Wd];rcases hm with rfl | rfl | rfl | rfl
 ·obtain rfl:n=4:=by omega
  exact⟨31,.inr (.inl rfl),by decide,by decide,by decide⟩
 ·obtain rfl:n=18:=by omega
  exact⟨127,.inr (.inr (.inl rfl)),by decide,by decide,by decide⟩
 ·obtain rfl:n=76:=by omega
  exact⟨511,.inr (.inr (.inr rfl)),by decide,by decide,by decide⟩
 ·omega
theorem ZpO{x:Addr}{its:List P7}{p:List Str}{ps:List (List Str)}{Q:Bool->P1->Prop}(hu:A.units<cLine)(hS:SetP prog w B s.heap a ps)(hB:B x)(hx:IsTup s.heap x its.toArray)(sx:StrsAre its p)(hr:ps.length+1<128)
  (h:∀h' ps' b,Heap.SameBut a s.heap h'->SetP prog w B h' a ps'->(∀y,y∈ps' ↔ y∈ps\/y=p)->ps'.length<=ps.length+1->Q b { s with heap:=h' }) :
  wpAny (model prog w) A (setAddHashed a (.ref x) (tupleKeyHash (strKind prog w) p)) Q E s:=by
 obtain⟨o,es,ep,t,ho,hxs,hd,hled,T,el,hn,hb⟩:=id hS;have fits:t.fits es.size=true:=by rw[<-Yo]; exact T.fits
 have hsz:es.size=ps.length:=by rw[<-Yo]; exact el.length
 unfold setAddHashed setAddHashedIn;refine YM (Ya (YX ho hd fits ?_));dsimp only;refine Yw (fun z=>absurd z (by show ¬ (false && _ && _)=true; simp)) (fun _ => ?_);unfold setSearch;obtain⟨N,hN,hNe⟩:=T.ends (tupleKeyHash (strKind prog w) p);have hmk:=T.msk.le;refine Ya (Zme hu hx sx ho hd T el (fun hm => ?_) (fun j hm hj hp => ?_) hN hNe N 0 100000 none (by omega) (YV _) (by omega) rfl (fun m' hm'=>by omega) (fun _ _ _ _ _ _ _=>YV _))
 ·dsimp only;refine Yb ?_;have e:s = { s with heap:=s.heap }:=by cases s; rfl
  rw[e];exact h s.heap ps false (Heap.SameBut.refl a s.heap) hS (fun y=>⟨.inl,fun z=>z.elim id fun z=>z ▸ hm⟩) (QT _)
 ·dsimp only;refine Ya (YX ho hd fits ?_);dsimp only;have hzi:∀(q:Nat),(SetTable.insertAt es q (tupleKeyHash (strKind prog w) p,Value.ref x)).toList=es.toList.take q++(tupleKeyHash (strKind prog w) p,Value.ref x) :: es.toList.drop q:=fun q=>ZeP _ _ _;have hzs:∀q,(SetTable.insertAt es q (tupleKeyHash (strKind prog w) p,Value.ref x)).size=es.size+1:=fun q=>by
   rw[<-Yo,hzi];simp only[Yy,YB,Y1,WA,Yo];omega
  have hpm:∀q,((tupleKeyHash (strKind prog w) p,Value.ref x) :: es.toList).Perm (SetTable.insertAt es q (tupleKeyHash (strKind prog w) p,Value.ref x)).toList:=fun q=>by
   rw[hzi];refine List.Perm.trans ?_ List.perm_middle.symm;rw[Wh]
  have b1:∀es1 t1,Heap.SameBut a s.heap (s.heap.update a (Obj.putSet es1 t1)):=fun es1 t1=>YH s.heap a (Obj.putSet es1 t1);have fin:∀(h':Heap) (es1:Array (Int×P7)) (t1:SetTable) (ep1:Nat),Heap.SameBut a s.heap h'->h'.get? a=some { o with data:=.set es1 ep1 t1 }->t1.led=t.led->TabP t1 es1.toList->((tupleKeyHash (strKind prog w) p,Value.ref x) :: es.toList).Perm es1.toList->Q true { s with heap:=h' }:=by
   intro h' es1 t1 ep1 sb hg hl T1 pm;have el0:ElP prog w B h' ((tupleKeyHash (strKind prog w) p,Value.ref x) :: es.toList) (p :: ps):=.cons x its p hB (Zgv hx ho hd sb) sx (el.mono fun b jts z=>Zgv z ho hd sb);obtain⟨ps1,el1,pp⟩:=ElP.perm pm el0;have hz1:es1.size=es.size+1:=by
    have:=pm.length_eq;simp at this;omega
   refine h h' ps1 true sb ⟨_,es1,ep1,t1,hg,hxs,rfl,by rw[hl]; exact hled,T1,el1,pp.nodup_iff.mp (W7.mpr ⟨hm,hn⟩),by omega⟩ (fun y => ?_) ?_
   ·rw[<-pp.mem_iff,Yn];exact⟨Or.symm,Or.symm⟩
   ·rw[<-pp.length_eq];simp
  have go:∀(pl:Bool),wpAny (model prog w) A (do
    storeSet a (SetTable.insertAt es (t.put j).2 (tupleKeyHash (strKind prog w) p,Value.ref x)) { (t.put j).1 with plain:=pl }
    if (!false && SetTable.tooFull { (t.put j).1 with plain:=pl })=true then do
      setRelay a (SetTable.grown (es.size+1))
      pure true
     else pure true) Q E s:=by
   intro pl;refine Ya (QA ho hd ?_ (by rw[hzs,Wd]; omega));have o1:(s.heap.update a (Obj.putSet (SetTable.insertAt es (t.put j).2 (tupleKeyHash (strKind prog w) p,Value.ref x)) { (t.put j).1 with plain:=pl })).get? a=some { o with data:=.set (SetTable.insertAt es (t.put j).2 (tupleKeyHash (strKind prog w) p,Value.ref x)) (ep+1) { (t.put j).1 with plain:=pl } }:=by
    have q:=YL (Obj.putSet (SetTable.insertAt es (t.put j).2 (tupleKeyHash (strKind prog w) p,Value.ref x)) { (t.put j).1 with plain:=pl }) ho (by rw[Qm _ _ hd]; rfl);rwa[Qm _ _ hd] at q
   have hfill:SetTable.fill { (t.put j).1 with plain:=pl }=es.size+1:=by
    show (SetTable.insertAt t.place _ j).size+(if SetTable.has t.dummies j then _ else t.dummies).size=_;rw[T.dum,Zgc];have h1:=congrArg List.length (ZeP t.place (SetTable.below t.place j) j);have h2:=T.len;simp only[Yy,YB,Y1,WA,Yo] at h1 h2;simp only[YQ,Wz];rw[h1];have:(#[]:Array Nat).size=0:=rfl;omega
   by_cases hfl:(es.size+1) * 5<t.mask * 3
   ·refine Yw (fun z => ?_) (fun _ => ?_)
    ·exfalso;unfold SetTable.tooFull at z;rw[hfill] at z;have z':¬ (es.size+1) * 5<t.mask * 3:=by
      have z2:(!false && decide ((es.size+1) * 5 ≥ t.mask * 3))=true:=z;simp at z2;omega
     exact z' hfl
    ·refine Yb (fin _ _ _ _ (b1 _ _) o1 rfl ?_ (hpm _));rw[hzi];exact T.put hj hp pl (by rw[Yo]; exact hfl)
   ·refine Yw (fun _ => ?_) (fun z => ?_)
    ·have hfew:=T.few;rw[Yo] at hfew;obtain⟨M,hM,e1,e2,e3⟩:=Zs3 T.msk hfew hfl (by omega);generalize hes1:SetTable.insertAt es (t.put j).2 (tupleKeyHash (strKind prog w) p,Value.ref x)=es1 at o1;have hz1:es1.size=es.size+1:=by rw[<-hes1,hzs]
     have hf1:SetTable.fits { (t.put j).1 with plain:=pl } es1.size=true:=by
      unfold SetTable.fits;rw[hfill,hz1];have h1:=congrArg List.length (ZeP t.place (SetTable.below t.place j) j);have h2:=T.len;simp only[Yy,YB,Y1,WA,Yo] at h1 h2;have h3:({ (t.put j).1 with plain:=pl }:SetTable).place.size=es.size+1:=by
       show (SetTable.insertAt t.place (SetTable.below t.place j) j).size=_;omega
      have h4:({ (t.put j).1 with plain:=pl }:SetTable).mask=t.mask:=rfl;rw[h3,h4];simp;omega
     obtain⟨t1,ord,r1,r2,r3,r4⟩:=Zrj (t:={ (t.put j).1 with plain:=pl }) (es:=es1) e1 hM (by rw[hz1]; exact e2);unfold setRelay;refine Ya (Ya (YX (s:={ s with heap:=s.heap.update a (Obj.putSet es1 { (t.put j).1 with plain:=pl }) }) o1 rfl hf1 ?_));dsimp only;refine Yw (fun z=>absurd z (by omega)) (fun _ => ?_);have hz2:(ord.filterMap (es1[·]?)).size=es1.size:=by
      have:=r3.length_eq;rw[Yo,Yo] at this;exact this
     refine Ya (V9 (a:=(ord.filterMap (es1[·]?),t1)) ?_ ?_)
     ·rw[r1];show (if ((ord.filterMap (es1[·]?)).size != es1.size)=true then _ else pure (ord.filterMap (es1[·]?),t1))=_;rw[hz2,bne_self_eq_false];rfl
     ·dsimp only;refine QA (s:={ s with heap:=s.heap.update a (Obj.putSet es1 { (t.put j).1 with plain:=pl }) }) o1 rfl ?_ (by rw[hz2,hz1,Wd]; omega);have o2:((s.heap.update a (Obj.putSet es1 { (t.put j).1 with plain:=pl })).update a (Obj.putSet (ord.filterMap (es1[·]?)) t1)).get? a=some { o with data:=.set (ord.filterMap (es1[·]?)) (ep+1+1) t1 }:=by
       have q:=YL (Obj.putSet (ord.filterMap (es1[·]?)) t1) o1 (by rw[Qm _ t1 rfl]; rfl);rwa[Qm _ t1 rfl] at q
      refine Yb (fin _ _ _ _ ((b1 _ _).trans (YH _ a _)) o2 r4 r2 ?_);have:=hpm (t.put j).2;rw[hes1] at this;exact this.trans r3.symm
    ·exfalso;unfold SetTable.tooFull at z;rw[hfill] at z;have z2:¬ (!false && decide ((es.size+1) * 5 ≥ t.mask * 3))=true:=z;simp at z2;omega
  by_cases hpl:(t.put j).1.plain=true
  ·refine Yw (fun _ => ?_) (fun z=>absurd hpl z);refine Ya (ZrY hx sx fun b => ?_);cases b with
   | true =>
    have e:(t.put j).1 = { (t.put j).1 with plain:=true }:=by
     have:∀u:SetTable,u.plain=true->u = { u with plain:=true }:=fun u hu'=>by cases u; simp at hu'; subst hu'; rfl
     exact this _ hpl
    have:=go true;rw[<-e] at this;exact this
   | false=>exact go false
  ·refine Yw (fun z=>absurd z hpl) (fun _ => ?_);refine Ya (Yb ?_);have e:(t.put j).1 = { (t.put j).1 with plain:=false }:=by
    have:∀u:SetTable,¬ u.plain=true->u = { u with plain:=false }:=fun u hu'=>by
     cases u with
     | mk a b c d e f g=>cases g with
      | true=>exact absurd rfl hu'
      | false=>rfl
    exact this _ hpl
   have:=go false;rw[<-e] at this;exact this
end
end DL
end
section
namespace DL
open PySem PySem.Spec PyProof.Rows L2
section
variable{prog:P5}{w:World}{B:Addr->Prop}{A:P4}{E:P7->P1->Prop}{s:P1}{a:Addr}
theorem ZlR{h:Heap}:∀{vs:List P7} {ps:List (List Str)},PlsAre h vs ps->∀(i:Nat) (v:P7),vs[i]?=some v->∃b its,v = .ref b/\IsTup h b its.toArray/\StrsAre its (ps.getD i [])
 | vs,ps,x,i,v,e=>by
  obtain⟨hi,e'⟩:=Yc.mp e;obtain⟨b,its,h1,h2,h3⟩:=x.get i hi;rw[Yk,e] at h1;exact⟨b,its,h1,h2,h3⟩
theorem Zn0{I:Addr}{fp wr:List Addr}{G:Array GenState->Array GenState->Prop}{n:Nat}{P:Nat->P7->Prop}{St:Nat->P1->Prop}{R:Result->P1->Prop}(hu:A.units+1<cLine)(W:WalksS prog w A.in1 I fp wr G n P St){a:Addr}(ha:a ∉ fp)(hwr:∀i s,St i s->∀b∈wr,∃o,s.heap.get? b=some o/\o.cls≠.type "tuple")(val:Nat->List Str)(hn:n<128)
  : ∀(k i:Nat) (s:P1) (xs:List (List Str)),n - i=k->i<=n->St i s->SetP prog w B s.heap a xs->(∀i v,P i v->∃b its,v = .ref b/\IsTup s.heap b its.toArray/\StrsAre its (val i)/\B b)->(∀y,y∈xs ↔ ∃j,j<i/\y=val j)->xs.length<=i ->
   (∀s' xs',Moved (a :: wr) G s s'->SetP prog w B s'.heap a xs'->(∀y,y∈xs' ↔ ∃j,j<n/\y=val j)->R (.ok (.ret .none)) s') ->
   codeAny (model prog w) A (.builtin "set.update.loop" ⟨[.ref a,.ref I],[]⟩) R s:=by
 have haw:a ∉ wr:=fun z=>ha (W.sub _ z);have sub:∀b∈wr,b∈a :: wr:=fun b z=>Yl _ z;have keepT:∀{i:Nat} {s s':P1} {b:Addr} {its:Array P7},St i s->Moved wr G s s'->IsTup s.heap b its->IsTup s'.heap b its:=by
  rintro i s s' b its hst m ⟨o,h1,h2,h3⟩;refine⟨o,m.heap b o (fun hb => ?_) h1,h2,h3⟩;obtain⟨o',g1,g2⟩:=hwr i s hst b hb;rw[h1] at g1;cases g1;exact g2 h2
 have keepS:∀{i:Nat} {s s':P1} {xs:List (List Str)},St i s->Moved wr G s s'->SetP prog w B s.heap a xs->SetP prog w B s'.heap a xs:=by
  rintro i s s' xs hst m ⟨o,es,ep,t,ho,h1,h2,h3,h4,h5,r⟩;exact⟨o,es,ep,t,m.heap a o haw ho,h1,h2,h3,h4,h5.mono fun b its z=>keepT hst m z,r⟩
 intro k
 induction k with
 | zero =>
  intro i s xs hk hi hst hS hP hm _ hR;obtain rfl:i=n:=by omega
  refine WU WK ?_;rw[WO Y6 _];show wpAny _ A.in1 (pyNext (.ref I) >>= _) _ _ s;exact Ya (W.done s _ _ hst fun s' m=>Yb (hR s' xs (m.mono sub) (keepS hst m hS) hm))
 | succ k ih =>
  intro i s xs hk hi hst hS hP hm hl hR;have hlt:i<n:=by omega
  refine WU WK ?_;rw[WO Y6 _];show wpAny _ A.in1 (pyNext (.ref I) >>= _) _ _ s;refine Ya (W.item i s _ _ hlt hst fun v s1 hPv hst1 m1 => ?_);have hP1:∀i v,P i v->∃b its,v = .ref b/\IsTup s1.heap b its.toArray/\StrsAre its (val i)/\B b:=fun i v z=>by
   obtain⟨b,its,e,h1,h2⟩:=hP i v z;exact⟨b,its,e,keepT hst m1 h1,h2⟩
  obtain⟨b,its,rfl,hb1,hb2,hb3⟩:=hP1 i v hPv;show wpAny _ A.in1 (holding [Value.ref b] (setAdd a (.ref b)) >>= _) _ _ s1;refine Ya (YM ?_);unfold setAdd;refine YM (Ya (wpAny_pyHash_tuple (knd:=strKind prog w) hu (Zd4 hb1 hb2) ?_));refine ZpO (s:={ s1 with toks:=s1.toks+((val i).length+1) }) hu (show SetP prog w B s1.heap a xs from keepS hst m1 hS) hb3 hb1 hb2 (by omega) fun h' xs' _ b1 b2 b3 b4 => ?_;obtain⟨oa,_,_,_,hoa,_,hda,_⟩:=keepS hst m1 hS;refine Yb ⟨VC Y6 _,ih (i+1) _ xs' (by omega) hlt (W.frame _ s1 _ _ hst1 (Nat.le_add_right _ _) fun b hb o e => ?_) b2 (fun i v z => ?_) (fun y => ?_) (by omega) fun s2 xs2 m2 c1 c2 => ?_⟩
  ·rw[b1.2 b fun z=>ha (by rw[<-z]; exact hb)];exact e
  ·obtain⟨c,jts,e,h1,h2⟩:=hP1 i v z;exact⟨c,jts,e,Zgv h1 hoa hda b1,h2⟩
  ·rw[b3,hm];constructor
   ·rintro (⟨j,h1,h2⟩ | h)
    ·exact⟨j,by omega,h2⟩
    ·exact⟨i,by omega,h⟩
   ·rintro⟨j,h1,h2⟩;by_cases hj:j<i
    ·exact .inl ⟨j,hj,h2⟩
    ·have:j=i:=by omega
     exact .inr (by rw[h2,this])
  ·refine hR s2 xs2 (Moved.trans W.gtrans ((m1.mono sub).then_heap (Nat.le_add_right _ _) fun b o hb e => ?_) m2) c1 c2;rw[b1.2 b fun z=>hb (by rw[z]; exact Yt)];exact e
theorem Zkc{l:Addr}{items:Array P7}{ss:List (List Str)}{Q:P7->P1->Prop}(hh:A.handled=none)(hl:s.heap.IsList l items)(hu:A.units+16<cLine)(hi:PlsAre s.heap items.toList ss)(hB:∀b,Value.ref b∈items.toList->B b)(hb:items.size<128)
  (h:∀(h':Heap) (tk:Nat) (xs:List (List Str)),SetP prog w B h' s.heap.objs.size xs->(∀y,y∈xs ↔ y∈ss)->(∀b o,b<s.heap.objs.size->s.heap.get? b=some o->h'.get? b=some o)->Q (.ref s.heap.objs.size) { s with heap:=h',toks:=tk }) :
  wpAny (model prog w) A (call (.type "set") [.ref l]) Q E s:=by
 obtain⟨c,tl,hmro⟩:=YR.mro;have hmade:=YR.made;have hsub:=YR.sub;have h1:=YR.notType;have h2:=YR.canCreate;have hct:=PySem.F.typeCall_set_1 (.ref l);obtain⟨O,hO⟩:∃O:Obj,O = { cls:=.type "set",dict:=none,data:=.set #[] 0 (.fresh 0 0 (!byT w)) }:=⟨_,rfl⟩;have hnew:codeAny (model prog w) A.in1 (.call (.builtin "set.__new__") ⟨[.type "set",.ref l],[]⟩) (wants (fun obj s1=>obj = .ref s.heap.objs.size/\s1 = { s with heap:=s.heap.push O }) E) s:=ZiN (.ref l) ⟨rfl,by rw[hO]⟩;refine wpAny_call (codeAny_of_tree ?_);show wpAny _ _ (callAny (.type "set") _) _ _ _;refine Yb ⟨Code.quiet_builtin _ (by decide +kernel),WU PySem.F.entry_type_call ?_⟩;rw[Around.under_plain (weight_type_call_type "set" [.ref l] []) rfl]
 repeat (any_goals (first | assumption | wp_step))
 refine QE hnew fun r s1 hr => ?_;cases r with
 | error e=>exact hr
 | ok fl =>
  cases fl with
  | ret obj =>
   obtain⟨rfl,rfl⟩:=hr;have hS:(s.heap.push O).get? s.heap.objs.size=some O:=Yq _ (by rw[hO]; rfl);have hT:Shared.TypeIs { s with heap:=s.heap.push O } (.ref s.heap.objs.size) "set":=⟨_,hS,by rw[hO]⟩;have hli:=YR.init.lookup;have hbi:=YR.init.bind (.ref s.heap.objs.size)
   repeat (any_goals (first | assumption | wp_step))
   have hbody:wpAny (model prog w) A.in1.in1 (Builtin.«set.__init__» ⟨[.ref s.heap.objs.size,.ref l],[]⟩) (fun fin s'=>match fin with
     | .done f=>wants (fun r s2=>r = .none/\∃h' tk xs,s2 = { s with heap:=h',toks:=tk }/\SetP prog w B h' s.heap.objs.size xs/\(∀y,y∈xs ↔ y∈ss)/\∀b o,b<s.heap.objs.size->s.heap.get? b=some o->h'.get? b=some o) E (.ok f) s'
     | .again c'=>c'.quiet=true/\codeAny (model prog w) A.in1 c' (wants (fun r s2=>r = .none/\∃h' tk xs,s2 = { s with heap:=h',toks:=tk }/\SetP prog w B h' s.heap.objs.size xs/\(∀y,y∈xs ↔ y∈ss)/\∀b o,b<s.heap.objs.size->s.heap.get? b=some o->h'.get? b=some o) E) s')
     (fun e s'=>wants (fun r s2=>r = .none/\∃h' tk xs,s2 = { s with heap:=h',toks:=tk }/\SetP prog w B h' s.heap.objs.size xs/\(∀y,y∈xs ↔ y∈ss)/\∀b o,b<s.heap.objs.size->s.heap.get? b=some o->h'.get? b=some o) E (.error e) s') { s with heap:=s.heap.push O }:=by
    obtain⟨ol,hol,hcl,nl,hdl⟩:=hl;obtain⟨ocls,odict,odata,oslots⟩:=ol;simp only at hcl hdl;subst hcl hdl hO;obtain⟨H1,hH1⟩:∃H1,H1=s.heap.push { cls:=.type "set",dict:=none,data:=.set #[] 0 (.fresh 0 0 (!byT w)) }:=⟨_,rfl⟩;rw[<-hH1] at hS hT ⊢;have hsz1:H1.objs.size=s.heap.objs.size+1:=by rw[hH1,WM]
    have hlS:l<s.heap.objs.size:=Ym hol;have hol':H1.get? l=some { cls:=.type "list",dict:=odict,data:=.seq items nl,slots:=oslots }:=by rw[hH1]; exact Ye _ hol
    have hl1:H1.IsList l items:=⟨_,hol',rfl,nl,rfl⟩;have hk1:∀b o,s.heap.get? b=some o->H1.get? b=some o:=fun b o e=>by rw[hH1]; exact Ye _ e
    have hsls:=PySem.F.sub_list_set;have hslf:=Ug;have hne:(Value.type "list" == Value.type "dict")=false:=by decide
    unfold Builtin.«set.__init__» noKeywords Builtin.Frozenset.updateFrom;generalize hPI:pyIter=PI
    wp_walk
    subst hPI;refine Vs hl1 (Ya (wpAny_runValue ?_));have hh3:A.in1.in1.in1.handled=none:=by simp[hh]
    have hI:l≠H1.objs.size:=Yx (by rw[hsz1]; exact Q0 hlS);have hf:s.heap.objs.size ∉ [H1.objs.size,l]:=by
     simp only[Yn,YS,WL,Uy];exact⟨Yx (by rw[hsz1]; exact Qg _),QD hlS⟩
    have hlen:ss.length=items.size:=by
     have:=hi.length;simpa using this.symm
    refine Zn0 (B:=B) (show A.units+1+1+1<cLine by omega) ((Walks.list hh3 _ l hI items).toS) hf (fun i s' hst b hb => ?_) (fun i=>ss.getD i []) hb (items.size - 0) 0 _ [] (by omega) (YV _) ⟨⟨_,Yq _ rfl,rfl,rfl⟩,hl1.push _⟩ ?_ (fun i v e => ?_) (fun y=>⟨(fun z=>by cases z),fun⟨j,z,_⟩=>by omega⟩) (Yi _) fun s' xs m hS' hm => ?_
    ·rw[Ys] at hb;subst hb;obtain⟨⟨o,h1,h2,_⟩,_⟩:=hst;exact⟨o,h1,by rw[h2]; exact fun z=>by injection z with z; exact absurd z (by decide)⟩
    ·exact⟨_,#[],0,_,Ye _ hS,⟨rfl,rfl,rfl⟩,rfl,rfl,⟨.inl rfl,rfl,List.Pairwise.nil,rfl,(by show 0 * 5<7 * 3; decide),fun q hq=>by simp[SetTable.fresh] at hq⟩,.nil,Q2,by decide⟩
    ·obtain⟨b,its,e1,⟨o,g1,g2⟩,e3⟩:=ZlR hi i v (by rw[YG]; exact e);exact⟨b,its,e1,⟨o,Ye _ (hk1 b o g1),g2⟩,e3,hB b (by rw[<-e1]; exact Wx (by rw[YG]; exact e))⟩
    ·obtain⟨h',g',d',tk',os'⟩:=s';have eg:g'=s.gens:=m.gens;have ed:d'=s.drawn:=m.drawn;have eo:os'=s.os:=m.os;subst eg ed eo;show wpAny _ _ _ _ _ _;refine Yb ?_;show wpAny _ _ (ret Value.none) _ _ _;refine Yb ⟨rfl,h',tk',xs,rfl,hS',fun y => ?_,fun b o hb' e => ?_⟩
     ·rw[hm];constructor
      ·rintro⟨j,hj,rfl⟩;rw[Yk,Yj (by omega)];exact QH _
      ·intro hy;obtain⟨j,hj,rfl⟩:=QK hy;exact⟨j,by omega,by rw[Yk,Yj hj]; rfl⟩
     ·refine m.heap b o ?_ (Ye _ (hk1 b o e));simp only[Yn,YS,WL,Uy];exact⟨Yx hb',Yx (by rw[hsz1]; exact Q0 hb')⟩
   refine QE (codeAny_call_builtin YR.init.plain PySem.F.entry_set_init (check_set_init_1 hT hbody)) fun r2 s2 hr2 => ?_;cases r2 with
   | error e=>exact hr2
   | ok fl2 =>
    cases fl2 with
    | ret r =>
     obtain⟨rfl,h',tk,xs,rfl,g1,g2,g3⟩:=hr2
     repeat (any_goals (first | assumption | wp_step))
     exact h _ _ xs g1 g2 g3
    | _=>exact hr2.elim
  | _=>exact hr.elim
end
end DL
end
section
namespace DL
open PySem PySem.Spec PyProof.Rows L2 PySem.W SO
section
variable{prog:P5}{w:World}{B:Addr->Prop}{A:P4}{E:P7->P1->Prop}{s:P1}{a:Addr}
theorem Zld{h:Heap}{vs vs':List P7}(p:vs.Perm vs'):∀{xs:List (List Str)},PlsAre h vs xs->∃xs',PlsAre h vs' xs'/\xs.Perm xs':=by
 induction p with
 | nil=>intro xs x; exact⟨xs,x,.refl _⟩
 | cons v _ ih =>
  intro xs x;cases xs with
  | nil=>exact x.elim
  | cons p xs =>
   obtain⟨xs',h1,h2⟩:=ih x.2;exact⟨p :: xs',⟨x.1,h1⟩,h2.cons p⟩
 | swap u v l =>
  intro xs x
  match xs,x with
  | p :: q :: xs,x=>exact⟨q :: p :: xs,⟨x.2.1,x.1,x.2.2⟩,.swap q p _⟩
  | [p],x=>exact x.2.elim
  | [],x=>exact x.elim
 | trans _ _ ih1 ih2 =>
  intro xs x;obtain⟨ys,h1,h2⟩:=ih1 x;obtain⟨zs,h3,h4⟩:=ih2 h1;exact⟨zs,h3,h2.trans h4⟩
theorem ZnZ{o:Obj}{es:Array (Int×P7)}{ep:Nat}{t:SetTable}{Q:P7->P1->Prop}(ho:s.heap.get? a=some o)(hx:o.ExactSet)(hd:o.data = .set es ep t)(hT:TabI w t es.size)(hb:es.size<scanBound)
  (h:∀(h':Heap) (d:Drawn) (I:Addr) (fp:List Addr) (St:Nat->P1->Prop) (L:List P7),(∀b o,s.heap.get? b=some o->h'.get? b=some o)->s.heap.objs.size<=I->(∀b∈fp,b=a\/s.heap.objs.size<=b) ->
   (∀A':P4,A'.handled=none->WalksS prog w A' I fp [I] (fun x y=>y=x) L.length (fun i v=>L[i]?=some v) St)->St 0 { s with heap:=h',drawn:=d }->L.Perm (es.toList.map (·.2))->Q (.ref I) { s with heap:=h',drawn:=d }) :
  wpAny (model prog w) A (pyIter (.ref a)) Q E s:=by
 have haS:a<s.heap.objs.size:=Ym ho;have hty:s.TypeIs (.ref a) "set":=⟨_,ho,hx.1⟩;refine Uj hty PySem.F.slot_set_iter (YU PySem.F.slot_set_iter hty SF.entryI ?_ (PySem.F.args_set_iter_1 _));unfold Builtin.«frozenset.__iter__»;refine Ya (m:=Builtin.Frozenset.slot0 _ _) (Yb ?_);dsimp only;unfold Builtin.Frozenset.sizeOf;refine Ya (Ya (V5 ho hd hT.fits (Yb ?_)));refine Ya (m:=setDrawn a) (Ya (YX ho hd hT.fits ?_));dsimp only;refine Ya (Zea (Yb ?_));have hz:es.toList.length=es.size:=Yo;refine Yw (fun hc => ?_) (fun hc => ?_)
 ·-- drawn
  refine Ya (Zib es.size (List.range es.size) s (by simp) fun q d hq => ?_);refine Ya (wpAny_newTuple ?_ (by
   rw[Yr,hq.length_eq,Ws];exact QZ hb))
  have hqb:∀(i p:Nat),q[i]?=some p->p<es.size:=fun i p e=>by
   have:=hq.mem_iff.mp (Wx e);simpa using this
  generalize hTo:({ cls:=.type "tuple",data:=.seq (q.map fun (i:Nat)=>rawInt (i:Int)).toArray }:Obj)=oT;refine Ya (m:=setEpoch a) (Ya (YX (s:={ s with heap:=s.heap.push oT,drawn:=d }) (Ye _ ho) hd hT.fits (Yb ?_)));refine Ya (Y3 (Yb ⟨_,rfl, "set_iterator",_,⟨_,Yq _ rfl,rfl⟩,SF.slotN.lookup,?_⟩));have hTg:(s.heap.push oT).get? s.heap.objs.size=some oT:=Yq _ (by rw[<-hTo]; rfl);have hsz:(s.heap.push oT).objs.size=s.heap.objs.size+1:=WM ..;have hIT:(s.heap.push oT).objs.size≠s.heap.objs.size:=by omega
  have hIa:(s.heap.push oT).objs.size≠a:=QD (by rw[hsz]; exact Q0 haS);have hL:(q.map fun i=>((es.toList[i]?).map (·.2)).getD .none).Perm (es.toList.map (·.2)):=by
   refine (hq.map _).trans (Vb ?_);rw[<-hz];exact map_getD (·.2) .none es.toList
  have hlen:(q.map fun i=>((es.toList[i]?).map (·.2)).getD .none).length=es.size:=by rw[Yr,hq.length_eq,Ws]
  refine h _ d _ [(s.heap.push oT).objs.size,s.heap.objs.size,a] (fun i s' => ∃f,ItS s'.heap (s.heap.push oT).objs.size a o es.size ep f i/\(f = .ref s.heap.objs.size/\s'.heap.get? s.heap.objs.size=some oT)) _ (fun b o e=>Ye _ (Ye _ e)) (show s.heap.objs.size<=(s.heap.push oT).objs.size by rw[hsz]; exact QT _) (fun b hb' => ?_) (fun A' hA' => ?_) ?_ hL
  ·simp only[Yn,YS,WL] at hb';rcases hb' with rfl | rfl | rfl
   ·right; omega
   ·right; omega
   ·left; rfl
  ·rw[hlen];refine Zgb (F:=fun i f h'=>f = .ref s.heap.objs.size/\h'.get? s.heap.objs.size=some oT) hA' hd hT.fits hIa (by simp) (by simp) (fun i f h1 h2 hF hk=>⟨hF.1,hk _ (by simp) (Y7 hIT) _ hF.2⟩) (fun i s' f hi _ hF => ?_) (fun s' f _ hF => ?_)
   ·have hiq:i<q.length:=by rw[hq.length_eq,Ws]; exact hi
    have e1:q[i]?=some q[i]:=Yj hiq;have e2:=hqb i _ e1;have e3:es.toList[q[i]]?=some (es[q[i]]):=by rw[YG,Yp e2]
    refine⟨(es[q[i]]).2,.ref s.heap.objs.size,?_,.inr ⟨s.heap.objs.size,oT,(q.map fun (i:Nat)=>rawInt (i:Int)).toArray,0,q[i],(es[q[i]]).1,hF.1,rfl,hF.2,by rw[<-hTo],?_,?_⟩,rfl,hF.2⟩
    ·rw[YO,e1];simp only[Qq,e3,Option.getD_some]
    ·rw[List.getElem?_toArray,YO,e1];rfl
    ·rw[Yp e2]
   ·refine .inr ⟨s.heap.objs.size,oT,(q.map fun (i:Nat)=>rawInt (i:Int)).toArray,0,hF.1,hF.2,by rw[<-hTo],?_⟩;rw[List.getElem?_toArray];refine VP ?_;rw[Yr,hq.length_eq,Ws];exact Yi _
  ·exact⟨_,⟨⟨_,Yq _ rfl,rfl,rfl⟩,Ye _ (Ye _ ho)⟩,rfl,Ye _ hTg⟩
 ·-- by its places
  have hc':¬ (!byT w && (!t.plain && decide (es.size > 1)))=true:=hc;refine Ya (Yb ?_);refine Ya (m:=setEpoch a) (Ya (YX ho hd hT.fits (Yb ?_)));refine Ya (Y3 (Yb ⟨_,rfl, "set_iterator",_,⟨_,Yq _ rfl,rfl⟩,SF.slotN.lookup,?_⟩));have hIa:s.heap.objs.size≠a:=QD haS;have hfp:∀b∈[s.heap.objs.size,a],b=a\/s.heap.objs.size<=b:=fun b hb'=>by
   simp only[Yn,YS,WL] at hb';rcases hb' with rfl | rfl
   ·right; omega
   ·left; rfl
  generalize hIo:({ cls:=.type "set_iterator",data:=.fields [rawInt 0,rawInt 0,Value.ref a,rawInt (es.size:Int),rawInt (ep:Int)].toArray }:Obj)=oI;have hIg:(s.heap.push oI).get? s.heap.objs.size=some oI:=Yq _ (by rw[<-hIo]; rfl);have X0:ItS (s.heap.push oI) s.heap.objs.size a o es.size ep (.int 0 0) 0:=⟨⟨_,hIg,by rw[<-hIo],by rw[<-hIo]; rfl⟩,Ye _ ho⟩;have es0:∀{h':Heap},({ s with heap:=h' }:P1) = { s with heap:=h',drawn:=s.drawn }:=fun {h'}=>by cases s; rfl
  rw[es0];by_cases hbt:byT w=true
  ·have hL:((pickOrder (w.params.setOrder a ep) es).toList.map (·.2)).Perm (es.toList.map (·.2)):=(Zr5 _ es).map _;have hlen:((pickOrder (w.params.setOrder a ep) es).toList.map (·.2)).length=es.size:=by rw[hL.length_eq,Yr,hz]
   have hpl:(pickOrder (w.params.setOrder a ep) es).size=es.size:=by simpa using hlen
   refine h _ s.drawn _ [s.heap.objs.size,a] (fun i s' => ∃f,ItS s'.heap s.heap.objs.size a o es.size ep f i/\f = .int 0 0) _ (fun b o e=>Ye _ e) (Yi _) hfp (fun A' hA' => ?_) ⟨_,X0,rfl⟩ hL;rw[hlen];refine Zgb (F:=fun i f h'=>f = .int 0 0) hA' hd hT.fits hIa (by simp) (by simp) (fun i f h1 h2 hF hk=>hF) (fun i s' f hi ho' hF => ?_) (fun s' f ho' hF => ?_)
   ·have hi':i<(pickOrder (w.params.setOrder a ep) es).size:=by omega
    refine⟨((pickOrder (w.params.setOrder a ep) es)[i]).2,.int 0 0,?_,.inl ⟨0,0,hF,rfl,fun A E Q hQ=>Zhs hbt ho' hd hT.fits ?_⟩,rfl⟩
    ·rw[YO,YG,Yp hi']; rfl
    ·rw[Yp hi']; exact hQ
   ·refine .inl ⟨0,hF,fun A E Q hQ=>Zhs hbt ho' hd hT.fits ?_⟩;rw[QW (by omega)];exact hQ
  ·have hbf:byT w=false:=by simpa using hbt
   have h1:¬ (!t.plain && decide (es.size > 1))=true:=fun z=>hc' (by rw[hbf,z]; rfl);have hpl:t.place.size=es.size:=by
    have:=hT.fits;unfold SetTable.fits at this;rw[Y2] at this;exact eq_of_beq this.1
   have hrs:Rs t.place:=by
    by_cases hp:t.plain=true
    ·exact hT.plain hp
    ·have hz1:es.size<=1:=by
      rw[Bool.not_eq_true] at hp;rw[hp] at h1;simp at h1;omega
     unfold Rs;have hl1:t.place.toList.length<=1:=by rw[Yo]; omega
     match hm:t.place.toList,hl1 with
     | [],_=>exact .nil
     | [x],_=>exact List.pairwise_singleton _ _
   have hlen:(es.toList.map (·.2)).length=es.size:=by simp
   refine h _ s.drawn _ [s.heap.objs.size,a] (fun i s' => ∃f,ItS s'.heap s.heap.objs.size a o es.size ep f i/\∃k:Nat,f = .int k 0/\SetTable.below t.place k=i) (es.toList.map (·.2)) (fun b o e=>Ye _ e) (Yi _) hfp (fun A' hA' => ?_) ⟨_,X0,0,rfl,?_⟩ (.refl _)
   ·rw[hlen];refine Zgb (F:=fun i f h' => ∃k:Nat,f = .int k 0/\SetTable.below t.place k=i) hA' hd hT.fits hIa (by simp) (by simp) (fun i f h1 h2 hF hk=>hF) (fun i s' f hi ho' hF => ?_) (fun s' f ho' hF => ?_)
    ·obtain⟨k,rfl,hk⟩:=hF;have hi':i<t.place.size:=by omega
     refine⟨(es[i]).2,.int ((t.place[i]+1:Nat)) 0,?_,.inl ⟨k,t.place[i]+1,rfl,rfl,fun A E Q hQ=>Zkn hbf ho' hd hT h1 ?_⟩,_,rfl,?_⟩
     ·rw[YO,YG,Yp hi]; rfl
     ·rw[hk,Yp hi,Yp hi']; exact hQ
     ·have e2:=Zq9 hrs hi';have e3:t.place.getD i 0=t.place[i]:=by simp[Array.getD,hi']
      rw[e3] at e2;exact e2
    ·obtain⟨k,rfl,hk⟩:=hF;refine .inl ⟨k,rfl,fun A E Q hQ=>Zkn hbf ho' hd hT h1 ?_⟩;rw[hk,QW (Yi _)];exact hQ
   ·exact Zp1 hrs
theorem SetP.kept{h h':Heap}{xs:List (List Str)}(x:SetP prog w B h a xs)(hk:∀b o,h.get? b=some o->h'.get? b=some o):SetP prog w B h' a xs:=by
 obtain⟨o,es,ep,t,ho,h1,h2,h3,h4,h5,r⟩:=x;exact⟨o,es,ep,t,hk _ _ ho,h1,h2,h3,h4,h5.mono fun b its ⟨u,g1,g2⟩=>⟨u,hk _ _ g1,g2⟩,r⟩
theorem SetP.typeIs{xs:List (List Str)}(x:SetP prog w B s.heap a xs):s.TypeIs (.ref a) "set":=by
 obtain⟨o,es,ep,t,ho,hx,_⟩:=x;exact⟨o,ho,hx.1⟩
theorem SetP.len{h:Heap}{xs:List (List Str)}(x:SetP prog w B h a xs):xs.length<128/\xs.Nodup/\a<h.objs.size:=by
 obtain⟨o,es,ep,t,ho,hx,hd,hled,T,el,hn,hb⟩:=x;have:=el.length;rw[Yo] at this;exact⟨by omega,hn,Ym ho⟩
theorem Zi1{o:Obj}{es:Array (Int×P7)}{ep:Nat}{t:SetTable}{R:List P7->P1->Prop}(hh:A.handled=none)(ho:s.heap.get? a=some o)(hx:o.ExactSet)(hd:o.data = .set es ep t)(hT:TabI w t es.size)(hb:es.size<scanBound)
  (h:∀(h':Heap) (tk:Nat) (d:Drawn) (vs:List P7),(∀b o,s.heap.get? b=some o->h'.get? b=some o)->vs.Perm (es.toList.map (·.2))->R vs { s with heap:=h',toks:=tk,drawn:=d }) :
  wpAny (model prog w) A (collect (.ref a)) R E s:=by
 unfold collect;refine Ya (wpAny_runValue (WU entry_proto_collect' ?_));rw[WO PySem.F.plain_proto_collect _];show wpAny _ A.in1 (newList [] >>= fun l=>again (.builtin "list.__iadd__" ⟨[l,.ref a],[]⟩)) _ _ s;refine Ya (Y3 (Yb ⟨VC PySem.F.plain_list_iadd _,WU entry_list_iadd' ?_⟩));rw[WO PySem.F.plain_list_iadd _];show wpAny _ A.in1 (Builtin.List.listExtendWith (.ref s.heap.objs.size) (.ref a) (.ref s.heap.objs.size)) _ _ _;generalize hoL:({ cls:=.type "list",data:=.seq ([]:List P7).toArray }:Obj)=oL;have hL:(s.heap.push oL).get? s.heap.objs.size=some { cls:=.type "list",data:=.seq #[] }:=by rw[Yq _ (by rw[<-hoL]; rfl),<-hoL]
 have k0:∀b o,s.heap.get? b=some o->(s.heap.push oL).get? b=some o:=fun b o e=>Ye _ e;have hsz:(s.heap.push oL).objs.size=s.heap.objs.size+1:=WM ..;have haS:a<s.heap.objs.size:=Ym ho;have ho1:=k0 _ _ ho;generalize s.heap.push oL=H1 at hL k0 hsz ho1;unfold Builtin.List.listExtendWith;refine Ya (Qj (s:={ s with heap:=H1 }) (T:="set") ⟨o,ho1,hx.1⟩ ?_);have h1:Builtin.List.listSameRef (.ref s.heap.objs.size) (.ref a)=false:=by
  have:s.heap.objs.size≠a:=QD haS;simp[Builtin.List.listSameRef,this]
 refine Yw (fun z => ?_) (fun _ => ?_)
 ·rw[h1] at z;exact absurd z (by decide)
 refine Ya (ZnZ (s:={ s with heap:=H1 }) ho1 hx hd hT hb fun h2 d I fp St L k2 hI hfp W st0 hp => ?_);refine Ya (YM (Zmp (s:={ s with heap:=h2,drawn:=d }) ⟨o,k2 _ _ ho1,hx.1⟩ ?_));refine Yw (fun _ => ?_) (fun z=>absurd (by decide +kernel) z);refine Ya (Wg ?_);have hf:s.heap.objs.size ∉ fp:=fun z=>by
  rcases hfp _ z with e | e
  ·rw[e] at haS; exact absurd haS (Y8 _)
  ·have e':H1.objs.size<=s.heap.objs.size:=e;omega
 have hg2:=k2 _ _ hL;refine Ya ?_;show wpAny _ _ (updateSeq s.heap.objs.size (·.push .none) >>= fun _=>updateSeq s.heap.objs.size (·.pop)) _ _ _;refine Ya (wpAny_updateSeq hg2 rfl ?_);have hg3:=YL (Obj.mapSeq (·.push Value.none)) hg2 rfl;refine wpAny_updateSeq (hz:=by seq_fits) hg3 rfl ?_;have hg4:=YL (Obj.mapSeq (·.pop)) hg3 rfl;have k4:∀b o,b≠s.heap.objs.size->h2.get? b=some o->((h2.update s.heap.objs.size (Obj.mapSeq (·.push Value.none))).update s.heap.objs.size (Obj.mapSeq (·.pop))).get? b=some o:=fun b o hb e =>
  (QU _ _ (Y7 hb)).trans ((QU _ _ (Y7 hb)).trans e)
 refine Yb ⟨VC PySem.F.plain_extend_loop _,?_⟩;have hl:L.length=es.size:=by rw[hp.length_eq,Yr,Yo]
 have W1:=W A.in1 (by simp[hh]);have st1:=W1.frame 0 _ ((h2.update s.heap.objs.size (Obj.mapSeq (·.push Value.none))).update s.heap.objs.size (Obj.mapSeq (·.pop))) s.toks st0 (Yi _) fun b hb o e=>k4 b o (fun z=>hf (z ▸ hb)) e;refine codeAny_extend_loopS W1 (by rw[hl]; exact (YI (VT hb) (by rw[Wd]; decide))) s.heap.objs.size hf _ (L.length - 0) 0 _ #[] _ rfl (YV _) st1 hg4 (ItemsOf.nil _) fun s' acc c m hg hit => ?_;rw[Moved.eq_with m];refine Ya (wpAny_load hg ?_);refine Yb ?_;rw[Zny hit];refine h _ _ _ _ (fun b o e=>m.heap b o ?_ (k4 b o (Yx (Ym e)) (k2 _ _ (k0 _ _ e)))) hp;have hb:=Ym e;have hI':s.heap.objs.size+1<=I:=hsz ▸ hI;simp only[Yn,YS,WL,Uy];exact⟨Yx hb,Yx (Yz hb (Nat.le_of_succ_le hI'))⟩
theorem Znd{xs:List (List Str)}{R:List P7->P1->Prop}(hh:A.handled=none)(hS:SetP prog w B s.heap a xs)
  (h:∀(h':Heap) (tk:Nat) (d:Drawn) (vs:List P7) (ys:List (List Str)),(∀b o,s.heap.get? b=some o->h'.get? b=some o)->PlsAre s.heap vs ys->(∀v∈vs,∃b,v = .ref b/\B b)->ys.Perm xs->R vs { s with heap:=h',toks:=tk,drawn:=d }) :
  wpAny (model prog w) A (collect (.ref a)) R E s:=by
 obtain⟨o,es,ep,t,ho,hx,hd,hled,T,el,hn,hb'⟩:=id hS;have hT:TabI w t es.size:=⟨by rw[<-Yo]; exact T.fits,hled,fun _=>T.rs⟩;refine Zi1 hh ho hx hd hT (VX hb' (by decide)) fun h' tk d vs k hp => ?_;obtain⟨ys,hys,hp'⟩:=Zld hp.symm el.pls;exact h h' tk d vs ys k hys (fun v hv=>el.bs v (hp.mem_iff.mp hv)) hp'.symm
end
end DL
end
section
namespace DL
open PySem PySem.Spec PyProof.Rows L2 PySem.W SO
def ddP:List (List Str)->List (List Str)
 | []=>[]
 | x :: xs=>if x∈ddP xs then ddP xs else x :: ddP xs
theorem Zcv:∀(xs:List (List Str)) (y:List Str),y∈ddP xs ↔ y∈xs
 | [],y=>Iff.rfl
 | x :: xs,y=>by
  unfold ddP;split
  ·rename_i h;rw[Zcv xs y,Yn];exact⟨.inr,fun z=>z.elim (fun e=>e ▸ (Zcv xs x).mp h) id⟩
  ·rw[Yn,Yn,Zcv xs y]
theorem Zb8:∀(xs:List (List Str)),(ddP xs).Nodup
 | []=>Q2
 | x :: xs=>by
  unfold ddP;split
  ·exact Zb8 xs
  ·rename_i h;exact W7.mpr ⟨h,Zb8 xs⟩
theorem Zi8:∀(xs:List (List Str)),(ddP xs).length<=xs.length
 | []=>Yi _
 | x :: xs=>by
  unfold ddP;have:=Zi8 xs;split
  ·exact Nat.le_succ_of_le this
  ·exact Nat.succ_le_succ this
section
variable{prog:P5}{w:World}{B:Addr->Prop}{A:P4}{E:P7->P1->Prop}{s:P1}{a:Addr}
theorem Zsy{xs:List (List Str)}{Q:P7->P1->Prop}(hu:A.units+2<cLine)(hh:A.handled=none)(hS:SetP prog w B s.heap a xs)(h64:xs.length<128)
  (k:∀vs ys,PlsAre s.heap vs ys->(∀v∈vs,∃b,v = .ref b/\B b)->ys.Perm xs->∀p:List Nat,p.Perm (List.range ys.length)->p.Pairwise (fun i j=>plB (ys.getD i []) (ys.getD j [])=true)->∀(h1:Heap) b (h':Heap) tk d c,(∀b o,s.heap.get? b=some o->h1.get? b=some o)->h1.objs.size<=b->(∀b o,h1.get? b=some o->h'.get? b=some o) ->
   h'.get? b=some (seqObj "list" (p.map fun i=>vs.getD i .none).toArray c)->Q (.ref b) { s with heap:=h',toks:=tk,drawn:=d }) :
  wpAny (model prog w) A (call (.builtin "sorted") [.ref a]) Q E s:=by
 refine Vc kind_sorted plain_sorted entry_sorted (args_sorted1 _) ?_;unfold Builtin.«sorted»;refine Ya (m:=checkCount "sorted" 1 1 _) (Yb ?_);refine Ya (Znd (by simp[hh]) hS fun h1 tk d vs ys k1 hys hbs hp => ?_);have hl:vs.length=ys.length:=hys.length;have hl2:ys.length=xs.length:=hp.length_eq;refine Ya (Ui ?_ (by rw[Wd]; omega));have hoL:(h1.push (seqObj "list" vs.toArray 0)).get? h1.objs.size=some (seqObj "list" vs.toArray 0):=Yq _ rfl;have keep:∀b o,h1.get? b=some o->(h1.push (seqObj "list" vs.toArray 0)).get? b=some o:=fun b o q=>Ye _ q;show wpAny _ _ _ _ _ { s with heap:=h1.push (seqObj "list" vs.toArray 0),toks:=tk,drawn:=d };generalize h1.push (seqObj "list" vs.toArray 0)=g at hoL keep;refine Ya (YM (YU slot_list_sort ⟨_,hoL,rfl⟩ entry_list_sort ?body (args_list_sort _)))
 case body =>
  refine ZfR (s:={ s with heap:=g,toks:=tk,drawn:=d }) (by show _<_; omega) hoL (by omega) (ZhK (s:={ s with drawn:=d }) (hp.nodup_iff.mpr hS.len.2.1) hys (fun b o e=>Yx (Ym (k1 b o e))) fun b o e=>keep b o (k1 b o e)) (by rw[hl]; exact Zkp (hp.nodup_iff.mpr hS.len.2.1)) fun p hp' hpw h' c hb hc => ?_;refine⟨_,rfl,Yb ⟨_,rfl,?_⟩⟩;rw[hl] at hp';exact k vs ys hys hbs hp p hp' hpw h1 _ h' tk d c k1 (Yi _) (fun b o e=>hb b o (Yx (Ym e)) (keep b o e)) hc
theorem ZpT{xs:List (List Str)}{Q:P7->P1->Prop}(hS:SetP prog w B s.heap a xs)(k:∀t tk,Q (.int xs.length t) { s with toks:=tk }):wpAny (model prog w) A (call (.builtin "len") [.ref a]) Q E s:=by
 obtain⟨o,es,ep,t,ho,hx,hd,hled,T,el,hn,hb⟩:=id hS;have hty:s.TypeIs (.ref a) "set":=⟨_,ho,hx.1⟩;have fits:t.fits es.size=true:=by rw[<-Yo]; exact T.fits
 have hsz:es.size=xs.length:=by rw[<-Yo]; exact el.length
 refine call_len_set ho hx hd fits (by omega) ?_;rw[hsz];exact k _ _
end
def ZdO:List D->Sto->Out (List D)
 | [d],st=>match ZN st d with
  | some xs=>match Za1 xs with
   | some ss=>if ss.length<128 then .ok ((Z7 (ddP ss)).map fun p=>D.tup (p.map D.str)) st else .bad
   | none => .bad
  | none => .bad
 | _,_ => .bad
def ZdN:List D->Sto->Out D
 | [d],st=>match ZN st d with
  | some xs=>match Za1 xs with
   | some ss=>if ss.length<128 then .ok (.int (ddP ss).length) st else .bad
   | none => .bad
  | none => .bad
 | _,_ => .bad
section
variable{X:Cx}{EX:EXT}{pins:List (Addr×Obj)}{σ:L2.St}{H:Hp}{s:P1}{O:List Addr}
theorem Zju:∀{vs:List P7} {p q:List Str},StrsAre vs p->StrsAre vs q->p=q
 | _,_,_,.nil,h=>by cases h; rfl
 | _,_,_,.cons x t r,h=>by
  cases h with
  | cons y u r'=>rw[Zju r r']
theorem ZpX{h:Heap}{b:Addr}{xs ys:Array P7}(x:IsTup h b xs)(y:IsTup h b ys):xs=ys:=by
 obtain⟨o,h1,_,n,h2⟩:=x;obtain⟨o',g1,_,m,g2⟩:=y;rw[h1] at g1;cases g1;rw[h2] at g2;cases g2;rfl
def RdB(X:Cx)(O:List Addr)(H:Hp)(b:Addr):Prop:=∃q:List Str,Rep X.K O H (.tup (q.map D.str)) (.ref b)
theorem ZiQ(I:Inv X pins σ H s):∀{vs:List P7} {ys:List (List Str)},PlsAre s.heap vs ys->(∀v∈vs,∃b,v = .ref b/\RdB X O H b)->∃us,Reps X.K O H (ys.map fun p=>D.tup (p.map D.str)) us/\Vals us vs
 | [],[],_,_=>⟨[],Reps.nil_i.mpr rfl,.nil⟩
 | v :: vs,p :: ps,x,y=>by
  obtain⟨us,h1,h2⟩:=ZiQ I x.2 fun v hv=>y v (Yl _ hv);obtain⟨⟨b,its,rfl,t1,t2⟩,_⟩:=x;obtain⟨b',e,q,r⟩:=y _ Yt;cases e;have hp:=ZdU I (ps:=[q]) (Reps.one r) (.cons rfl .nil);obtain⟨⟨b'',jts,e,g1,g2⟩,_⟩:=hp;cases e;have:=ZpX t1 g1;have e2:its=jts:=by
   have:=congrArg Array.toList this;simpa using this
  subst e2;obtain rfl:=Zju t2 g2;exact⟨.ref b :: us,Reps.cons_i.mpr ⟨_,_,rfl,r,h1⟩,.cons rfl h2⟩
 | [],_ :: _,x,_=>x.elim
 | _ :: _,[],x,_=>x.elim
theorem ZfN:∀{ss:List (List Str)} {vs:List V} {its:List P7},Reps X.K O H (ss.map fun p=>D.tup (p.map D.str)) vs->Vals vs its->∀b,Value.ref b∈its->RdB X O H b
 | [],vs,its,r,v,b,hb=>by
  rw[Uq,Reps.nil_i] at r;subst r;cases v;cases hb
 | p :: ps,vs,its,r,v,b,hb=>by
  obtain⟨u,rs,rfl,r1,r2⟩:=Reps.cons_i.mp r;cases v with
  | cons v1 v2 =>
   rcases Yn.mp hb with e | hb
   ·rw[Rep.tup_i] at r1;obtain⟨a,ys,rfl,q,r3⟩:=r1;cases v1;cases e;exact⟨p,Rep.tup_i.mpr ⟨_,ys,rfl,q,r3⟩⟩
   ·exact ZfN r2 v2 b hb
theorem ZlA{e:Expr}{x y:Str}{p q pos pos2:Pos}{f:DA}(hcalm:X.calm=true)(hu:X.A.units+64<cLine)(hg:Gl X x)(hm:X.mg x=none)(hv:bootBuiltins x=some (.builtin "sorted"))(hg2:Gl X y)(hm2:X.mg y=none)(hv2:bootBuiltins y=some (.type "set"))(ha:PDA X EX [e] f)
  (hn:x≠"__name__":=by decide) (hdb:(x == ("__debug__" : Str))=false:=by decide) (hn2:y≠"__name__":=by decide) (hdb2:(y == ("__debug__" : Str))=false:=by decide)
  (he:starEach [e] X.env=(false,eval e X.env) :: starEach [] X.env:=by rfl):PDF X EX (.Call (.Name x p) [.Call (.Name y q) [e] [] pos2] [] pos) (Zj ZdO f):=by
 intro pins s σ H Q I h;have h':=Zej _ _ _ h;refine Wp (Zbi I hg hm hv ?_ hn hdb);refine W8 ?_ rfl rfl;show wpAny _ _ (spliced ((false,eval (.Call (.Name y q) [e] [] pos2) X.env) :: backTo pos (starEach [] X.env))) _ _ s;refine QP ?_;refine Wp (Zbi I hg2 hm2 hv2 ?_ hn2 hdb2);refine Ww (thn (ha pos2 pins s σ H _ I h') fun us s1 ⟨vs,H1,I1,r1,q1⟩ => ?_) he rfl;obtain⟨O,ds,st,W,r,R⟩:=q1;unfold ZdO at R;split at R
 ·rename_i d;obtain⟨v,rfl,rv⟩:=r.one_of;split at R
  ·rename_i zs ez;split at R
   ·rename_i ss hss;by_cases hc:ss.length<128
    ·rw[Yg hc] at R;obtain⟨pl,vs,rfl,qq,rs⟩:=rdL W rv ez;have hzs:=ZeW hss;subst hzs;cases r1 with
     | cons r0 rt =>
      cases rt;cases r0;obtain⟨its,rv',pl',hz⟩:=I1.list qq;have hl1:=rv'.length;have hl2:=rs.length;rw[Yr] at hl2;have sAll:PlsAre s1.heap its ss:=ZdU I1 rs rv';refine Zkc (B:=RdB X O H1) (items:=its.toArray) (ss:=ss) (I1.ok.hd hcalm) pl'.isList (by omega) (by simpa using sAll) (fun b hb=>ZfN rs rv' b (by simpa using hb)) (by simp; omega) fun h2 tk xs hS hmem hk => ?_;refine QX ?_;have k1:∀b o,s1.heap.get? b=some o->h2.get? b=some o:=fun b o e=>hk b o (Ym e) e;have hperm:xs.Perm (ddP ss):=(WX hS.len.2.1 (Zb8 ss)).mpr fun y=>by rw[hmem,Zcv]
      have hxl:xs.length<128:=by
       rw[hperm.length_eq];exact Qo (Zi8 ss) hc
      have I2:Inv X pins σ H1 { s1 with heap:=h2,toks:=tk }:=I1.kept k1;refine Zsy (s:={ s1 with heap:=h2,toks:=tk }) (by omega) (I1.ok.hd hcalm) hS hxl fun vs' ys hys hbs hp ix hpx hw h3 b h4 tk4 d4 c k3 hb k4 hg4 => ?_;have I3:Inv X pins σ H1 { s1 with heap:=h2,toks:=tk,drawn:=d4 }:=Inv.drew I2;obtain⟨us',hr1,hr2⟩:=ZiQ (O:=O) I3 hys hbs;have hsame:Z7 ys=Z7 (ddP ss):=by
       refine (ZfU ?_ ?_).symm
       ·exact (ZaX _).trans (hp.trans hperm).symm
       ·refine Ud (R:=fun a b=>Za9 a b=true) (S:=fun a b=>a≠b) (fun a b h1 h2 => ?_) (Zgg _) ((ZaX (ddP ss)).nodup_iff.mpr (Zb8 ss));have h3:plB b a=false:=by
         have:(!plB b a)=true:=h1;simpa using this
        exact ZcJ (Y7 h2) h3
      exact Zhr (s:={ s1 with heap:=h2,toks:=tk,drawn:=d4 }) I3 W hr1 hr2 (hsame ▸ R) hpx hw (by rw[hp.length_eq]; omega) k3 hb k4 hg4
    ·rw[Yh hc] at R; exact R.elim
   ·exact R.elim
  ·exact R.elim
 ·exact R.elim
theorem ZrF{e:Expr}{x y:Str}{p q pos pos2:Pos}{f:DA}(hcalm:X.calm=true)(hu:X.A.units+64<cLine)(hg:Gl X x)(hm:X.mg x=none)(hv:bootBuiltins x=some (.builtin "len"))(hg2:Gl X y)(hm2:X.mg y=none)(hv2:bootBuiltins y=some (.type "set"))(ha:PDA X EX [e] f)
  (hn:x≠"__name__":=by decide) (hdb:(x == ("__debug__" : Str))=false:=by decide) (hn2:y≠"__name__":=by decide) (hdb2:(y == ("__debug__" : Str))=false:=by decide)
  (he:starEach [e] X.env=(false,eval e X.env) :: starEach [] X.env:=by rfl):PD X EX (.Call (.Name x p) [.Call (.Name y q) [e] [] pos2] [] pos) (Zj ZdN f):=by
 intro pins s σ H Q I h;have h':=Zgd _ _ _ h;refine Wp (Zbi I hg hm hv ?_ hn hdb);refine W8 ?_ rfl rfl;show wpAny _ _ (spliced ((false,eval (.Call (.Name y q) [e] [] pos2) X.env) :: backTo pos (starEach [] X.env))) _ _ s;refine QP ?_;refine Wp (Zbi I hg2 hm2 hv2 ?_ hn2 hdb2);refine Ww (thn (ha pos2 pins s σ H _ I h') fun us s1 ⟨vs,H1,I1,r1,q1⟩ => ?_) he rfl;obtain⟨O,ds,st,W,r,R⟩:=q1;unfold ZdN at R;split at R
 ·rename_i d;obtain⟨v,rfl,rv⟩:=r.one_of;split at R
  ·rename_i zs ez;split at R
   ·rename_i ss hss;by_cases hc:ss.length<128
    ·rw[Yg hc] at R;obtain⟨pl,vs,rfl,qq,rs⟩:=rdL W rv ez;have hzs:=ZeW hss;subst hzs;cases r1 with
     | cons r0 rt =>
      cases rt;cases r0;obtain⟨its,rv',pl',hz⟩:=I1.list qq;have hl1:=rv'.length;have hl2:=rs.length;rw[Yr] at hl2;have sAll:PlsAre s1.heap its ss:=ZdU I1 rs rv';refine Zkc (B:=RdB X O H1) (items:=its.toArray) (ss:=ss) (I1.ok.hd hcalm) pl'.isList (by omega) (by simpa using sAll) (fun b hb=>ZfN rs rv' b (by simpa using hb)) (by simp; omega) fun h2 tk xs hS hmem hk => ?_;refine QX ?_;have k1:∀b o,s1.heap.get? b=some o->h2.get? b=some o:=fun b o e=>hk b o (Ym e) e;have hperm:xs.Perm (ddP ss):=(WX hS.len.2.1 (Zb8 ss)).mpr fun y=>by rw[hmem,Zcv]
      refine ZpT (s:={ s1 with heap:=h2,toks:=tk }) hS fun t tk2 => ?_;have I2:Inv X pins σ H1 { s1 with heap:=h2,toks:=tk2 }:=I1.kept k1;refine⟨.int xs.length,H1,I2,⟨t,rfl⟩,?_⟩;rw[hperm.length_eq];exact Run.now (k:=Val X.K Q) R W _ (Rep.int_i.mpr rfl)
    ·rw[Yh hc] at R; exact R.elim
   ·exact R.elim
  ·exact R.elim
 ·exact R.elim
end
end DL
end
section
namespace DL
open PySem PySem.Spec PyProof.Rows L2
structure BlkD(sc scope:Scope)(N0 N:List Str)(caps:List Nat)(nT:Nat):Prop where
 kind:scope.kind = .function
 names:∀y∈scope.names,y.2 = .local->scope.names.lookup y.1=some .local
 free:∀y∈scope.names,y.2 = .free->sc.names.lookup y.1=some .cell\/sc.names.lookup y.1=some .free
 len:N.length=nT+caps.length
 cap:∀q∈(List.range caps.length),∃i x,caps[q]?=some i/\N[nT+q]?=some x/\N0[i]?=some x/\(x,NameKind.free)∈scope.names/\(x,NameKind.cell) ∉ scope.names/\((Za6 scope sc).names.lookup x=some .cell\/(Za6 scope sc).names.lookup x=some .free)
def Zii(sc scope:Scope)(N0 N:List Str)(caps:List Nat)(nT:Nat):Bool :=
 (scope.kind == .function) && scope.names.all (fun y => !(y.2 == .local) || scope.names.lookup y.1 == some .local) &&
  scope.names.all (fun y => !(y.2 == .free) || (sc.names.lookup y.1 == some .cell || sc.names.lookup y.1 == some .free)) && (N.length == nT+caps.length) &&
  (List.range caps.length).all fun q=>match caps[q]?,N[nT+q]? with
   | some i,some x=>(N0[i]? == some x) && scope.names.any (fun y=>y.1 == x && y.2 == .free) && scope.names.all (fun y => !(y.1 == x && y.2 == .cell)) && ((Za6 scope sc).names.lookup x == some .cell || (Za6 scope sc).names.lookup x == some .free)
   | _,_=>false
theorem BlkD.of{sc scope:Scope}{N0 N:List Str}{caps:List Nat}{nT:Nat}(h:Zii sc scope N0 N caps nT=true):BlkD sc scope N0 N caps nT:=by
 unfold Zii at h;simp only[Y2] at h;obtain⟨⟨⟨⟨h1,h3⟩,h4⟩,h5⟩,h6⟩:=h;refine⟨eq_of_beq h1,fun y hy hl => ?_,fun y hy hl => ?_,eq_of_beq h5,fun q hq => ?_⟩
 ·have:=WJ.mp h3 y hy;rw[hl] at this;simpa using this
 ·have:=WJ.mp h4 y hy;rw[hl] at this;simpa using this
 ·have:=WJ.mp h6 q hq;split at this
  ·rename_i i x e1 e2;simp only[Y2,VW,QF,Vj] at this;obtain⟨⟨⟨g1,⟨y,g2,g3,g4⟩⟩,g6⟩,g5⟩:=this;refine⟨i,x,e1,e2,g1,?_,fun z => ?_,g5⟩
   ·obtain⟨y1,y2⟩:=y;simp only at g3 g4;subst g3 g4;exact g2
   ·have:=WJ.mp g6 _ z;simp at this
  ·cases this
end DL
end
section
end
section
end
section
end
section
namespace L2
open PySem PyProof.Rows
section
variable{X:Cx}{pins:List (Addr×Obj)}{σ:St}{H:Hp}{s:P1}{a:Addr}{y v:V}{u r:P7}{A:P4}{E:P7->P1->Prop}
theorem ZnY{H':Hp}{Q:Unit->P1->Prop}{kvs0:List (List Key×V)}(hu:A.units<cLine)(I:Inv X pins σ H s)(e0:H a=some (.dT kvs0))(g:DPut H a y v H')(ry:RelV y u)(rv:RelV v r)(h:∀s',Inv X pins σ H' s'->Q () s') :
  wpAny (model X.prog X.w) A (dictSet a u r) Q E s:=by
 rcases g with⟨kvs,k,e,_⟩ | ⟨kvs,k,b,e,ey,eb,l,eH⟩
 ·rw[e0] at e; cases e
 ·subst ey eH;cases (show u=Value.ref b from ry);obtain⟨z,hd,xs,rel,dd⟩:=Zht I.hok e;have hz:xs.length<=sizeLine:=by rw[<-Paired.length rel]; exact z
  have hl:(putK kvs k v).length<=sizeLine:=by have:=ZgW kvs k v; omega
  refine wpAny_dictSet_heap (hsz:=hz) hu (ZcD I.hok eb) dd fun h' dd' hs=>h _ ?_;obtain⟨q,es,ep,hq,h2,h3,h4,_,h5⟩:=dd';refine ZgS I (by rw[e]; exact True.intro) hs ⟨q,hq⟩ ⟨hl,hd,_,(rel.put k eb rv).keeps fun c ys ec => ?_,q,es,ep,hq,h2,h3,h4,h5⟩;rw[Zp (ne_of ec e (fun z=>nomatch z))];exact ec
def ZkY(tk tv:TE):TE:=fun σ H Q => ∀p,H p=none->tk σ (upd H p (.dT [])) fun x H1=>tv σ H1 fun y H2 => ∃kvs0 H3,H2 p=some (.dT kvs0)/\DPut H2 p x y H3/\Q (.ref p) H3
theorem Zpd{pos:Pos}{k v:Expr}{tk tv:TE}(hu:X.A.units<cLine)(hk:PE X k tk)(hv:PE X v tv):PE X (.Dict [some k] [v] pos) (ZkY tk tv):=by
 intro pins s σ H Q I q;have hn:=I.hok.fresh (Yi s.heap.objs.size);have I1:=I.laid (a:=s.heap.objs.size) (o:=.dT []) (h':=s.heap.push { cls:=.type "dict",data:=.dict #[] }) (t':=s.toks) (fun _ _ q=>Ye _ q) (Yi _) (Zoi s.heap I.big);rw[arm_eval_Dict,zip_pairTrees [some k] [v] X.env pos rfl rfl,dictDisplay_pairs (pairTrees [some k] [v] X.env pos) (by simp[pairTrees]) (by simp[pairTrees])];refine Ya (wpAny_standAt (Ya ?_));unfold subDict;refine Ya (wpAny_alloc ?_);refine Ya (YM ?_);rw[Yg (by simp[pairTrees])];refine Ya (pairTrees_cons_walk (thn (hk pins _ σ _ _ I1 (q _ hn)) fun u s1 ⟨x,H1,I2,rx,q1⟩=>thn (hv pins s1 σ H1 _ I2 q1) fun w2 s2 ⟨y,H2,I3,ry,kvs0,H3,e0,g,q2⟩=>pairTrees_nil_walk ?_));refine YM ?_;rw[UD];refine Ya (Ya (Ya (ZnY hu I3 e0 g rx ry fun s' I4 => ?_)));refine Yb ?_;show wpAny _ _ (forIn [] _ _) _ _ _;rw[UG];have fin:EP X pins σ Q (.ref s.heap.objs.size) s':=⟨.ref s.heap.objs.size,H3,I4,rfl,q2⟩
 first
  | exact Yb (Yb (Yb (Yb fin)))
  | exact Yb (Yb fin)
  | exact Yb (Yb (Yb fin))
  | exact Yb fin
end
end L2
namespace DL
open PySem PySem.Spec PyProof.Rows L2
def ZdI(fk fv:DE):DE:=fun ρ st=>(fk ρ (st++[.dtt []])).bind fun k st1=>(fv ρ st1).bind fun v st2=>match st2[st.length]? with
 | some (.dtt _)=>match Zbh st2 (.res st.length) k v with
  | some st3 => .ok (.res st.length) st3
  | none => .bad
 | _ => .bad
section
variable{X:Cx}{EX:EXT}{k v:Expr}{fk fv:DE}{pos:Pos}
theorem Zmt(hu:X.A.units+64<cLine)(hk:PD X EX k fk)(hv:PD X EX v fv):PD X EX (.Dict [some k] [v] pos) (ZdI fk fv):=by
 refine PE.mono (Zpd (by omega) hk hv) ?_;rintro σ H Q ⟨O,ρ,st,W,E,R⟩ p hp;have kp:Keep X.K O H (O++[p]) (upd H p (.dT [])):=Keep.push hp;have W1:WR X.K (O++[p]) (upd H p (.dT [])) (st++[.dtt []]):=W.push' hp ⟨[],Zai,rfl⟩;have R1:=Run.later R kp;have hq:(O++[p])[st.length]?=some p:=by rw[<-W.len]; simp
 refine⟨O++[p],ρ,st++[.dtt []],W1,E.mono kp,R1.bind.mono fun d st1 O1 H1 k1 W2 R2 x rx => ?_⟩;refine⟨O1,ρ,st1,W2,E.mono (kp.trans k1),R2.bind.mono fun z st2 O2 H2 k2 W3 R3 y ry => ?_⟩;have hq2:=k2.pre _ _ (k1.pre _ _ hq);split at R3
 ·rename_i kvs hs;split at R3
  ·rename_i st3 h3;have rr:Rep X.K O2 H2 (.res st.length) (.ref p):=Rep.res_i.mpr ⟨p,rfl,hq2⟩;obtain⟨a,H3,ea,g,kp3,W4⟩:=ZjR W3 h3 rr (Rep.mono k2 _ _ rx) ry;cases ea;obtain⟨vs,e2,_⟩:=W3.at_ _ _ _ hq2 hs;exact⟨vs,H3,e2,g,R3 O2 H3 kp3 W4 (.ref p) (Rep.mono kp3 _ _ rr)⟩
  ·exact R3.elim
 ·exact R3.elim
theorem ZnL{ρ:Ev}{st:Sto}:ZdI fk fv ρ st=(fk ρ (st++[.dtt []])).bind fun k st1=>(fv ρ st1).bind fun v st2=>match st2[st.length]? with
 | some (.dtt _)=>match Zbh st2 (.res st.length) k v with
  | some st3 => .ok (.res st.length) st3
  | none => .bad
 | _ => .bad:=rfl
end
end DL
end
section
namespace PySem
open Sem (wp)
section
variable{prog:P5}{w:World}{K:Type}[DecidableEq K]{knd:HeapKind prog w K}{A:P4}{E:P7->P1->Prop}{s:P1}
theorem Zmm{stored:List P7}{Q:Bool->P1->Prop}(hst:∀v∈stored,∃k' b,v = .ref b/\knd.is s.heap k' b)(h:Q false s):wpAny (model prog w) A (tableMayTell .none stored) Q E s:=by
 unfold tableMayTell;split
 ·exact Yb h
 ·refine Ya (Yb ?_);simp only[Bool.not_true,YQ,Wz];refine Ya ?_;refine QI _ (fun rest r s'=>s'=s/\r=(none,())/\∀v∈rest,∃k' b,v = .ref b/\knd.is s.heap k' b) _ ?_ ?_ _ _ ⟨rfl,rfl,hst⟩
  ·rintro x rest r s' ⟨rfl,rfl,hr⟩;obtain⟨k',b,rfl,hb⟩:=hr x Yt;refine Ya (knd.quiet hb ?_);simp only[Bool.not_true,YQ,Wz];exact Yb ⟨rfl,rfl,fun v hv=>hr v (Yl _ hv)⟩
  ·rintro r s' ⟨rfl,rfl,_⟩;exact Yb h
theorem ZnH{d:Addr}{o:Obj}{es ep}{xs:List (K×Addr×P7)}{h:Int}{Q:Option Nat->P1->Prop}(ho:s.heap.get? d=some o)(hd:o.data = .dict es ep)(he:es.toList=xs.map (entryOfKey knd))(his:∀x∈xs,knd.is s.heap x.1 x.2.1)
  (heq:∀x∈xs,∀Q:Bool->P1->Prop,Q false s->wpAny (model prog w) A (eqBool (.ref x.2.1) .none) Q E s) (hQ:Q none s):wpAny (model prog w) A (dictFind d .none h) Q E s:=by
 have hmem:∀e∈es,∃x∈xs,e=entryOfKey knd x:=by
  intro e hin;have:e∈xs.map (entryOfKey knd):=he ▸ Array.mem_toList_iff.mpr hin;obtain⟨x,hx,rfl⟩:=Y9.mp this;exact⟨x,hx,rfl⟩
 have hst:∀v∈(placesWithHash es.size (fun i=>es[i]?.map (·.hash)) h).filterMap (fun i=>es[i]?.map (·.key)),∃k' b,v = .ref b/\knd.is s.heap k' b:=by
  intro v hv;obtain⟨i,_,hi⟩:=QO.mp hv;cases hei:es[i]? with
  | none=>rw[hei] at hi; cases hi
  | some e =>
   rw[hei] at hi;obtain rfl:e.key=v:=by simpa using hi
   obtain⟨x,hx,rfl⟩:=hmem e (VQ hei);exact⟨x.1,x.2.1,rfl,his x hx⟩
 unfold dictFind
 try with_reducible refine YM ?_
 refine Ya (Vu ho hd ?_);dsimp only;by_cases c:((Value.none :: (placesWithHash es.size (fun i=>es[i]?.map (·.hash)) h).filterMap (fun i=>es[i]?.map (·.key))).all carriedByValue)=true
 ·rw[Yg c];unfold dictWalkPlain;refine Ya ?_;refine QI _ (fun rest r s'=>s'=s/\r=(none,())) _ ?_ ?_ _ _ ⟨rfl,rfl⟩
  ·rintro x rest r s' ⟨rfl,rfl⟩;cases hei:es[x]? with
   | none =>
    dsimp only;exact Yb ⟨rfl,rfl⟩
   | some e =>
    obtain⟨y,hy,rfl⟩:=hmem e (VQ hei);dsimp only;split
    ·refine Ya (Qs ho hd (Ya (heq y hy _ (Ya (Qs ho hd ?_)))));rw[Yh (by simp)];simp only[YQ,Wz]
     first
      | exact Ya (Wg (Yb ⟨rfl,rfl⟩))
      | exact Ya (Yb (Ya (Wg (Yb ⟨rfl,rfl⟩))))
    ·exact Yb ⟨rfl,rfl⟩
  ·rintro r s' ⟨rfl,rfl⟩
   first
    | exact Yb (Yb hQ)
    | exact Yb hQ
 ·rw[Yh c];by_cases hone:(((placesWithHash es.size (fun i=>es[i]?.map (·.hash)) h).filterMap (fun i=>es[i]?.map (·.key))) == [Value.none])=true <;>
  (first | rw[Yg hone] | rw[Yh hone]) <;> (first | refine Ya (Yb ?_) | refine Ya (Zmm (knd:=knd) hst ?_)) <;> (
   rw[Yh (by simp)];refine Ya ?_;refine QI _ (fun rest r s'=>s'=s/\r=(none,none)) _ ?_ ?_ _ _ ⟨rfl,rfl⟩
   ·rintro x rest r s' ⟨rfl,rfl⟩;cases hei:es[x]? with
    | none =>
     dsimp only;exact Yb ⟨rfl,rfl⟩
    | some e =>
     obtain⟨y,hy,rfl⟩:=hmem e (VQ hei);dsimp only;split
     ·refine Ya (Qs ho hd (Ya (heq y hy _ (Ya (Qs ho hd ?_)))));rw[Yh (by simp)];simp only[YQ,Wz]
      first
       | exact Ya (Wg (Yb ⟨rfl,rfl⟩))
       | exact Ya (Yb (Ya (Wg (Yb ⟨rfl,rfl⟩))))
       | (refine Ya (Wg ?_); rw[Yh (by simp)]; exact Yb ⟨rfl,rfl⟩)
     ·exact Yb ⟨rfl,rfl⟩
   ·rintro r s' ⟨rfl,rfl⟩;exact Yb hQ)
theorem ZrK{Q:Int->P1->Prop}(h:∀n tk,Q n { s with toks:=tk }):wpAny (model prog w) A (pyHash .none) Q E s :=
 show wpAny (model prog w) A (pyHashByItsType .none) Q E s from
 PySem.W.pyHash_slot (T:="NoneType") rfl F.slot_NoneType_hash F.entry_NoneType_hash (F.args_NoneType_hash_1 _) (beq_builtin_none _) (.inl rfl) (Ya (Yb (Ya (wpAny_mkInt (Yb ⟨_,_,rfl,h _ _⟩)))))
theorem ZnX{d:Addr}{xs:List (K×Addr×P7)}{Q:P7->P1->Prop}(hd:(d == sysModules)=false)(hm:s.heap.DictOfH knd d xs)
  (heq:∀tk,∀x∈xs,∀(E:P7->P1->Prop) (Q:Bool->P1->Prop),Q false { s with toks:=tk }->wpAny (model prog w) A.in1 (eqBool (.ref x.2.1) .none) Q E { s with toks:=tk }) (h:∀tk,Q (.bool true) { s with toks:=tk }) :
  wpAny (model prog w) A (compareOp .NotIn .none (.ref d)) Q E s:=by
 show wpAny _ _ (do return .bool (!(<-contains (.ref d) .none))) Q E s;refine Ya ?_;unfold contains
 try with_reducible refine YM ?_
 refine Ya (V0 hm.typeIs slot_dict_contains.lookup ?_);show wpAny _ _ (if (some (Value.builtin "dict.__contains__") == some Value.none)=true then _ else _) _ E s;rw[Yh (by rw[beq_builtin_none]; exact QN)];refine Ya (wpAny_callSpecialUnlessNone?_slot (name:=Str.ofString "__contains__") hm.typeIs slot_dict_contains
  (YU slot_dict_contains hm.typeIs entry_dict_contains ?_ (args_dict_contains _ _)))
 show wpAny _ _ (dictGet d .none >>= _) _ _ s;refine Ya ?_;unfold dictGet
 try with_reducible refine YM ?_
 refine Ya (ZrK fun n tk => ?_);obtain⟨o,es,ep,ho,hc,hdd,he,his,hn⟩:=hm;refine Ya (ZnH (s:={ s with toks:=tk }) (knd:=knd) ho hdd he his (fun x hx Q hq=>heq tk x hx _ Q hq) ?_);refine Yb ?_;show wpAny _ _ (Builtin.Dict.pendingKey? d .none >>= _) _ _ _;exact Ya (wpAny_pendingKey_other hd (Yb ⟨_,rfl,Qw (Yb (h tk))⟩))
end
end PySem
namespace DL
open PySem PySem.Spec PyProof.Rows L2
def Zbr:D->D->Sto->Out D
 | .non,.res i,st=>match st[i]? with
  | some (.dtt _) => .ok (.bl true) st
  | _ => .bad
 | k,d,st=>Zch k d st
theorem Zh7{st:Sto}{K:P3}{O:List Addr}{H:Hp}:∀{ds:List (D×D)} {vs:List (List Key×V)},Kvs K ZM O H ds vs->inN st depth .non (ds.map (·.1))=some false
 | [],_,_=>rfl
 | (k,d) :: ds,vs,h=>by
  obtain⟨q,v,r,rfl,hk,_,ht⟩:=(show ∃q v r,vs=(q,v) :: r/\ZM k=some q/\Rep K O H d v/\Kvs K ZM O H ds r from h);rw[YF];unfold inN;rw[Zh7 ht];cases k with
  | tup xs=>rfl
  | _=>cases hk
section
variable{X:Cx}{EX:EXT}
theorem ZkI(hu:X.A.units+64<cLine):OpD X EX (compareOp .NotIn) Zbr:=by
 intro pins s σ H x y v u Q I rx ry h;obtain⟨O,k,d,st,W,rk,rd,R⟩:=h;unfold Zbr at R;split at R
 ·rename_i i;split at R
  ·rename_i ds hs;rw[Rep.non_i] at rk;subst rk;rw[Rep.res_i] at rd;obtain⟨a,rfl,q⟩:=rd;cases (show v=Value.none from rx);cases (show u=Value.ref a from ry);obtain⟨vs,e2,kv⟩:=W.at_ _ _ _ q hs;obtain⟨z,hd,xs,kt,dd⟩:=ZbM I.hok (.inl e2);have refs:∀(l:List (List Key×Addr×P7)),Vals (l.map fun x=>V.ref x.2.1) (l.map fun x=>Value.ref x.2.1):=by
    intro l
    induction l with
    | nil=>exact .nil
    | cons x l ih=>exact .cons rfl ih
   refine ZnX hd dd (fun tk x hx E Q hq => ?_) fun tk=>⟨.bl true,H,I.tok tk,rfl,Run.now (k:=Val X.K Q) R W _ (Rep.bl_i.mpr rfl)⟩;obtain⟨e,_,h1,h2⟩:=Zc7 (I.tok tk) W (x:=.non) (vx:=.non) (ux:=Value.none) (Rep.non_i.mpr rfl) rfl (ZdP hu) (Zh7 kv) (Zf2 kv kt) (refs xs);have hm:Value.ref x.2.1∈xs.map fun x=>Value.ref x.2.1:=Y9.mpr ⟨x,hx,rfl⟩;have h3:=h1 _ hm;have h4:e (Value.ref x.2.1)=false:=by
    cases h5:e (Value.ref x.2.1) with
    | false=>rfl
    | true =>
     have:(xs.map fun x=>Value.ref x.2.1).any e=true:=QF.mpr ⟨_,hm,h5⟩;rw[h2] at this;cases this
   rw[h4] at h3;exact h3 _ _ E Q hq
  ·exact R.elim
 ·exact Zk7 hu pins s σ H x y v u Q I rx ry ⟨O,k,d,st,W,rk,rd,R⟩
end
end DL
end
section
namespace HT
open PySem PyProof.Rows PyProof.Rows.LSm
theorem ZnN(bs:List Bool):((List.range bs.length).any fun i=>(bs[i]?).getD true)=bs.any id:=by
 rw[Bool.eq_iff_iff,QF,QF];constructor
 ·rintro⟨i,hi,h⟩;have hi':=WD.mp hi;rw[Yj hi',Option.getD_some] at h;exact⟨bs[i],QH hi',h⟩
 ·rintro⟨b,hb,h⟩;obtain⟨i,hi,rfl⟩:=Qa.mp hb;refine⟨i,WD.mpr hi,?_⟩;rw[Yj hi,Option.getD_some];exact h
section
variable{prog:P5}{w:World}{A:P4}{E:P7->P1->Prop}{s:P1}{l:Addr}{vs:List P7}
theorem any_kept{bs:List Bool}{Q:P7->P1->Prop}(hh:A.handled=none)(hl:s.heap.IsList l vs.toArray)(hb:BoolsAre vs bs)
  (h:∀h' tk,(∀b x,s.heap.get? b=some x->h'.get? b=some x)->Q (.bool (bs.any id)) { s with heap:=h',toks:=tk }):wpAny (model prog w) A (call (.builtin "any") [.ref l]) Q E s:=by
 have hlt:l<s.heap.objs.size:=by obtain⟨_,e,_⟩:=hl; exact Ym e
 refine call_any_walk (Vs hl ?_);refine⟨s.heap.objs.size,[s.heap.objs.size,l],[s.heap.objs.size],vs.toArray.size,_,_,fun i=>(bs[i]?).getD true,rfl,Walks.list (A:=A.in1) hh _ l (Yx hlt) vs.toArray,⟨⟨_,Yq _ rfl,rfl,rfl⟩,hl.push _⟩,fun i v s' Q' E' hP hQ => ?_,fun h' tk hk => ?_⟩
 ·obtain⟨b,e,rfl⟩:=hb.get i v (by simpa using hP);simp only[e,Option.getD_some] at hQ;exact Qw hQ
 ·have e:((List.range vs.toArray.size).any fun i=>(bs[i]?).getD true)=bs.any id:=by
   rw[Yu,hb.length];exact ZnN bs
  rw[e];exact h h' tk (kept_iter hk)
end
end HT
namespace DL
open PySem PySem.Spec PyProof.Rows L2
def Zes:List D->Sto->Out D
 | [.lst ds],st=>match Zbz ds with
  | some bs => .ok (.bl (bs.any id)) st
  | none => .bad
 | _,_ => .bad
section
variable{X:Cx}{EX:EXT}
theorem ZmT(hc:X.calm=true):Zdp X EX (.builtin "any") Zes:=by
 intro pins s σ H xs us Q I rx h;obtain⟨O,ds,st,W,r,R⟩:=h;unfold Zes at R;split at R
 ·rename_i zs;obtain⟨v,rfl,rv⟩:=r.one_of;cases e:Zbz zs with
  | none=>rw[e] at R; exact R.elim
  | some bs =>
   rw[e] at R;rw[Rep.lst_i] at rv;obtain⟨a,vs,rfl,_,z,rs⟩:=rv;obtain⟨u,rfl,ru⟩:=vals1 rx;cases ru;obtain⟨its,q,pl,_⟩:=I.list (Or.inl (Or.inl z));exact HT.any_kept (I.ok.hd hc) pl.isList (ZqR e rs q) fun h' tk k=>⟨.bl _,H,I.kept k,rfl,Run.now (k:=Val X.K Q) R W _ (Rep.bl_i.mpr rfl)⟩
 ·exact R.elim
end
end DL
end
section
namespace HT
open PySem PyProof.Rows
theorem draws_tuple{prog:P5}{w:World}{A:P4}(hh:A.handled=none)(it l:Addr)(hne:l≠it)(items:Array P7) :
  Draws prog w A it [it,l] items.size (fun i v=>items[i]?=some v) (fun i h=>h.IsTupleIter it l i/\h.IsTuple l items) where
 live:=fun _ _ st=>let ⟨o,ho,_⟩:=st.1; ⟨o,ho⟩
 frame:=fun _ _ _ st hk=>⟨st.1.at fun o e=>hk it (by simp) o e,st.2.at fun o e=>hk l (by simp) o e⟩
 item:=fun i s Q E hi st hQ=>by
  refine Zrg st.1 st.2 (x:=items[i]) (by simp[hi]) fun h' hit' hs' => ?_;exact hQ _ h' s.toks (by simp[hi]) ⟨hit',st.2.extBut hs'.extBut hne⟩ hs'
 done:=fun s Q E st hE=>ZhW hh st.1 st.2 (by simp) hE
theorem draws_end{prog:P5}{w:World}{A:P4}(hh:A.handled=none)(it l:Addr)(i:Nat)(items:Array P7)(hx:items[i]?=none) :
  Draws prog w A it [it,l] i (fun _ _=>False) (fun j h=>j=i/\h.IsTupleIter it l i/\h.IsTuple l items) where
 live:=fun _ _ st=>let ⟨o,ho,_⟩:=st.2.1; ⟨o,ho⟩
 frame:=fun _ _ _ st hk=>⟨st.1,st.2.1.at fun o e=>hk it (by simp) o e,st.2.2.at fun o e=>hk l (by simp) o e⟩
 item:=fun j s Q E hi st hQ=>absurd st.1 (Yx hi)
 done:=fun s Q E st hE=>ZhW hh st.2.1 st.2.2 hx hE
theorem Zmc(l:Addr)(items:Array P7) :
  Meets (Builtin.«enumerate.__new__» ⟨[.type "enumerate",.ref l],[]⟩) (fun _ R s=>s.heap.IsTuple l items /\
   R (.ok (.ret (.ref (s.heap.push { cls:=.type "tuple_iterator",data:=.fields #[.ref l,.int 0 0] }).objs.size)))
    { s with heap:=(s.heap.push { cls:=.type "tuple_iterator",data:=.fields #[.ref l,.int 0 0] }).push { cls:=.type "enumerate",data:=.fields #[.none,.bool false,.ref s.heap.objs.size,rawInt 0,.none,.none] } }) :=
 .of_wp fun prog w A R s h=>by
  obtain⟨hp,g,d,tk,os⟩:=s; obtain⟨hl,h⟩:=h;have hsub:=sub_enumerate;have hL:Heap.IsTuple (Shared.heap ⟨hp,g,d,tk,os⟩) l items:=hl
  wp_walk
  refine wpAny_stack_any fun st=>Yb ?_;split
  ·rename_i c _ _ _ _ _;cases (c == Value.type "enumerate")
   ·wp_walk using Vd hL
    exact⟨_,rfl,h⟩
   ·wp_walk using Vd hL
    exact⟨_,rfl,h⟩
  ·wp_walk using Vd hL
   exact⟨_,rfl,h⟩
section
variable{prog:P5}{w:World}{A:P4}{E:P7->P1->Prop}{s:P1}
theorem call_enumerate_tuple{l:Addr}{items:Array P7}{Q:P7->P1->Prop}(hL:s.heap.IsTuple l items)
  (h:∀h',IsEnum h' (s.heap.objs.size+1) s.heap.objs.size 0 .none->h'.IsTupleIter s.heap.objs.size l 0->h'.objs.size=s.heap.objs.size+2 ->
   (∀b o,s.heap.get? b=some o->h'.get? b=some o)->Q (.ref (s.heap.objs.size+1)) { s with heap:=h' }) :
  wpAny (model prog w) A (call (.type "enumerate") [.ref l]) Q E s:=by
 refine callType_new F.called_enumerate (by decide) (F.typeCall_enumerate_1 _) (F.newCall_enumerate_1 _) (fun obj=>F.args_object_init_2 obj _) F.entry_enumerate_new
  (Zmc l items) ⟨hL,?_⟩
 have hz:(s.heap.push { cls:=.type "tuple_iterator",data:=.fields #[.ref l,.int 0 0] }).objs.size=s.heap.objs.size+1:=WM ..;show _/\_;rw[hz];have he:IsEnum ((s.heap.push { cls:=.type "tuple_iterator",data:=.fields #[.ref l,.int 0 0] }).push
   { cls:=.type "enumerate",data:=.fields #[.none,.bool false,.ref s.heap.objs.size,rawInt 0,.none,.none] }) (s.heap.objs.size+1) s.heap.objs.size 0 .none:=by
  have:=Yq (s.heap.push { cls:=.type "tuple_iterator",data:=.fields #[.ref l,.int 0 0] })
   (o:={ cls:=.type "enumerate",data:=.fields #[.none,.bool false,.ref s.heap.objs.size,rawInt 0,.none,.none] }) rfl
  rw[hz] at this; exact this
 refine⟨⟨_,he,rfl⟩,h _ he ⟨_,Ye _ (Yq _ rfl),rfl,rfl⟩ (by rw[WM,hz]) fun b o x=>Ye _ (Ye _ x)⟩
end
end HT
namespace DL
open PySem PySem.Spec PyProof.Rows L2
def ItT(K:P3)(a:Addr):It :=
  ⟨fun i H => ∃xs x,SqT K H a xs/\xs[i]?=some x,
   fun i H v H' => ∃p x,H p=none/\v = .ref p/\H'=upd H p (.tup [.int (i:Int),x])/\∀xs,SqT K H a xs->xs[i]?=some x,
   fun i H => ∃xs,SqT K H a xs/\xs.length<=i⟩
theorem Zly{P:P5}{w:World}{K:P3}{es:List Expr}{k:Nat}{pt:Pos}(a e it:Addr)(hei:e≠it) :
  Turn P w K (.Tuple es k pt) (ItT K a) [e,it] e (fun i h=>(∃old,IsEnum h e it ((i:Nat):Int) old)/\h.IsTupleIter it a i) where
 mem:=by simp
 obj:=fun i h st c hc=>by
  obtain⟨⟨old,h1⟩,o4,h4,_,d4⟩:=st;simp only[Yn,YS,WL] at hc;rcases hc with rfl | rfl
  ·exact⟨_,h1,fun v z=>by cases z⟩
  ·exact⟨_,h4,fun v z=>by rw[d4] at z; cases z⟩
 keep:=fun i h h' st k=>by
  obtain⟨⟨old,h1⟩,h4⟩:=st;exact⟨⟨old,k e (by simp) _ h1⟩,h4.at fun o q=>k it (by simp) o q⟩
 item:=by
  intro X hP hw hK hc i pins s σ H E I hf st hg;subst hP hw hK;obtain⟨xs,vx,q1,g1⟩:=hg;obtain⟨its1,r1,p1,_⟩:=I.tuple q1;obtain⟨ux,e1,rx⟩:=r1.get g1;obtain⟨⟨old,hz⟩,h4⟩:=st;have fz:=hf e (by simp);have f1:=hf it (by simp);have heH:e<s.heap.objs.size:=Ym hz;have hiH:it<s.heap.objs.size:=by obtain⟨o,ho,_⟩:=id h4; exact Ym ho
  have hai:a≠it:=ZjZ I q1 f1;have hae:a≠e:=ZjZ I q1 fz;have hlt:i<its1.toArray.size:=by
   have:=(Yc.mp e1).1;simpa using this
  refine wpAny_pyNext_enum_itemD (HT.draws_tuple (A:=X.A.in1) (show X.A.in1.handled=none from I.ok.hd hc) it a hai its1.toArray) hz ⟨h4,p1⟩ hlt hei (by simp[hei,Y7 hae]) fun x9 h' tk hx9 z1 z2 z3 z4 z5 => ?_;obtain rfl:ux=x9:=by
   have h9:its1[i]?=some x9:=by simpa using hx9
   rw[e1] at h9;exact Option.some.inj h9
  replace z2:=z2.1;refine⟨_,rfl,wpAny_letOwnedTupleGo_enum z1 fun h'' y1 y2 => ?_⟩;replace y2:Heap.SameBut e h' h'':=y2;have up:∀c o,c≠e->h'.get? c=some o->h''.get? c=some o:=fun c o hce ho=>(y2.2 c hce).trans ho;have z7:∀c o,c≠e->c≠it->s.heap.get? c=some o->h''.get? c=some o:=fun c o c1 c2 ho=>up c o c1 (z5 c o c1 c2 ho);have hfr:=I.hok.fresh (Yi s.heap.objs.size);have hT:h''.get? s.heap.objs.size=some { cls:=.type "tuple",data:=.seq #[.int (i:Int) tk,ux] }:=up _ _ (QD heH) z3;refine⟨.ref s.heap.objs.size,upd H s.heap.objs.size (.tup [.int (i:Int),vx]),?_,rfl,⟨s.heap.objs.size,vx,hfr,rfl,rfl,fun zs hq=>by rw[I.tuple_inj hq q1]; exact g1⟩,⟨⟨ux,?_⟩,(z2.at fun o q=>up _ o (Y7 hei) q)⟩,fun c hc => ?_⟩
  ·show Inv X pins σ _ { s with heap:=h'',toks:=tk+1 };refine I.step (ch:=[e,it]) (g':=s.gens) (t':=tk+1) (d':=s.drawn) ?_ ?_ ?_ ?_ ?_ ?_ ?_ ?_ ?_ ?_ I.bare
   ·intro c hc;obtain⟨k0,k1,k2,k3,k4,k5⟩:=hf c hc;exact⟨k3,k1,k4,k5⟩
   ·intro c o k1 k2 k3 k4 k5;simp only[Yn,YS,WL,Uy] at k3;exact z7 c o k3.1 k3.2 k4
   ·intro c o k1 k2 k3 k4 k5;simp only[Yn,YS,WL,Uy] at k3;exact⟨o.slots,z7 c o k3.1 k3.2 k4⟩
   ·intro c o k3 k4 k5;rw[Zp (Yx (Ym k4))];exact k5
   ·intro c o k3 k4;simp only[Yn,YS,WL,Uy] at k3;exact⟨o,z7 c o k3.1 k3.2 k4⟩
   ·intro c ws k;rw[Zp (Z5 k hfr)]; exact k
   ·intro c ob ws k;rw[Zp (Z5 k hfr)]; exact k
   ·intro c ps k;exact⟨#[],by rw[Zp (Z5 k hfr),k]; simp⟩
   ·intro m hm;exact hm.at' fun o q=>z7 _ o (Y7 fz.2.1) (Y7 f1.2.1) q
   ·intro c o q;by_cases hcc:c=s.heap.objs.size
    ·subst hcc;rw[Zai] at q;cases q;exact⟨(by show 2<=sizeLine; rw[Wd]; decide),[.int (i:Int) tk,ux],.cons ⟨_,rfl⟩ (.cons rx .nil),⟨_,hT,rfl,_,rfl⟩,fun o2 e2=>by have e3:=e2.symm.trans hT; cases e3; rfl⟩
    ·rw[Zp hcc] at q;refine (I.hok c o q).stay (fun d u hd k => ?_) (fun d k=>by rw[Zp (Z5 k hfr)]; exact k) fun d ws k=>by rw[Zp (Z5 k hfr)]; exact k
     have hHd:∃o',H d=some o':=by
      rcases hd with rfl | hd
      ·exact⟨o,q⟩
      ·exact⟨_,hd⟩
     obtain⟨o',ho'⟩:=hHd;exact z7 d u (Z5 ho' fz.1) (Z5 ho' f1.1) k
  ·have ez:(((i+1:Nat):Int))=(i:Int)+1:=by omega
   show IsEnum h'' e it (((i+1:Nat):Int)) ux;rw[ez];exact y1
  ·have hcn:=(hf c hc).1;have hlt:c<s.heap.objs.size:=by
    simp only[Yn,YS,WL] at hc;rcases hc with rfl | rfl
    ·exact heH
    ·exact hiH
   rw[Zp (Yx hlt)];exact hcn
 done:=by
  intro X hP hw hK hc i pins s σ H E I hf st hg;subst hP hw hK;obtain⟨xs,q1,g⟩:=hg;obtain⟨its1,r1,p1,_⟩:=I.tuple q1;obtain⟨⟨old,hz⟩,h4⟩:=st;obtain⟨f0,f1,f2,f3,f4,f5⟩:=hf it (by simp);have hl:=r1.length;exact wpAny_pyNext_enum_endD (HT.draws_end (A:=X.A.in1) (show X.A.in1.handled=none from I.ok.hd hc) it a i its1.toArray (by simp; omega)) hz ⟨rfl,h4,p1⟩ fun h' eb=>⟨rfl,I.turned (t':=s.toks) (fun b o hb q=>eb b o hb q) f0 f1 f3 f4 f5⟩
 self:=fun _ _ _ _ _ st h=>by
  obtain⟨⟨old,hz⟩,_⟩:=st;exact wpAny_pyIter_enum hz h
section
variable{X:Cx}{EX:EXT}{es:List Expr}{k:Nat}{pt p pos:Pos}{a:Expr}{f:DE}
def Zn5(K:P3)(tl:TA):TI:=fun σ H R=>tl σ H fun vs H1 => ∃a,vs=[.ref a]/\(∃xs,SqT K H1 a xs)/\R (ItT K a) H1
theorem Zsl{ta:TA}(hg:Gl X "enumerate")(hm:X.mg "enumerate" = none)(ha:PA X [a] ta)(hs:starEach [a] X.env=[(false,eval a X.env)]:=by rfl):PI X (.Tuple es k pt) (.Call (.Name "enumerate" p) [a] [] pos) (Zn5 X.K ta):=by
 intro pins s σ H R I h;refine Call_ (Zbi I hg hm PyProof.Rows.boot_enumerate (Ww (thn (ha pos pins s σ H _ I h) fun us s1 ⟨vs,H1,I1,r1,q1⟩ => ?_) (by rw[hs]; rfl) rfl));obtain⟨pa,e,⟨xs,h1⟩,q⟩:=q1;subst e;cases r1 with
 | cons r rr =>
  cases rr;cases r;obtain⟨its1,v1,p1,_⟩:=I1.tuple h1;refine HT.call_enumerate_tuple p1 fun h' z1 z2 z3 z4 => ?_;have I2:Inv X pins σ H1 { s1 with heap:=h' }:=I1.kept (t':=s1.toks) z4;have T:=Zly (P:=X.prog) (w:=X.w) (K:=X.K) (es:=es) (k:=k) (pt:=pt) pa (s1.heap.objs.size+1) s1.heap.objs.size (QD (Qg _));have st:(∃old,IsEnum h' (s1.heap.objs.size+1) s1.heap.objs.size ((0:Nat):Int) old)/\h'.IsTupleIter s1.heap.objs.size pa 0:=⟨⟨_,z1⟩,z2⟩;refine T.self _ 0 _ _ _ st ?_;refine⟨_,_,_,_,H1,rfl,I2,T,st,fun c hc => ?_,q⟩;have hle:s1.heap.objs.size<=c:=by
   simp only[Yn,YS,WL] at hc;rcases hc with rfl | rfl
   ·exact QT _
   ·exact Yi _
  exact I1.fpOk hle (I1.hok.fresh hle)
def Zf1(f:DE):DI:=fun ρ st=>(f ρ st).bind fun d st1=>match d with
 | .tup xs => .ok (ZaO 0 xs,fun _=>True) st1
 | _ => .bad
theorem ZoW(hg:Gl X "enumerate")(hm:X.mg "enumerate" = none)(ha:PD X EX a f)(hs:starEach [a] X.env=[(false,eval a X.env)]:=by rfl):PID X EX (.Tuple es k pt) (.Call (.Name "enumerate" p) [a] [] pos) (Zf1 f):=by
 refine PI.mono (Zsl hg hm (Zd ha Zh (by rw[hs]; rfl)) hs) ?_;rintro σ H R ⟨O,ρ,st,W,E,R0⟩;have R1:=R0.bind;refine⟨O,ρ,st,W,E,?_⟩;unfold Zc Ze;cases hf:f ρ st with
 | bad=>rw[hf] at R1; exact R1.elim
 | exc c st'=>rw[hf] at R1; exact R1
 | ok d st' =>
  rw[hf] at R1;refine fun O1 H1 k1 W1 vs r => ?_;have R2:=R1 O1 H1 k1 W1;dsimp only at R2;obtain⟨v,rfl,rv⟩:=r.one_of;split at R2
  ·rename_i xs;rw[Rep.tup_i] at rv;obtain⟨pa,va,rfl,qa,ra⟩:=rv;refine⟨pa,rfl,⟨va,SqT.of qa⟩,Run.now (k:=fun q _ O' H' => ∀J,ItD X.K J O' H' q->R J H') R2 W1 _ ?_⟩;intro i O' H' st2 kp W' hp;have q':SqT X.K H' pa va:=SqT.of (kp.tup _ _ qa);have r':=Reps.mono kp _ _ ra;refine⟨fun x hx => ?_,fun hl=>⟨va,q',by rw[<-r'.length]; rw[Zjb] at hl; exact hl⟩⟩;dsimp only at hx;rw[Zjm] at hx;cases hz:xs[i]? with
   | none=>rw[hz] at hx; cases hx
   | some y =>
    rw[hz] at hx;simp only[Qq,YE,Wv] at hx;subst hx;obtain⟨vy,e2,ry⟩:=r'.get hz;refine⟨⟨va,vy,q',e2⟩,?_⟩;rintro v2 H2 ⟨p2,x',hp2,rfl,rfl,h3⟩;have e3:=h3 va q';rw[e2] at e3;cases e3;exact⟨Keep.laid hp2,W'.laid hp2,Rep.tup_i.mpr ⟨p2,_,rfl,Zai,Reps.cons_i.mpr ⟨_,_,rfl,Rep.int_i.mpr rfl,Reps.one (Rep.mono (Keep.laid hp2) _ _ ry)⟩⟩⟩
  ·exact R2.elim
end
end DL
end
section
namespace DL
open PySem PySem.Spec PyProof.Rows L2 PySem.W SO
section
variable{prog:P5}{w:World}{A:P4}{E:P7->P1->Prop}{s:P1}{a:Addr}
theorem ZrM{vs:List P7}{ss:List Str}(hn:ss.Nodup)(h:StrsAre vs ss):CmpR prog w s a vs oneType' (fun i j=>Z3 (ss.getD i default) (ss.getD j default)):=by
 refine⟨fun h2 g A E Q hg hQ => ?_,fun h2 g A E Q i j hu hg hi hj hQ => ?_,fun i j hi hj e => ?_⟩
 ·match vs,h,h2 with
  | [],_,h2=>simp at h2
  | [_],_,h2=>simp at h2
  | v1 :: v2 :: vs,h,_ =>
   rw[keyKind_strs h];exact Yb hQ
 ·have hl:=h.length;obtain⟨t,h1⟩:=h.at (j:=i) (y:=ss.getD i default) (by rw[Yk,Yj (by omega)]; rfl);obtain⟨u,h3⟩:=h.at (j:=j) (y:=ss.getD j default) (by rw[Yk,Yj (by omega)]; rfl);rw[Yk (l:=vs),Yk (l:=vs),h1,h3,keyLt'_oneType];exact oneLt_str hQ
 ·have hl:=h.length;obtain⟨t,h1⟩:=h.at (j:=i) (y:=ss.getD i default) (by rw[Yk,Yj (by omega)]; rfl);obtain⟨u,h3⟩:=h.at (j:=j) (y:=ss.getD j default) (by rw[Yk,Yj (by omega)]; rfl);rw[Yk (l:=vs),Yk (l:=vs),h1,h3] at e;injection e with e _;rw[Yk,Yk,Yj (by omega),Yj (by omega)] at e;exact (QC hn).mp e
theorem Zop{xs:List Str}{R:List P7->P1->Prop}(hh:A.handled=none)(hS:SetT prog w s.heap a xs)
  (h:∀(h':Heap) (tk:Nat) (d:Drawn) (vs:List P7) (ys:List Str),(∀b o,s.heap.get? b=some o->h'.get? b=some o)->StrsAre vs ys->ys.Perm xs->R vs { s with heap:=h',toks:=tk,drawn:=d }) :
  wpAny (model prog w) A (collect (.ref a)) R E s:=by
 obtain⟨o,es,ep,t,ho,hx,hd,hT,hel,hs,hn,hb⟩:=id hS;have hI:TabI w t es.size:=⟨hT.fits,hT.led,fun hp=>by
  have h0:=hT.plain hp;have hpl:t.place.size=es.size:=by
   have:=hT.fits;unfold SetTable.fits at this;rw[Y2] at this;exact eq_of_beq this.1
  have:t.place.toList=[]:=Wm.mp (by rw[Yo]; omega);unfold Rs;rw[this];exact .nil⟩
 refine Zi1 hh ho hx hd hI hb fun h' tk d vs k hp => ?_;obtain⟨ys,hys,hp'⟩:=ZfX hp.symm hs;exact h h' tk d vs ys k hys hp'.symm
theorem ZqO{xs:List Str}{Q:P7->P1->Prop}(hu:A.units+2<cLine)(hh:A.handled=none)(hS:SetT prog w s.heap a xs)(h64:xs.length<64)
  (k:∀vs ys,StrsAre vs ys->ys.Perm xs->∀p:List Nat,p.Perm (List.range ys.length)->p.Pairwise (fun i j=>Z3 (ys.getD i default) (ys.getD j default)=true)->∀(h1:Heap) b (h':Heap) tk d c,(∀b o,s.heap.get? b=some o->h1.get? b=some o)->h1.objs.size<=b->(∀b o,h1.get? b=some o->h'.get? b=some o) ->
   h'.get? b=some (seqObj "list" (p.map fun i=>vs.getD i .none).toArray c)->Q (.ref b) { s with heap:=h',toks:=tk,drawn:=d }) :
  wpAny (model prog w) A (call (.builtin "sorted") [.ref a]) Q E s:=by
 refine Vc kind_sorted plain_sorted entry_sorted (args_sorted1 _) ?_;unfold Builtin.«sorted»;refine Ya (m:=checkCount "sorted" 1 1 _) (Yb ?_);refine Ya (Zop (by simp[hh]) hS fun h1 tk d vs ys k1 hys hp => ?_);have hl:vs.length=ys.length:=hys.length;have hl2:ys.length=xs.length:=hp.length_eq;refine Ya (Ui ?_ (by rw[Wd]; omega));have hoL:(h1.push (seqObj "list" vs.toArray 0)).get? h1.objs.size=some (seqObj "list" vs.toArray 0):=Yq _ rfl;have keep:∀b o,h1.get? b=some o->(h1.push (seqObj "list" vs.toArray 0)).get? b=some o:=fun b o q=>Ye _ q;show wpAny _ _ _ _ _ { s with heap:=h1.push (seqObj "list" vs.toArray 0),toks:=tk,drawn:=d };generalize h1.push (seqObj "list" vs.toArray 0)=g at hoL keep;refine Ya (YM (YU slot_list_sort ⟨_,hoL,rfl⟩ entry_list_sort ?body (args_list_sort _)))
 case body =>
  refine ZfR (s:={ s with heap:=g,toks:=tk,drawn:=d }) (κ:=oneType') (lt:=fun i j=>Z3 (ys.getD i default) (ys.getD j default)) (by show _<_; omega) hoL (by omega) (ZrM (hp.nodup_iff.mpr hS.len.2.1) hys) (by rw[hl]; exact Zp3 (hp.nodup_iff.mpr hS.len.2.1)) fun p hp' hpw h' c hb hc => ?_;refine⟨_,rfl,Yb ⟨_,rfl,?_⟩⟩;rw[hl] at hp';exact k vs ys hys hp p hp' hpw h1 _ h' tk d c k1 (Yi _) (fun b o e=>hb b o (Yx (Ym e)) (keep b o e)) hc
end
section
variable{X:Cx}{EX:EXT}
theorem Zo5{e:Expr}{x y:Str}{p q pos pos2:Pos}{f:DA}(hcalm:X.calm=true)(hu:X.A.units+64<cLine)(hg:Gl X x)(hm:X.mg x=none)(hv:bootBuiltins x=some (.builtin "sorted"))(hg2:Gl X y)(hm2:X.mg y=none)(hv2:bootBuiltins y=some (.type "set"))(ha:PDA X EX [e] f)
  (hn:x≠"__name__":=by decide) (hdb:(x == ("__debug__" : Str))=false:=by decide) (hn2:y≠"__name__":=by decide) (hdb2:(y == ("__debug__" : Str))=false:=by decide)
  (he:starEach [e] X.env=(false,eval e X.env) :: starEach [] X.env:=by rfl):PDF X EX (.Call (.Name x p) [.Call (.Name y q) [e] [] pos2] [] pos) (Zj ZdZ f):=by
 intro pins s σ H Q I h;have h':=Zej _ _ _ h;refine Wp (Zbi I hg hm hv ?_ hn hdb);refine W8 ?_ rfl rfl;show wpAny _ _ (spliced ((false,eval (.Call (.Name y q) [e] [] pos2) X.env) :: backTo pos (starEach [] X.env))) _ _ s;refine QP ?_;refine Wp (Zbi I hg2 hm2 hv2 ?_ hn2 hdb2);refine Ww (thn (ha pos2 pins s σ H _ I h') fun us s1 ⟨vs,H1,I1,r1,q1⟩ => ?_) he rfl;obtain⟨O,ds,st,W,r,R⟩:=q1;unfold ZdZ at R;split at R
 ·rename_i d;obtain⟨v,rfl,rv⟩:=r.one_of;split at R
  ·rename_i zs ez;split at R
   ·rename_i ss hss;by_cases hc:ss.length<64
    ·rw[Yg hc] at R;obtain⟨pl,vs,rfl,qq,rs⟩:=rdL W rv ez;have hzs:=ZfT hss;subst hzs;cases r1 with
     | cons r0 rt =>
      cases rt;cases r0;obtain⟨its,rv',pl',hz⟩:=I1.list qq;have hl1:=rv'.length;have hl2:=rs.length;rw[Yr] at hl2;have sAll:StrsAre its ss:=by
       refine ZgY (by omega) fun i v x h1 h2 => ?_;obtain⟨y,h3,h4⟩:=rs.get (i:=i) (d:=D.str x) (by rw[YO,h2]; rfl);rw[Rep.str_i] at h4;subst h4;obtain⟨u,h5,t,h6⟩:=rv'.get h3;rw[h1] at h5;cases h5;exact⟨t,h6⟩
      have hsb:its.length=ss.length:=by omega
      refine ZpM (items:=its.toArray) (ss:=ss) (I1.ok.hd hcalm) pl'.isList (by simpa using sAll) (by
       have:scanBound=4096:=rfl;simp; omega) fun h2 tk xs hS hmem hk => ?_
      refine QX ?_;have k1:∀b o,s1.heap.get? b=some o->h2.get? b=some o:=fun b o e=>hk b o (Ym e) e;have hperm:xs.Perm (ddS ss):=(WX hS.len.2.1 (Ze7 ss)).mpr fun y=>by rw[hmem,ZcP]
      have hxl:xs.length<64:=by
       rw[hperm.length_eq];exact Qo (ZgI ss) hc
      have I2:Inv X pins σ H1 { s1 with heap:=h2,toks:=tk }:=I1.kept k1;refine ZqO (s:={ s1 with heap:=h2,toks:=tk }) (by omega) (I1.ok.hd hcalm) hS hxl fun vs' ys hys hp ix hpx hw h3 b h4 tk4 d4 c k3 hb k4 hg4 => ?_;have I3:Inv X pins σ H1 { s1 with heap:=h2,toks:=tk,drawn:=d4 }:=Inv.drew I2;have hsame:srtS ys=srtS (ddS ss):=by
       refine (Zji ?_ ?_).symm
       ·exact (srtS_perm _).trans (hp.trans hperm).symm
       ·refine Ud (R:=fun a b=>Zbo a b=true) (S:=fun a b=>a≠b) (fun a b h1 h2 => ?_) (Ziy _) ((srtS_perm (ddS ss)).nodup_iff.mpr (Ze7 ss));simp only[Zbo,Z3,Wr] at *;by_cases h5:a.cps.toList<b.cps.toList
        ·exact h5
        ·exact absurd (ZeM (VI h1 (Vz.mp h5))) h2
      exact ZnS (s:={ s1 with heap:=h2,toks:=tk,drawn:=d4 }) I3 W hys (hsame ▸ R) hpx hw (by rw[hp.length_eq]; exact hxl) k3 hb k4 hg4
    ·rw[Yh hc] at R; exact R.elim
   ·exact R.elim
  ·exact R.elim
 ·exact R.elim
end
end DL
end
section
namespace DL
open PySem PySem.Spec PyProof.Rows L2
mutual
def nice:Nat->D->Bool
 | 0,_=>false
 | _+1,.non=>true
 | _+1,.int _=>true
 | _+1,.str _=>true
 | n+1,.tup xs=>Zbx n xs
 | n+1,.lst xs=>Zbx n xs
 | _+1,_=>false
def Zbx:Nat->List D->Bool
 | _,[]=>true
 | n,x :: xs=>nice n x && Zbx n xs
end
theorem Zdq(n:Nat):∀xs:List D,Zbx n xs=true ↔ ∀x∈xs,nice n x=true
 | []=>by simp[Zbx]
 | x :: xs=>by simp[Zbx,Zdq n xs]
open Classical in
theorem ZgG{f:D->D->Option Bool}:∀(xs ys:List D),(∀x∈xs,∀y∈ys,f x y=some (decide (x=y)))->Z9 f xs ys=some (decide (xs=ys))
 | [],[],_=>by simp[Z9]
 | [],y :: ys,_=>by simp[Z9]
 | x :: xs,[],_=>by simp[Z9]
 | x :: xs,y :: ys,h=>by
  unfold Z9;rw[h x Yt y Yt,ZgG xs ys fun a ha b hb=>h a (Yl _ ha) b (Yl _ hb)];by_cases h1:x=y <;> by_cases h2:xs=ys <;> simp[h1,h2]
open Classical in
theorem Zd6(st:Sto):∀(n:Nat) (a b:D),nice n a=true->nice n b=true->eqN st n a b=some (decide (a=b))
 | 0,a,b,h,_=>by cases a <;> simp[nice] at h
 | n+1,a,b,ha,hb=>by
  unfold eqN;cases a <;> cases b <;> simp only[nice,YQ] at ha hb <;> simp only[kd]
  case tup.tup xs ys =>
   rw[ZgG xs ys fun x hx y hy=>Zd6 st n x y ((Zdq n xs).mp ha x hx) ((Zdq n ys).mp hb y hy)];simp
  case lst.lst xs ys =>
   rw[ZgG xs ys fun x hx y hy=>Zd6 st n x y ((Zdq n xs).mp ha x hx) ((Zdq n ys).mp hb y hy)];simp
  all_goals simp[Bool.beq_eq_decide_eq]
open Classical in
theorem Zeu{a b:D}{st:Sto}(ha:nice depth a=true)(hb:nice depth b=true):eqD a b st = .ok (.bl (decide (a=b))) st:=by
 unfold eqD; rw[Zd6 st depth a b ha hb]
open Classical in
theorem Zd5{a b:D}{st:Sto}(ha:nice depth a=true)(hb:nice depth b=true):neD a b st = .ok (.bl (!decide (a=b))) st:=by
 unfold neD; rw[Zd6 st depth a b ha hb]
def pl(ws:List Str):D:=.tup (ws.map .str)
theorem Znl(n:Nat)(ws:List Str):Zbx (n+1) (ws.map .str)=true:=by
 rw[Zdq];intro x hx;obtain⟨w,_,rfl⟩:=Y9.mp hx;rfl
theorem Zh3(n:Nat)(ws:List Str):nice (n+2) (pl ws)=true:=Znl n ws
theorem Zc9(ws:List Str):nice depth (pl ws)=true:=Zh3 48 ws
theorem str_inj{ws us:List Str}:ws.map D.str=us.map D.str ↔ ws=us:=by
 constructor
 ·intro h;have:(ws.map D.str).map (fun d=>match d with | .str x=>x | _=>("" : Str))=(us.map D.str).map (fun d=>match d with | .str x=>x | _=>("" : Str)):=by rw[h]
  simpa[Ql,Function.comp_def] using this
 ·intro h; rw[h]
theorem pl_inj{ws us:List Str}:pl ws=pl us ↔ ws=us:=by
 unfold pl;rw[D.tup.injEq];exact str_inj
theorem Zr9(ws us:List Str)(st:Sto):eqD (pl ws) (pl us) st = .ok (.bl (decide (ws=us))) st:=by
 rw[Zeu (Zc9 ws) (Zc9 us)];congr 2;exact WY.mpr pl_inj
theorem Zi5(ws us:List Str)(st:Sto):neD (pl ws) (pl us) st = .ok (.bl (!decide (ws=us))) st:=by
 rw[Zd5 (Zc9 ws) (Zc9 us)];congr 3;exact WY.mpr pl_inj
theorem ZbQ(x y:Str)(st:Sto):eqD (.str x) (.str y) st = .ok (.bl (decide (x=y))) st:=by
 rw[Zeu rfl rfl];congr 2;exact WY.mpr (by rw[D.str.injEq])
theorem Zre(x y:Str)(st:Sto):neD (.str x) (.str y) st = .ok (.bl (!decide (x=y))) st:=by
 rw[Zd5 rfl rfl];congr 3;exact WY.mpr (by rw[D.str.injEq])
theorem Zfn(x y:Int)(st:Sto):eqD (.int x) (.int y) st = .ok (.bl (decide (x=y))) st:=by
 rw[Zeu rfl rfl];congr 2;exact WY.mpr (by rw[D.int.injEq])
theorem Zgm(ws:List Str)(st:Sto):itemsOf st (pl ws)=some (ws.map .str):=rfl
theorem ZcU(ws:List Str)(st:Sto):ZA [pl ws] st = .ok (.int ws.length) st:=by
 simp[ZA,pl,itemsOf]
theorem Zpe(ws us:List Str)(st:Sto)(h:ws.length+us.length<=small):ZE (pl ws) (pl us) st = .ok (pl (ws++us)) st:=by
 simp[ZE,pl,h]
theorem Zm3{α β:Type}(f:α->β)(xs:List α)(lo hi:Option Int):Zax (xs.map f) lo hi=(Zax xs lo hi).map f:=by
 simp[Zax,UH,List.map_drop]
theorem ZrX(ws:List Str)(lo hi:Option Int)(st:Sto):ZbU (pl ws) lo hi st = .ok (pl (Zax ws lo hi)) st:=by
 simp[ZbU,pl,Zm3]
theorem ZgX{α:Type}(xs:List α)(n:Nat):Zax xs none (some (n:Int))=xs.take n:=by
 unfold Zax;rw[HT.sIx_none,HT.sIx_nat,Vl,Nat.sub_zero];by_cases h:n<=xs.length
 ·rw[Nat.min_eq_left h]
 ·rw[Nat.min_eq_right (by omega),VD,Qh (by omega)]
theorem ZsQ{α:Type}(xs:List α)(n:Nat):Zax xs (some (n:Int)) none=xs.drop n:=by
 unfold Zax;rw[HT.sIx_none,HT.sIx_nat];by_cases h:n<=xs.length
 ·rw[Nat.min_eq_left h,Qh (by simp)]
 ·rw[Nat.min_eq_right (by omega),Nat.sub_self,Vk,Vx (by omega)]
theorem ZbN{chk:Sto->Prop}{t:TgD}{g:DS}{ρ:Ev}{st:Sto}(hc:chk st):ZO chk t g [] ρ st = .nx ρ st:=by
 unfold ZO; rw[Yg hc]
theorem Zbg{chk:Sto->Prop}{t:TgD}{g:DS}{x:D}{xs:List D}{ρ ρ1 ρ2:Ev}{st st2:Sto}(hc:chk st)(ht:t x ρ=some ρ1)(hg:g ρ1 st = .nx ρ2 st2):ZO chk t g (x :: xs) ρ st=ZO chk t g xs ρ2 st2:=by
 rw[ZO,if_pos hc,ht]; dsimp only; rw[hg]
theorem ZfZ{chk:Sto->Prop}{t:TgD}{g:DS}{x d:D}{xs:List D}{ρ ρ1:Ev}{st st2:Sto}(hc:chk st)(ht:t x ρ=some ρ1)(hg:g ρ1 st = .rt d st2):ZO chk t g (x :: xs) ρ st = .rt d st2:=by
 rw[ZO,if_pos hc,ht]; dsimp only; rw[hg]
theorem Zo8(i j:Int)(h1 : -(2 ^ 64)<j)(h2:j<2 ^ 64):Zcd i j=true:=by
 unfold Zcd;rw[Yv h1,Yv h2];simp
theorem Zdy(i j:Int)(h1 : -(2 ^ 64)<i)(h2:i<2 ^ 64):Zcd i j=true:=by
 unfold Zcd;rw[Yv h1,Yv h2];simp
theorem mod_int(i j:Int)(st:Sto)(h:0<j):Zbt (.int i) (.int j) st = .ok (.int (i % j)) st:=by
 simp[Zbt,intOp,h]
theorem Zfd(i j:Int)(st:Sto)(h:0<j)(h2:j<1073741824):Zcr (.int i) (.int j) st = .ok (.int (i / j)) st:=by
 have e:ZkL i j=true:=@Yv (0<j/\j<1073741824) (Classical.propDecidable _) ⟨h,h2⟩;simp[Zcr,intOp,e]
theorem ZdX(a b:Int)(st:Sto):ZE (.int a) (.int b) st = .ok (.int (a+b)) st:=rfl
theorem Znb(a b:Int)(st:Sto):ZbF (.int a) (.int b) st = .ok (.int (a - b)) st:=rfl
theorem law_sp{K:P3}{F:FD}(hF:∀ns:List Int,ns.length<=63->∃st,F [.scr (ns.map .int)] [] = .ok (.bl true) st)(H:Hp)(a:Addr)(ns:List Int)(hl:ns.length<=63)(ho:Zef H)(hs:SqL K H a (ns.map V.int)) :
  spD K F [.ref a] H (fun v _=>v = .bl true) fun _ _ _=>False:=by
 obtain⟨st,e⟩:=hF ns hl;refine⟨[],[.scr (ns.map .int)],[],⟨rfl,Q2,fun i a s h=>by simp at h⟩,Reps.one (Rep.scr_i.mpr ⟨a,_,rfl,SqF.of hs ?_,?_⟩),?_⟩
 ·rcases ho a with h | ⟨o,xs,h⟩ <;> rw[h] <;> intro z <;> cases z
 ·have:∀(ms:List Int),Reps K [] H (ms.map D.int) (ms.map V.int):=by
   intro ms
   induction ms with
   | nil=>exact Reps.nil_i.mpr rfl
   | cons m ms ih=>exact Reps.cons_i.mpr ⟨_,_,rfl,Rep.int_i.mpr rfl,ih⟩
  exact this ns
 ·rw[e];exact fun O' H' _ _ v r=>Rep.bl_i.mp r
section
variable{α β:Type}{ρ:Ev}{st:Sto}{f fa fb fc fo:DE}{ta tb t:DT}{g g':DS}{da:DA}{i:Nat}{G:D->D->Sto->Out D}{H:D->D->Sto->Out (List D)}
@[simp] theorem Zed(a:α)(st:Sto)(k:α->Sto->Out β):(Out.ok a st).bind k=k a st:=rfl
@[simp] theorem Zto(k:α->Sto->Out β):(Out.bad:Out α).bind k = .bad:=rfl
@[simp] theorem ZeO(a:α)(st:Sto)(k:α->Sto->OutS):(Out.ok a st).to k=k a st:=rfl
@[simp] theorem Ze8:Za i ρ st=match ρ[i]? with
 | some (some d) => .ok d st
 | _ => .bad:=rfl
@[simp] theorem z_C(d:D):dC d ρ st = .ok d st:=rfl
@[simp] theorem ZiR:Zg G fa fb ρ st=(fa ρ st).bind fun x st1=>(fb ρ st1).bind fun y st2=>G x y st2:=rfl
@[simp] theorem Ztq:ZdH H fa fb ρ st=(fa ρ st).bind fun x st1=>(fb ρ st1).bind fun y st2=>H x y st2:=rfl
@[simp] theorem z_B:dB f ρ st=(f ρ st).bind asB:=rfl
@[simp] theorem Ziq(b:Bool):asB (.bl b) st = .ok b st:=rfl
@[simp] theorem Zm7(b:Int):Zfw (.int b) st = .ok (some b) st:=rfl
@[simp] theorem Zs6:Zcz ta tb ρ st=(ta ρ st).bind fun x st1=>if x=true then tb ρ st1 else .ok false st1:=rfl
@[simp] theorem Ztn:dOr ta tb ρ st=(ta ρ st).bind fun x st1=>if x=true then .ok true st1 else tb ρ st1:=rfl
@[simp] theorem Ztf:Zcf ta ρ st=(ta ρ st).bind fun x st1 => .ok (!x) st1:=rfl
@[simp] theorem Ztk:dIf t fa fb ρ st=(t ρ st).bind fun x st1=>if x=true then fa ρ st1 else fb ρ st1:=rfl
@[simp] theorem Ztj{G':D->D->Sto->Out D}:Zex G G' fa fb fc ρ st=(fa ρ st).bind fun x st1=>(fb ρ st1).bind fun y st2=>(G x y st2).bind fun z st3=>(asB z st3).bind fun k st4 =>
 if k=true then (fc ρ st4).bind fun w st5=>G' y w st5 else .ok (.bl false) st4:=rfl
@[simp] theorem ZjM:Ze ρ st = .ok [] st:=rfl
@[simp] theorem Ziw:Zc f da ρ st=(f ρ st).bind fun x st1=>(da ρ st1).bind fun xs st2 => .ok (x :: xs) st2:=rfl
@[simp] theorem Ztt:ZW da ρ st=(da ρ st).bind fun xs st1=>if xs.length<=small then .ok (.tup xs) st1 else .bad:=rfl
@[simp] theorem Zs8:Z6 da ρ st=(da ρ st).bind fun xs st1=>if xs.length<=small then .ok xs st1 else .bad:=rfl
@[simp] theorem z_F:dF da ρ st=(da ρ st).bind fun xs st1 => .ok (.lst xs) st1:=rfl
@[simp] theorem Zk0{γ:D->Option Int->Option Int->Sto->Out α}{l h:DO}:dSl γ f l h ρ st=(f ρ st).bind fun x st1=>(l ρ st1).bind fun lo st2=>(h ρ st2).bind fun hi st3=>γ x lo hi st3:=rfl
@[simp] theorem ZoT:Zbs ρ st = .ok none st:=rfl
@[simp] theorem ZoK:Zbk f ρ st=(f ρ st).bind Zfw:=rfl
@[simp] theorem Zhk{γ:List D->Sto->Out α}:Zj γ da ρ st=(da ρ st).bind γ:=rfl
@[simp] theorem Zti{caps:List Nat}{nT:Nat}{fi:DI}{tg:TgD}:Za5 caps nT fi tg t f ρ st=(fi ρ st).bind fun q st1=>Z1 q.2 tg t f q.1 (Zat ρ caps nT) st1 []:=rfl
@[simp] theorem Ztd:Zam f ρ st=(f ρ st).bind fun d st1=>match itemsOf st1 d with
 | some xs => .ok (xs,fun st=>itemsOf st d=some xs) st1
 | none => .bad:=rfl
@[simp] theorem Ztp:Zfp f ρ st=(f ρ st).bind fun d st1=>match d with
 | .int i => .ok (.int (-i)) st1
 | _ => .bad:=rfl
@[simp] theorem Ztg:ZV ρ st = .nx ρ st:=rfl
@[simp] theorem Zts:Zl g g' ρ st=match g ρ st with
 | .nx ρ' st'=>g' ρ' st'
 | r=>r:=rfl
@[simp] theorem Zs9:ZaK f ρ st=(f ρ st).to fun _ st1 => .nx ρ st1:=rfl
@[simp] theorem Ztl:Zv f ρ st=(f ρ st).to fun d st1 => .rt d st1:=rfl
@[simp] theorem Zjh:sIf t g g' ρ st=(t ρ st).to fun x st1=>if x=true then g ρ st1 else g' ρ st1:=rfl
@[simp] theorem ZmF:ZF i f ρ st=(f ρ st).to fun d st1 => .nx (ρ.set i (some d)) st1:=rfl
@[simp] theorem ZpD:ZaC i da ρ st=(da ρ st).to fun ds st1 => .nx (ρ.set i (some (.res st1.length))) (st1++[.lst ds]):=rfl
@[simp] theorem Zeg{fi:DI}{tg:TgD}:ZaQ fi tg g ρ st=(fi ρ st).to fun q st1=>ZO q.2 tg g q.1 ρ st1:=rfl
@[simp] theorem Ziu{N n:Nat}{ds:List D}:Zw N n g ds st=if ds.length=n then (match g (ds.map some++List.replicate (N - n) none) st with
 | .nx _ st' => .ok .non st'
 | .rt d st' => .ok d st'
 | _ => .bad) else .bad:=rfl
@[simp] theorem Zta(a b:Int)(st:Sto):ZE (.int a) (.int b) st = .ok (.int (a+b)) st:=rfl
@[simp] theorem Zte(a b:Int)(st:Sto):ZbF (.int a) (.int b) st = .ok (.int (a - b)) st:=rfl
theorem ZaV{n:Nat}(h:n<=1000):n<=small:=YI h (by decide)
@[simp] theorem Ztm:(0:Nat)<=small:=YV _
@[simp] theorem Ztb:(1:Nat)<=small:=by decide
@[simp] theorem Ztv:(2:Nat)<=small:=by decide
@[simp] theorem Zth:(3:Nat)<=small:=by decide
@[simp] theorem Ztu:(4:Nat)<=small:=by decide
@[simp] theorem Ztr:(5:Nat)<=small:=by decide
@[simp] theorem Ztc:(6:Nat)<=small:=by decide
end
end DL
end
section
namespace K53
open PySem L2 DL
def top(i:Nat):Stmt:=PySem.Challenge.pw_cardplaces_k53_whole_ways.main.body.getD i (.Pass ⟨0,0,0,0⟩)
noncomputable abbrev ZcX:Stmt:=top 25
theorem Zrm:FnScope ["_law_script", "_law_k"] ["_law_script", "_law_k"] (Zf ZcX):=⟨rfl,rfl,rfl,by decide +kernel,rfl,by decide +kernel,by decide +kernel⟩
def ZkA:DS:=(Zl (sIf (dB (Zg eqD (Za 0) (dF (Z6 Ze)))) (Zv (Zg ZaB (dC (.int 7)) (Za 1))) ZV) (Zv (Zg ZE (Zg ixD (Za 0) (Zg Zbt (Za 1) (Zj ZA (Zc (Za 0) Ze)))) (Zg ZaB (dC (.int 6553)) (Zg Zcr (Za 1) (Zj ZA (Zc (Za 0) Ze)))))))
def ZcV:FD:=Zw 2 2 (ZkA)
noncomputable abbrev Zdf:Stmt:=top 26
theorem scz_law_drawn:FnScope ["_law_script", "_law_k", "_law_many", "_law_cell_here"] ["_law_script", "_law_k", "_law_many"] (Zf Zdf):=⟨rfl,rfl,rfl,by decide +kernel,rfl,by decide +kernel,by decide +kernel⟩
def Zhu:DS:=(Zl (ZF 3 (Zg Zbt (Zg ZE (Zg ZaB (Zg Zbt (Zj ZcV (Zc (Za 0) (Zc (Za 1) Ze))) (dC (.int 2147483563))) (dC (.int 69069))) (Zg ZaB (dC (.int 104723)) (Zg ZE (Za 1) (dC (.int 1))))) (dC (.int 2147483563)))) (Zl (ZF 3 (Zg Zbt (Zg ZE (Zg ZaB (Za 3) (Za 3)) (Zg Zcr (Za 3) (dC (.int 3)))) (dC (.int 2147483399)))) (Zv (Zg Zbt (Zg Zcr (Zg Zbt (Zg ZE (Zg ZaB (Za 3) (Za 3)) (Zg Zcr (Za 3) (dC (.int 7)))) (dC (.int 2147483647))) (dC (.int 11))) (Za 2)))))
def Zah:FD:=Zw 4 3 (Zhu)
noncomputable abbrev Zce:Stmt:=top 28
theorem scz_law_few:FnScope ["_law_script", "_law_at", "_law_found", "_law_k", "_law_here", "_law_word", "_law_whence", "_law_down", "_law_steps", "_law_kind"] ["_law_script", "_law_at"] (Zf Zce):=⟨rfl,rfl,rfl,by decide +kernel,rfl,by decide +kernel,by decide +kernel⟩
def Zgr:DE:=(Zg ixD (dC (.str "ab")) (Zj Zah (Zc (Za 1) (Zc (Zg ZE (Zg ZE (Za 2) (dC (.int 4))) (Za 0)) (Zc (dC (.int 2)) Ze)))))
def Zdk:DS:=(Zl (ZF 4 (Zg ZE (Zg ZE (Za 1) (dC (.int 1))) (Zg ZaB (dC (.int 12)) (Za 3)))) (Zl (ZF 5 (Zg ixD (dF (Z6 (Zc (dC (.str "up")) (Zc (dC (.str "in")) (Zc (dC (.str "on")) (Zc (dC (.str "go")) Ze)))))) (Zj Zah (Zc (Za 0) (Zc (Za 4) (Zc (dC (.int 4)) Ze)))))) (Zl (ZF 6 (Zj ZaW (Zc (dF (Za5 [0,4] 1 (Zbv (Zc (Zj Zah (Zc (Za 0) (Zc (Zg ZE (Za 4) (dC (.int 3))) (Zc (dC (.int 3)) Ze)))) Ze)) (ZH 0) Zbw Zgr)) Ze))) (Zl (ZF 7 (ZW (Zc (Zg ixD (dC (.str "ab")) (Zj intD (Zc (Zg eqD (Zj ZA (Zc (Za 6) Ze)) (dC (.int 2))) Ze))) Ze))) (Zl (ZF 8 (Zg ixD (dF (Z6 (Zc (ZW (Zc (dC (.str "a")) Ze)) (Zc (Za 7) (Zc (ZW (Zc (dC (.str "..")) Ze)) (Zc (ZW (Zc (dC (.str "..")) (Zc (dC (.str "a")) Ze))) (Zc (ZW (Zc (dC (.str ".")) Ze)) (Zc (ZW (Zc (dC (.str "..")) (Zc (dC (.str "..")) Ze))) Ze)))))))) (Zj Zah (Zc (Za 0) (Zc (Zg ZE (Za 4) (dC (.int 1))) (Zc (dC (.int 6)) Ze)))))) (Zl (ZF 9 (Zg ixD (dF (Z6 (Zc (dC (.str "open")) (Zc (dC (.str "open")) (Zc (dC (.str "replace")) (Zc (dC (.str "go")) Ze)))))) (Zj Zah (Zc (Za 0) (Zc (Zg ZE (Za 4) (dC (.int 2))) (Zc (dC (.int 4)) Ze)))))) (ZF 2 (Zg ZE (Za 2) (ZW (Zc (ZW (Zc (Za 6) (Zc (Za 5) (Zc (Za 9) (Zc (Zg ixD (dF (Z6 (Zc (Za 8) (Zc (Zfp (dC (.int 1))) Ze)))) (Zj intD (Zc (Zg eqD (Za 9) (dC (.str "go"))) Ze))) Ze))))) Ze))))))))))
def ZjK:DS:=(Zl (ZF 2 (ZW Ze)) (Zl (ZaQ (Zbv (Zc (Zj Zah (Zc (Za 0) (Zc (Za 1) (Zc (dC (.int 6)) Ze)))) Ze)) (ZH 3) Zdk) (Zv (Za 2))))
def Zb6:FD:=Zw 10 2 (ZjK)
noncomputable abbrev ZcL:Stmt:=top 7
theorem ZlD:FnScope ["place", "other"] ["place", "other"] (Zf ZcL):=⟨rfl,rfl,rfl,by decide +kernel,rfl,by decide +kernel,by decide +kernel⟩
def Zjy:DS:=(Zv (Zg eqD (dSl ZbU (Za 0) Zbs (Zbk (Zj ZA (Zc (Za 1) Ze)))) (Za 1)))
def Zb2:FD:=Zw 2 2 (Zjy)
noncomputable abbrev ZcA:Stmt:=top 15
theorem ZpP:FnScope ["links", "place"] ["links", "place"] (Zf ZcA):=⟨rfl,rfl,rfl,by decide +kernel,rfl,by decide +kernel,by decide +kernel⟩
def Zg2:DE:=(Zg ixD (Za 0) (dC (.int 1)))
def ZgC:DT:=(dB (Zj Zb2 (Zc (Za 1) (Zc (Zg ixD (Za 0) (dC (.int 0))) Ze))))
def ZiH:DS:=(Zv (dF (Zj ZdZ (Zc (dF (Za5 [1] 1 (Zam (Za 0)) (ZH 0) ZgC Zg2)) Ze))))
def Zdo:FD:=Zw 2 2 (ZiH)
noncomputable abbrev Zdw:Stmt:=top 14
theorem sczlink_at:FnScope ["links", "place", "word", "link"] ["links", "place", "word"] (Zf Zdw):=⟨rfl,rfl,rfl,by decide +kernel,rfl,by decide +kernel,by decide +kernel⟩
def Zci:DS:=(sIf (Zcz (dB (Zg eqD (Zg ixD (Za 3) (dC (.int 1))) (Za 2))) (dB (Zj Zb2 (Zc (Za 1) (Zc (Zg ixD (Za 3) (dC (.int 0))) Ze))))) (Zv (Za 3)) ZV)
def Zj4:DS:=(Zl (ZaQ (Zam (Za 0)) (ZH 3) Zci) (Zv (dC .non)))
def ZbV:FD:=Zw 4 3 (Zj4)
noncomputable abbrev Zdz:Stmt:=top 6
theorem Zps:FnScope ["words"] ["words"] (Zf Zdz):=⟨rfl,rfl,rfl,by decide +kernel,rfl,by decide +kernel,by decide +kernel⟩
def Zgj:DS:=(Zv (Zg gtD (Zj ZA (Zc (Za 0) Ze)) (dC (.int 6))))
def Zdg:FD:=Zw 1 1 (Zgj)
noncomputable abbrev Zdb:Stmt:=top 8
theorem sczled:FnScope ["place", "steps", "words", "step"] ["place", "steps"] (Zf Zdb):=⟨rfl,rfl,rfl,by decide +kernel,rfl,by decide +kernel,by decide +kernel⟩
def ZaJ:DS:=(sIf (dB (Zg eqD (Za 3) (dC (.str "..")))) (Zl (sIf (dB (Zg eqD (Zj ZA (Zc (Za 2) Ze)) (dC (.int 0)))) (Zv (dC .non)) ZV) (ZaK (Zeo (Za 2)))) (sIf (dB (Zg neD (Za 3) (dC (.str ".")))) (Zl (ZaK (ZaZ (Za 2) (Za 3))) (sIf (dB (Zj Zdg (Zc (Za 2) Ze))) (Zv (dC .non)) ZV)) ZV))
def Zgw:DS:=(Zl (ZaC 2 (Zj ZdJ (Zc (Za 0) Ze))) (Zl (ZaQ (Zam (Za 1)) (ZH 3) ZaJ) (Zv (Zj ZaW (Zc (Za 2) Ze)))))
def Zcp:FD:=Zw 4 2 (Zgw)
noncomputable abbrev ZcQ:Stmt:=top 16
theorem ZpH:FnScope ["link", "place"] ["link", "place"] (Zf ZcQ):=⟨rfl,rfl,rfl,by decide +kernel,rfl,by decide +kernel,by decide +kernel⟩
def Zgu:DS:=(Zv (dIf (dB (Zg eqD (Zg ixD (Za 0) (dC (.int 2))) (dC (.str "go")))) (dC .non) (Zj Zcp (Zc (Za 1) (Zc (Zg ixD (Za 0) (dC (.int 3))) Ze)))))
def Zbj:FD:=Zw 2 2 (Zgu)
noncomputable abbrev Zda:Stmt:=top 17
theorem scznext_places:FnScope ["links", "place", "told", "word", "goal"] ["links", "place"] (Zf Zda):=⟨rfl,rfl,rfl,by decide +kernel,rfl,by decide +kernel,by decide +kernel⟩
def ZdG:DS:=(Zl (ZF 4 (Zj Zbj (Zc (Zj ZbV (Zc (Za 0) (Zc (Za 1) (Zc (Za 3) Ze)))) (Zc (Za 1) Ze)))) (sIf (dB (Zg Zcw (Za 4) (dC .non))) (ZaK (ZaZ (Za 2) (ZW (Zc (Za 3) (Zc (Za 4) Ze))))) ZV))
def Zki:DS:=(Zl (ZaC 2 (Z6 Ze)) (Zl (ZaQ (Zam (Zj Zdo (Zc (Za 0) (Zc (Za 1) Ze)))) (ZH 3) ZdG) (Zv (Za 2))))
def ZaG:FD:=Zw 5 2 (Zki)
noncomputable abbrev Zc0:Stmt:=top 18
theorem sczways_from:FnScope ["links", "start", "goal", "ways", "ring", "further", "place", "word", "beyond"] ["links", "start", "goal"] (Zf Zc0):=⟨rfl,rfl,rfl,by decide +kernel,rfl,by decide +kernel,by decide +kernel⟩
def ZdF:DS:=(sIf (dB (Zg Zbr (Za 8) (Za 3))) (Zl (ZgR (Za 3) (Za 8) (Zg ZE (ZgZ (Za 3) (Za 6)) (ZW (Zc (Za 7) Ze)))) (ZaK (ZaZ (Za 5) (Za 8)))) ZV)
def ZcZ:DS:=(ZaQ (Zam (Zj ZaG (Zc (Za 0) (Zc (Za 6) Ze)))) (Za2 [7,8]) ZdF)
def ZkH:DS:=(Zl (ZF 3 (ZdI (Za 1) (ZW Ze))) (Zl (ZF 4 (dF (Z6 (Zc (Za 1) Ze)))) (Zl (Zbq 130 (Zcz (dB (Zg gtD (Zj ZA (Zc (Za 4) Ze)) (dC (.int 0)))) (dB (Zg Zbr (Za 2) (Za 3)))) (Zl (ZaC 5 (Z6 Ze)) (Zl (ZaQ (Zam (Za 4)) (ZH 6) ZcZ) (ZF 4 (Za 5))))) (Zv (Za 3)))))
def ZaS:FD:=Zw 9 3 (ZkH)
noncomputable abbrev ZcK:Stmt:=top 20
theorem Zsp:FnScope ["links", "start"] ["links", "start"] (Zf ZcK):=⟨rfl,rfl,rfl,by decide +kernel,rfl,by decide +kernel,by decide +kernel⟩
def ZiW:DS:=(Zv (dF (Zj ZdT (Zc (Zj ZaS (Zc (Za 0) (Zc (Za 1) (Zc (dC .non) Ze)))) Ze))))
def ZaA:FD:=Zw 2 2 (ZiW)
noncomputable abbrev ZdA:Stmt:=top 19
theorem ZnG:FnScope ["links", "start", "goal"] ["links", "start", "goal"] (Zf ZdA):=⟨rfl,rfl,rfl,by decide +kernel,rfl,by decide +kernel,by decide +kernel⟩
def Zhm:DS:=(Zv (ZfC (Zj ZaS (Zc (Za 0) (Zc (Za 1) (Zc (Za 2) Ze)))) (Za 2)))
def Z8:FD:=Zw 3 3 (Zhm)
noncomputable abbrev ZcE:Stmt:=inClass (top 11) 0
theorem Zoe:FnScope ["self", "place", "most"] ["self", "place", "most"] (Zf ZcE):=⟨rfl,rfl,rfl,by decide +kernel,rfl,by decide +kernel,by decide +kernel⟩
def ZhJ(cv:Nat->Addr):DS:=(Zl (Za0 (cv 0) "most" (Za 0) (Za 2)) (Zl (ZfI (cv 0) "rows" (Za 0) (Z6 (Zc (ZW (Zc (Za 1) (Zc (dC (.int 0)) Ze))) Ze))) (Za0 (cv 0) "spot" (Za 0) (dC (.int 0)))))
def Zdm(cv:Nat->Addr):FD:=Zw 3 3 (ZhJ cv)
noncomputable abbrev Zc1:Stmt:=inClass (top 12) 0
theorem ZqP:FnScope ["self", "place", "most"] ["self", "place", "most"] (Zf Zc1):=⟨rfl,rfl,rfl,by decide +kernel,rfl,by decide +kernel,by decide +kernel⟩
def ZkD(cv:Nat->Addr):DS:=(Za0 (cv 4) "book" (Za 0) (Zdd (cv 0) (Zdm cv) (Zc (Za 1) (Zc (Za 2) Ze))))
def ZcT(cv:Nat->Addr):FD:=Zw 3 3 (ZkD cv)
noncomputable abbrev Zds:Stmt:=inClass (top 23) 0
theorem Zo0:FnScope ["self", "links", "place", "most"] ["self", "links", "place", "most"] (Zf Zds):=⟨rfl,rfl,rfl,by decide +kernel,rfl,by decide +kernel,by decide +kernel⟩
def ZhD(cv:Nat->Addr):DS:=(Zl (ZaK (Zj (ZcT cv) (Zc (Za 0) (Zc (Za 2) (Zc (Za 3) Ze))))) (Za0 (cv 4) "links" (Za 0) (Za 1)))
def Zcs(cv:Nat->Addr):FD:=Zw 4 4 (ZhD cv)
noncomputable abbrev Zdc:Stmt:=inClass (top 11) 1
theorem ZmA:FnScope ["self"] ["self"] (Zf Zdc):=⟨rfl,rfl,rfl,by decide +kernel,rfl,by decide +kernel,by decide +kernel⟩
def Zhh(cv:Nat->Addr):DS:=(Zv (Zg ixD (Zg ixD (ZY (cv 0) "rows" (Za 0)) (ZY (cv 0) "spot" (Za 0))) (dC (.int 0))))
def ZcC(cv:Nat->Addr):FD:=Zw 1 1 (Zhh cv)
noncomputable abbrev Zc4:Stmt:=inClass (top 12) 1
theorem Zn1:FnScope ["self"] ["self"] (Zf Zc4):=⟨rfl,rfl,rfl,by decide +kernel,rfl,by decide +kernel,by decide +kernel⟩
def ZjD(cv:Nat->Addr):DS:=(Zv (ZQ (cv 0) "now" (ZcC cv) (ZY (cv 4) "book" (Za 0)) Ze))
def Zae(cv:Nat->Addr):FD:=Zw 1 1 (ZjD cv)
noncomputable abbrev ZcB:Stmt:=inClass (top 11) 6
theorem Znt:FnScope ["self", "by"] ["self", "by"] (Zf ZcB):=⟨rfl,rfl,rfl,by decide +kernel,rfl,by decide +kernel,by decide +kernel⟩
def Zid(cv:Nat->Addr):DS:=(Zv (Zex leX ltD (dC (.int 0)) (Zg ZE (ZY (cv 0) "spot" (Za 0)) (Za 1)) (Zj ZA (Zc (ZY (cv 0) "rows" (Za 0)) Ze))))
def Zb4(cv:Nat->Addr):FD:=Zw 2 2 (Zid cv)
noncomputable abbrev ZcR:Stmt:=inClass (top 11) 7
theorem ZlY:FnScope ["self", "by"] ["self", "by"] (Zf ZcR):=⟨rfl,rfl,rfl,by decide +kernel,rfl,by decide +kernel,by decide +kernel⟩
def ZjE(cv:Nat->Addr):DS:=(Zl (sIf (Zcf (dB (ZQ (cv 0) "can_go" (Zb4 cv) (Za 0) (Zc (Za 1) Ze)))) ZjC ZV) (Zv (Zg ixD (Zg ixD (ZY (cv 0) "rows" (Za 0)) (Zg ZE (ZY (cv 0) "spot" (Za 0)) (Za 1))) (dC (.int 0)))))
def ZcG(cv:Nat->Addr):FD:=Zw 2 2 (ZjE cv)
noncomputable abbrev Zc6:Stmt:=inClass (top 11) 8
theorem sczBook_go:FnScope ["self", "by", "place"] ["self", "by"] (Zf Zc6):=⟨rfl,rfl,rfl,by decide +kernel,rfl,by decide +kernel,by decide +kernel⟩
def ZiG(cv:Nat->Addr):DS:=(Zl (ZF 2 (ZQ (cv 0) "place_at" (ZcG cv) (Za 0) (Zc (Za 1) Ze))) (Zl (Zfu (cv 0) "spot" (Za 0) (Za 1)) (Zv (Za 2))))
def Zc5(cv:Nat->Addr):FD:=Zw 3 2 (ZiG cv)
noncomputable abbrev Zdu:Stmt:=inClass (top 23) 2
theorem ZmN:FnScope ["self", "by"] ["self", "by"] (Zf Zdu):=⟨rfl,rfl,rfl,by decide +kernel,rfl,by decide +kernel,by decide +kernel⟩
def ZfY(cv:Nat->Addr):DS:=(Zl (sIf (Zcf (dB (ZQ (cv 0) "can_go" (Zb4 cv) (ZY (cv 4) "book" (Za 0)) (Zc (Za 1) Ze)))) (Zv (dC (.bl false))) ZV) (Zl (ZaK (ZQ (cv 0) "go" (Zc5 cv) (ZY (cv 4) "book" (Za 0)) (Zc (Za 1) Ze))) (Zv (dC (.bl true)))))
def Zcg(cv:Nat->Addr):FD:=Zw 2 2 (ZfY cv)
noncomputable abbrev Zdh:Stmt:=inClass (top 11) 4
theorem sczBook_visit:FnScope ["self", "place", "rows"] ["self", "place"] (Zf Zdh):=⟨rfl,rfl,rfl,by decide +kernel,rfl,by decide +kernel,by decide +kernel⟩
def ZdD(cv:Nat->Addr):DS:=(Zl (ZaC 2 (ZdH Zdn (dF (dSl ZaT (ZY (cv 0) "rows" (Za 0)) Zbs (Zbk (Zg ZE (ZY (cv 0) "spot" (Za 0)) (dC (.int 1)))))) (dF (Z6 (Zc (ZW (Zc (Za 1) (Zc (dC (.int 0)) Ze))) Ze))))) (Zl (sIf (dB (Zg gtD (Zj ZA (Zc (Za 2) Ze)) (ZY (cv 0) "most" (Za 0)))) (ZaC 2 (dSl ZaT (Za 2) (Zbk (dC (.int 1))) Zbs)) ZV) (Zl (Za0 (cv 0) "rows" (Za 0) (Za 2)) (Za0 (cv 0) "spot" (Za 0) (Zg ZbF (Zj ZA (Zc (Za 2) Ze)) (dC (.int 1)))))))
def Zd1(cv:Nat->Addr):FD:=Zw 3 2 (ZdD cv)
noncomputable abbrev ZcH:Stmt:=inClass (top 11) 5
theorem Zrh:FnScope ["self", "place"] ["self", "place"] (Zf ZcH):=⟨rfl,rfl,rfl,by decide +kernel,rfl,by decide +kernel,by decide +kernel⟩
def Zh9(cv:Nat->Addr):DS:=(Zgp (ZY (cv 0) "rows" (Za 0)) (ZY (cv 0) "spot" (Za 0)) (ZW (Zc (Za 1) (Zc (dC (.int 0)) Ze))))
def Zc3(cv:Nat->Addr):FD:=Zw 2 2 (Zh9 cv)
noncomputable abbrev ZcY:Stmt:=inClass (top 23) 3
theorem sczPresser_try_lead:FnScope ["self", "link", "goal"] ["self", "link"] (Zf ZcY):=⟨rfl,rfl,rfl,by decide +kernel,rfl,by decide +kernel,by decide +kernel⟩
def ZeS(cv:Nat->Addr):DS:=(Zl (ZF 2 (Zj Zbj (Zc (Za 1) (Zc (ZQ (cv 4) "now" (Zae cv) (Za 0) Ze) Ze)))) (Zl (sIf (dB (Zg isD (Za 2) (dC .non))) (Zv (dC (.bl false))) ZV) (Zl (sIf (dB (Zg eqD (Zg ixD (Za 1) (dC (.int 2))) (dC (.str "open")))) (ZaK (ZQ (cv 0) "visit" (Zd1 cv) (ZY (cv 4) "book" (Za 0)) (Zc (Za 2) Ze))) (ZaK (ZQ (cv 0) "replace" (Zc3 cv) (ZY (cv 4) "book" (Za 0)) (Zc (Za 2) Ze)))) (Zv (dC (.bl true))))))
def Zb5(cv:Nat->Addr):FD:=Zw 3 2 (ZeS cv)
noncomputable abbrev ZcM:Stmt:=inClass (top 23) 1
theorem sczPresser_press:FnScope ["self", "word", "link"] ["self", "word"] (Zf ZcM):=⟨rfl,rfl,rfl,by decide +kernel,rfl,by decide +kernel,by decide +kernel⟩
def ZeT(cv:Nat->Addr):DS:=(Zl (ZF 2 (Zj ZbV (Zc (ZY (cv 4) "links" (Za 0)) (Zc (ZQ (cv 4) "now" (Zae cv) (Za 0) Ze) (Zc (Za 1) Ze))))) (Zl (sIf (dB (Zg isD (Za 2) (dC .non))) (Zv (dC (.bl false))) ZV) (Zl (sIf (dB (Zg eqD (Zg ixD (Za 2) (dC (.int 2))) (dC (.str "go")))) (Zv (ZQ (cv 4) "try_go" (Zcg cv) (Za 0) (Zc (Zg ixD (Za 2) (dC (.int 3))) Ze))) ZV) (Zv (ZQ (cv 4) "try_lead" (Zb5 cv) (Za 0) (Zc (Za 2) Ze))))))
def ZaR(cv:Nat->Addr):FD:=Zw 3 2 (ZeT cv)
noncomputable abbrev Zcn:Stmt:=top 21
theorem Znf:FnScope ["links", "place"] ["links", "place"] (Zf Zcn):=⟨rfl,rfl,rfl,by decide +kernel,rfl,by decide +kernel,by decide +kernel⟩
def Zfm:DE:=(Zg neD (Za 1) (Za 2))
def Zh6:DS:=(Zv (Zj Zes (Zc (dF (Za5 [1] 2 (Zam (Zj ZaG (Zc (Za 0) (Zc (Za 1) Ze)))) (Za2 [0,1]) Zbw Zfm)) Ze)))
def ZdB:FD:=Zw 2 2 (Zh6)
noncomputable abbrev Zct:Stmt:=top 22
theorem Zqq:FnScope ["links", "start"] ["links", "start"] (Zf Zct):=⟨rfl,rfl,rfl,by decide +kernel,rfl,by decide +kernel,by decide +kernel⟩
def ZgD:DE:=(Za 0)
def Zga:DT:=(Zcf (dB (Zj ZdB (Zc (Za 1) (Zc (Za 0) Ze)))))
def Zik:DS:=(Zv (dF (Za5 [0] 1 (Zam (Zj ZaA (Zc (Za 0) (Zc (Za 1) Ze)))) (ZH 0) Zga ZgD)))
def Zb7:FD:=Zw 2 2 (Zik)
noncomputable abbrev Zq:Stmt:=top 29
theorem sczlaw:FnScope ["_law_script", "_law_links", "_law_start", "_law_every", "_law_goal", "_law_told", "_law_presser", "_law_seen", "_law_at", "_law_word", "_law_rest", "_law_there", "_law_ends"] ["_law_script"] (Zf Zq):=⟨rfl,rfl,rfl,by decide +kernel,rfl,by decide +kernel,by decide +kernel⟩
def ZjU:Stmt:=(Zr Zq).getD 0 (.Pass ⟨0,0,0,0⟩)
def Ziz:Stmt:=(Zr Zq).getD 1 (.Pass ⟨0,0,0,0⟩)
def Zhw:Stmt:=(Zr Zq).getD 2 (.Pass ⟨0,0,0,0⟩)
def Zis:Stmt:=(Zr Zq).getD 3 (.Pass ⟨0,0,0,0⟩)
def ZhV:Stmt:=(Zr Zq).getD 4 (.Pass ⟨0,0,0,0⟩)
def Zjr:Stmt:=(Zr Zq).getD 5 (.Pass ⟨0,0,0,0⟩)
def ZjL:Stmt:=(Zr Zq).getD 6 (.Pass ⟨0,0,0,0⟩)
def ZhA:Stmt:=(Zr Zq).getD 7 (.Pass ⟨0,0,0,0⟩)
def Zjc:Stmt:=(Zr Zq).getD 8 (.Pass ⟨0,0,0,0⟩)
def Zhx:Stmt:=(Zr Zq).getD 9 (.Pass ⟨0,0,0,0⟩)
def Zj2:Stmt:=(Zr Zq).getD 10 (.Pass ⟨0,0,0,0⟩)
def Zi6:Stmt:=(Zr Zq).getD 11 (.Pass ⟨0,0,0,0⟩)
def Zkb:Stmt:=(Zr Zq).getD 12 (.Pass ⟨0,0,0,0⟩)
def ZhQ:Stmt:=(Zr Zq).getD 13 (.Pass ⟨0,0,0,0⟩)
def Zka:Stmt:=(Zr Zq).getD 14 (.Pass ⟨0,0,0,0⟩)
def ZfO:DS:=(ZF 1 (dSl ZbU (Zj Zb6 (Zc (Za 0) (Zc (dC (.int 0)) Ze))) Zbs (Zbk (dC (.int 4)))))
def ZeQ:DE:=(Zg ixD (dC (.str "ab")) (Zj Zah (Zc (Za 1) (Zc (Zg ZE (dC (.int 101)) (Za 0)) (Zc (dC (.int 2)) Ze)))))
def Zgn:DS:=(ZF 2 (Zj ZaW (Zc (dF (Za5 [0] 1 (Zbv (Zc (Zj Zah (Zc (Za 0) (Zc (dC (.int 100)) (Zc (dC (.int 4)) Ze)))) Ze)) (ZH 0) Zbw ZeQ)) Ze)))
def Zg3:DS:=(ZF 3 (Zj ZaA (Zc (Za 1) (Zc (Za 2) Ze))))
def Ze5:DS:=(sIf (dOr (dB (Zg ZbS (Za 2) (Za 3))) (dOr (dB (Zg neD (Za 3) (dF (Zj ZdO (Zc (Za 3) Ze))))) (dB (Zg neD (Zj Z8 (Zc (Za 1) (Zc (Za 2) (Zc (Za 2) Ze)))) (ZW Ze))))) (Zv (dC (.bl false))) ZV)
def ZfP:DS:=(ZF 4 (Zg ixD (Za 3) (Zj Zah (Zc (Za 0) (Zc (dC (.int 110)) (Zc (Zj ZA (Zc (Za 3) Ze)) Ze))))))
def ZfW:DS:=(ZF 5 (Zj Z8 (Zc (Za 1) (Zc (Za 2) (Zc (Za 4) Ze)))))
def Zeb:DS:=(sIf (dOr (dB (Zg isD (Za 5) (dC .non))) (dB (Zg Zcw (Zj Z8 (Zc (Za 1) (Zc (Za 2) (Zc (ZW (Zc (dC (.str "zz")) Ze)) Ze)))) (dC .non)))) (Zv (dC (.bl false))) ZV)
def ZgV(cv:Nat->Addr):DS:=(ZF 6 (Zdd (cv 4) (Zcs cv) (Zc (Za 1) (Zc (Za 2) (Zc (dC (.int 99)) Ze)))))
def Zge:DS:=(ZaC 7 (Z6 (Zc (Za 2) Ze)))
def ZeB(cv:Nat->Addr):DS:=(Zl (sIf (dOr (Zcf (dB (ZQ (cv 4) "press" (ZaR cv) (Za 6) (Zc (Za 9) Ze)))) (dB (Zg ZbS (ZQ (cv 4) "now" (Zae cv) (Za 6) Ze) (Za 3)))) (Zv (dC (.bl false))) ZV) (Zl (ZaK (ZaZ (Za 7) (ZQ (cv 4) "now" (Zae cv) (Za 6) Ze))) (Zl (ZF 10 (Zj Z8 (Zc (Za 1) (Zc (ZQ (cv 4) "now" (Zae cv) (Za 6) Ze) (Zc (Za 4) Ze))))) (sIf (dOr (dB (Zg isD (Za 10) (dC .non))) (dB (Zg neD (Zj ZA (Zc (Za 10) Ze)) (Zg ZbF (Zg ZbF (Zj ZA (Zc (Za 5) Ze)) (Za 8)) (dC (.int 1)))))) (Zv (dC (.bl false))) ZV))))
def Zgq(cv:Nat->Addr):DS:=(ZaQ (Zf1 (Za 5)) (Za2 [8,9]) (ZeB cv))
def Zfa(cv:Nat->Addr):DS:=(sIf (dOr (dB (Zg neD (ZQ (cv 4) "now" (Zae cv) (Za 6) Ze) (Za 4))) (dB (Zg neD (Zj ZdN (Zc (Za 7) Ze)) (Zj ZA (Zc (Za 7) Ze))))) (Zv (dC (.bl false))) ZV)
def ZeN:DS:=(sIf (dOr (dB (Zg ZbS (Za 11) (Za 3))) (dB (Zg gtD (Zj ZA (Zc (Zj Z8 (Zc (Za 1) (Zc (Za 2) (Zc (Za 11) Ze)))) Ze)) (Zg ZE (Zj ZA (Zc (Za 5) Ze)) (dC (.int 1)))))) (Zv (dC (.bl false))) ZV)
def Zfb:DS:=(ZaQ (Zam (Zj ZaG (Zc (Za 1) (Zc (Za 4) Ze)))) (Za2 [9,11]) ZeN)
def Zfr:DS:=(ZF 12 (Zj Zb7 (Zc (Za 1) (Zc (Za 2) Ze))))
def ZfD:DE:=(Za 0)
def ZeD:DT:=(dB (Zg neD (Zj ZaA (Zc (Za 1) (Zc (Za 0) Ze))) (dF (Z6 (Zc (Za 0) Ze)))))
def Zev:DS:=(sIf (dB (Zg neD (dF (Za5 [1] 1 (Zam (Za 12)) (ZH 0) ZeD ZfD)) (dF (Z6 Ze)))) (Zv (dC (.bl false))) ZV)
def Zfy:DS:=(Zv (Zg eqD (Zg inD (Za 4) (Za 12)) (Zg eqD (Zj ZaA (Zc (Za 1) (Zc (Za 4) Ze))) (dF (Z6 (Zc (Za 4) Ze))))))
def Zft(cv:Nat->Addr):DS:=(Zl ZfO (Zl Zgn (Zl Zg3 (Zl Ze5 (Zl ZfP (Zl ZfW (Zl Zeb (Zl (ZgV cv) (Zl Zge (Zl (Zgq cv) (Zl (Zfa cv) (Zl Zfb (Zl Zfr (Zl Zev Zfy))))))))))))))
def Zdt(cv:Nat->Addr):FD:=Zw 13 1 (Zft cv)
section
variable{P:P5}{w:World}{K:P3}{mg:Str->Option P7}{base:Heap}{cv:Nat->Addr}
theorem Zod{f:Addr}{fd:P6}(F:Fun K "_law_cell" "_law_cell" ZcX f fd)(hm:mg "_law_cell" = some (.ref f))(hb:Binds K fd ["_law_script", "_law_k"] [])(b_len:mg "len" = none):FnAt P w K mg base "_law_cell" 1 ZcV :=
 fnAt (k:=0) F Zrm hm hb fun cdv A outer s H E hr=>(Zo (Z2 (ZK (ZaN hr.units) (Zb 0) (Zaa (Zaz Zh))) (Zn (Zx (Zy Zck Zs (Zb 1)))) Zab) (Zn (Zx (Zy Zad (Z4 (Zb 0) (Zy ZcW (Zb 1) (Zao Zan rfl b_len YY (Zd (Zb 0) Zh)))) (Zy Zck Zs (Zy Ze4 (Zb 1) (Zao Zan rfl b_len YY (Zd (Zb 0) Zh))))))))
theorem Zq6{f:Addr}{fd:P6}(F:Fun K "_law_drawn" "_law_drawn" Zdf f fd)(hm:mg "_law_drawn" = some (.ref f))(hb:Binds K fd ["_law_script", "_law_k", "_law_many"] [])(hz_law_cell:FnAt P w K mg base "_law_cell" 1 ZcV):FnAt P w K mg base "_law_drawn" 2 Zah :=
 fnAt (k:=1) F scz_law_drawn hm hb fun cdv A outer s H E hr=>(Zo (ZS 3 scz_law_drawn.nd rfl (.inl rfl) (Zy ZcW (Zy Zad (Zy Zck (Zy ZcW (Zz hz_law_cell hr (by decide) rfl (Zd (Zb 0) (Zd (Zb 1) Zh))) Zs) Zs) (Zy Zck Zs (Zy Zad (Zb 1) Zs))) Zs)) (Zo (ZS 3 scz_law_drawn.nd rfl (.inl rfl) (Zy ZcW (Zy Zad (Zy Zck (Zb 3) (Zb 3)) (Zy Ze4 (Zb 3) Zs)) Zs)) (Zn (Zx (Zy ZcW (Zy Ze4 (Zy ZcW (Zy Zad (Zy Zck (Zb 3) (Zb 3)) (Zy Ze4 (Zb 3) Zs)) Zs) Zs) (Zb 2))))))
theorem ZqU{f:Addr}{fd:P6}(F:Fun K "_law_few" "_law_few" Zce f fd)(hm:mg "_law_few" = some (.ref f))(hb:Binds K fd ["_law_script", "_law_at"] [])(b_int:mg "int" = none)(b_len:mg "len" = none)(b_range:mg "range" = none)(b_tuple:mg "tuple" = none)(hz_law_drawn:FnAt P w K mg base "_law_drawn" 2 Zah):FnAt P w K mg base "_law_few" 3 Zb6 :=
 fnAt (k:=2) F scz_law_few hm hb fun cdv A outer s H E hr=>(Zo (ZS 2 scz_law_few.nd rfl (.inl rfl) (Zak Zh)) (Zo (ZbR WV rfl (Zfq rfl b_range (Zd (Zz hz_law_drawn hr (by decide) rfl (Zd (Zb 0) (Zd (Zb 1) (Zd Zs Zh)))) Zh)) (Zbd 3 scz_law_few.nd rfl (.inl rfl)) (Zo (ZS 4 scz_law_few.nd rfl (.inr rfl) (Zy Zad (Zy Zad (Zb 1) Zs) (Zy Zck Zs (Zb 3)))) (Zo (ZS 5 scz_law_few.nd rfl (.inl rfl) (Z4 (Zaa (Zaz (Zd ZT (Zd ZT (Zd ZT (Zd ZT Zh)))))) (Zz hz_law_drawn hr (by decide) rfl (Zd (Zb 0) (Zd (Zb 4) (Zd Zs Zh)))))) (Zo (ZS 6 scz_law_few.nd rfl (.inl rfl) (Zd3 ZgU rfl b_tuple Vr (Zd (Zaa (Zdx rfl ⟨Blk.of (N:=["_law_j", "_law_script", "_law_here"]) (caps:=[0,4]) (nT:=1) (by show Zb1 (Zf Zce) _ ["_law_script", "_law_at", "_law_found", "_law_k", "_law_here", "_law_word", "_law_whence", "_law_down", "_law_steps", "_law_kind"] _ _ _=true; decide +kernel),fun _ _ _ _=>(Zbd 0 (by show (["_law_j", "_law_script", "_law_here"]:List Str).Nodup; decide +kernel) rfl (.inl rfl)),fun _ _ _ _=>ZgB,fun _ _ _ _=>(Z4 ZT (Zz hz_law_drawn hr (by decide) rfl (Zd (Zb 1) (Zd (Zy Zad (Zy Zad (Zb 2) Zs) (Zb 0)) (Zd Zs Zh)))))⟩ (Zfq rfl b_range (Zd (Zz hz_law_drawn hr (by decide) rfl (Zd (Zb 0) (Zd (Zy Zad (Zb 4) Zs) (Zd Zs Zh)))) Zh)))) Zh))) (Zo (ZS 7 scz_law_few.nd rfl (.inl rfl) (Zak (Zd (Z4 ZT (Zd3 Zje rfl b_int PyProof.Rows.boot_int (Zd (ZbX (ZaN hr.units) (Zao Zan rfl b_len YY (Zd (Zb 6) Zh)) Zs) Zh))) Zh))) (Zo (ZS 8 scz_law_few.nd rfl (.inl rfl) (Z4 (Zaa (Zaz (Zd (Zak (Zd ZT Zh)) (Zd (Zb 7) (Zd (Zak (Zd ZT Zh)) (Zd (Zak (Zd ZT (Zd ZT Zh))) (Zd (Zak (Zd ZT Zh)) (Zd (Zak (Zd ZT (Zd ZT Zh))) Zh)))))))) (Zz hz_law_drawn hr (by decide) rfl (Zd (Zb 0) (Zd (Zy Zad (Zb 4) Zs) (Zd Zs Zh)))))) (Zo (ZS 9 scz_law_few.nd rfl (.inl rfl) (Z4 (Zaa (Zaz (Zd ZT (Zd ZT (Zd ZT (Zd ZT Zh)))))) (Zz hz_law_drawn hr (by decide) rfl (Zd (Zb 0) (Zd (Zy Zad (Zb 4) Zs) (Zd Zs Zh)))))) (Zn (ZS 2 scz_law_few.nd rfl (.inl rfl) (Zy Zad (Zb 2) (Zak (Zd (Zak (Zd (Zb 6) (Zd (Zb 5) (Zd (Zb 9) (Zd (Z4 (Zaa (Zaz (Zd (Zb 8) (Zd (ZqQ Zs) Zh)))) (Zd3 Zje rfl b_int PyProof.Rows.boot_int (Zd (ZbX (ZaN hr.units) (Zb 9) ZT) Zh))) Zh))))) Zh)))))))))))) (Zn (Zx (Zb 2)))))
theorem Zo3{f:Addr}{fd:P6}(F:Fun K "is_under" "is_under" ZcL f fd)(hm:mg "is_under" = some (.ref f))(hb:Binds K fd ["place", "other"] [])(b_len:mg "len" = none):FnAt P w K mg base "is_under" 1 Zb2 :=
 fnAt (k:=0) F ZlD hm hb fun cdv A outer s H E hr=>(Zn (Zx (ZbX (ZaN hr.units) (Zjd Zhv (Zb 0) Ze2 (ZeG (Zao Zan rfl b_len YY (Zd (Zb 1) Zh)))) (Zb 1))))
theorem Zqs{f:Addr}{fd:P6}(F:Fun K "words_at" "words_at" ZcA f fd)(hm:mg "words_at" = some (.ref f))(hb:Binds K fd ["links", "place"] [])(b_set:mg "set" = none)(b_sorted:mg "sorted" = none)(hzis_under:FnAt P w K mg base "is_under" 1 Zb2):FnAt P w K mg base "words_at" 2 Zdo :=
 fnAt (k:=1) F ZpP hm hb fun cdv A outer s H E hr=>(Zn (Zx (Zaa (Zo5 rfl hr.units rfl b_sorted Vi rfl b_set VR (Zd (Zaa (Zdx rfl ⟨Blk.of (N:=["link", "place"]) (caps:=[1]) (nT:=1) (by show Zb1 (Zf ZcA) _ ["links", "place"] _ _ _=true; decide +kernel),fun _ _ _ _=>(Zbd 0 (by show (["link", "place"]:List Str).Nodup; decide +kernel) rfl (.inl rfl)),fun _ _ _ _=>Zg1 (Zcl (Zz hzis_under hr (by decide) rfl (Zd (Zb 1) (Zd (Z4 (Zb 0) Zs) Zh)))),fun _ _ _ _=>(Z4 (Zb 0) Zs)⟩ (Zbb (Zb 0)))) Zh)))))
theorem Zsg{f:Addr}{fd:P6}(F:Fun K "link_at" "link_at" Zdw f fd)(hm:mg "link_at" = some (.ref f))(hb:Binds K fd ["links", "place", "word"] [])(hzis_under:FnAt P w K mg base "is_under" 1 Zb2):FnAt P w K mg base "link_at" 2 ZbV :=
 fnAt (k:=1) F sczlink_at hm hb fun cdv A outer s H E hr=>(Zo (ZbR WV rfl (Zbb (Zb 0)) (Zbd 3 sczlink_at.nd rfl (.inl rfl)) (Zn (Z2 (PDW.pt (ZiS (ZK (ZaN hr.units) (Z4 (Zb 3) Zs) (Zb 2)) (ZhN (Zcl (Zz hzis_under hr (by decide) rfl (Zd (Zb 1) (Zd (Z4 (Zb 3) Zs) Zh))))))) (Zn (Zx (Zb 3))) Zab))) (Zn (Zx ZaU)))
theorem Zsf{f:Addr}{fd:P6}(F:Fun K "is_too_long" "is_too_long" Zdz f fd)(hm:mg "is_too_long" = some (.ref f))(hb:Binds K fd ["words"] [])(b_len:mg "len" = none){t_MOST_WORDS:Tok}(c_MOST_WORDS:mg "MOST_WORDS" = some (Value.int 6 t_MOST_WORDS)):FnAt P w K mg base "is_too_long" 1 Zdg :=
 fnAt (k:=0) F Zps hm hb fun cdv A outer s H E hr=>(Zn (Zx (ZbX Ze9 (Zao Zan rfl b_len YY (Zd (Zb 0) Zh)) (ZeX (v:=.int 6) rfl c_MOST_WORDS ⟨_,rfl⟩ (fun _ _=>Rep.int_i.mpr rfl)))))
theorem Zl5{f:Addr}{fd:P6}(F:Fun K "led" "led" Zdb f fd)(hm:mg "led" = some (.ref f))(hb:Binds K fd ["place", "steps"] [])(b_len:mg "len" = none)(b_list:mg "list" = none)(b_tuple:mg "tuple" = none)(hzis_too_long:FnAt P w K mg base "is_too_long" 1 Zdg):FnAt P w K mg base "led" 2 Zcp :=
 fnAt (k:=1) F sczled hm hb fun cdv A outer s H E hr=>(Zo (Zc2 2 sczled.nd rfl (.inl rfl) (Zpw Zm2 rfl b_list PyProof.Rows.boot_list (Zd (Zb 0) Zh))) (Zo (ZbR WV rfl (Zbb (Zb 1)) (Zbd 3 sczled.nd rfl (.inl rfl)) (Zn (Z2 (ZK (ZaN hr.units) (Zb 3) ZT) (Zo (Z2 (ZK (ZaN hr.units) (Zao Zan rfl b_len YY (Zd (Zb 2) Zh)) Zs) (Zn (Zx ZaU)) Zab) (Zn (Zby (ZnB (Zb 2))))) (Zn (Z2 (ZK (Zbl hr.units) (Zb 3) ZT) (Zo (Zby (Zep (Zb 2) (Zb 3))) (Zn (Z2 (Zcl (Zz hzis_too_long hr (by decide) rfl (Zd (Zb 2) Zh))) (Zn (Zx ZaU)) Zab))) Zab))))) (Zn (Zx (Zd3 ZgU rfl b_tuple Vr (Zd (Zb 2) Zh))))))
theorem Zn4{f:Addr}{fd:P6}(F:Fun K "goal_of" "goal_of" ZcQ f fd)(hm:mg "goal_of" = some (.ref f))(hb:Binds K fd ["link", "place"] [])(hzled:FnAt P w K mg base "led" 2 Zcp):FnAt P w K mg base "goal_of" 3 Zbj :=
 fnAt (k:=2) F ZpH hm hb fun cdv A outer s H E hr=>(Zn (Zx (Zlm (ZK (ZaN hr.units) (Z4 (Zb 0) Zs) ZT) ZaU (Zz hzled hr (by decide) rfl (Zd (Zb 1) (Zd (Z4 (Zb 0) Zs) Zh))))))
theorem Zmq{f:Addr}{fd:P6}(F:Fun K "next_places" "next_places" Zda f fd)(hm:mg "next_places" = some (.ref f))(hb:Binds K fd ["links", "place"] [])(hzgoal_of:FnAt P w K mg base "goal_of" 3 Zbj)(hzlink_at:FnAt P w K mg base "link_at" 2 ZbV)(hzwords_at:FnAt P w K mg base "words_at" 2 Zdo):FnAt P w K mg base "next_places" 4 ZaG :=
 fnAt (k:=3) F scznext_places hm hb fun cdv A outer s H E hr=>(Zo (Zc2 2 scznext_places.nd rfl (.inl rfl) (Zaz Zh)) (Zo (ZbR WV rfl (Zbb (Zz hzwords_at hr (by decide) rfl (Zd (Zb 0) (Zd (Zb 1) Zh)))) (Zbd 3 scznext_places.nd rfl (.inl rfl)) (Zo (ZS 4 scznext_places.nd rfl (.inl rfl) (Zz hzgoal_of hr (by decide) rfl (Zd (Zz hzlink_at hr (by decide) rfl (Zd (Zb 0) (Zd (Zb 1) (Zd (Zb 3) Zh)))) (Zd (Zb 1) Zh)))) (Zn (Z2 (ZK ZjH (Zb 4) ZaU) (Zn (Zby (Zep (Zb 2) (Zak (Zd (Zb 3) (Zd (Zb 4) Zh)))))) Zab)))) (Zn (Zx (Zb 2)))))
theorem ZrS{f:Addr}{fd:P6}(F:Fun K "ways_from" "ways_from" Zc0 f fd)(hm:mg "ways_from" = some (.ref f))(hb:Binds K fd ["links", "start", "goal"] [])(b_len:mg "len" = none)(hznext_places:FnAt P w K mg base "next_places" 4 ZaG):FnAt P w K mg base "ways_from" 5 ZaS :=
 fnAt (k:=4) F sczways_from hm hb fun cdv A outer s H E hr=>(Zo (ZS 3 sczways_from.nd rfl (.inl rfl) (Zmt hr.units (Zb 1) (Zak Zh))) (Zo (ZS 4 sczways_from.nd rfl (.inl rfl) (Zaa (Zaz (Zd (Zb 1) Zh)))) (Zo (Zo1 130 WV (PDW.pt (ZiS (ZK Ze9 (Zao Zan rfl b_len YY (Zd (Zb 4) Zh)) Zs) (ZhN (ZK (ZkI hr.units) (Zb 2) (Zb 3))))) (Zo (Zc2 5 sczways_from.nd rfl (.inl rfl) (Zaz Zh)) (Zo (ZbR WV rfl (Zbb (Zb 4)) (Zbd 6 sczways_from.nd rfl (.inl rfl)) (Zn (ZbR WV rfl (Zbb (Zz hznext_places hr (by decide) rfl (Zd (Zb 0) (Zd (Zb 6) Zh)))) (Zd9 rfl (ZbW 7 sczways_from.nd rfl (.inl rfl) (ZbW 8 sczways_from.nd rfl (.inl rfl) ZeK))) (Zn (Z2 (ZK (ZkI hr.units) (Zb 8) (Zb 3)) (Zo (Zma hr.units (Zb 3) (Zb 8) (Zy Zad (ZoN hr.units (Zb 3) (Zb 6)) (Zak (Zd (Zb 7) Zh)))) (Zn (Zby (Zep (Zb 5) (Zb 8))))) Zab))))) (Zn (ZS 4 sczways_from.nd rfl (.inl rfl) (Zb 5)))))) (Zn (Zx (Zb 3))))))
theorem Zqz{f:Addr}{fd:P6}(F:Fun K "reached" "reached" ZcK f fd)(hm:mg "reached" = some (.ref f))(hb:Binds K fd ["links", "start"] [])(b_sorted:mg "sorted" = none)(hzways_from:FnAt P w K mg base "ways_from" 5 ZaS):FnAt P w K mg base "reached" 6 ZaA :=
 fnAt (k:=5) F Zsp hm hb fun cdv A outer s H E hr=>(Zn (Zx (Zaa (Zph (ZoH rfl (Zsn hr.units)) rfl b_sorted Vi (Zd (Zz hzways_from hr (by decide) rfl (Zd (Zb 0) (Zd (Zb 1) (Zd ZaU Zh)))) Zh)))))
theorem ZoS{f:Addr}{fd:P6}(F:Fun K "shortest" "shortest" ZdA f fd)(hm:mg "shortest" = some (.ref f))(hb:Binds K fd ["links", "start", "goal"] [])(hzways_from:FnAt P w K mg base "ways_from" 5 ZaS):FnAt P w K mg base "shortest" 6 Z8 :=
 fnAt (k:=5) F ZnG hm hb fun cdv A outer s H E hr=>(Zn (Zx (ZsO hr.units (Zz hzways_from hr (by decide) rfl (Zd (Zb 0) (Zd (Zb 1) (Zd (Zb 2) Zh)))) (Zb 2))))
theorem Zmn{f:Addr}{fd:P6}(F:Fun K "__init__" "Book.__init__" ZcE f fd)(hm:Mk K (cv 0) f)(hb:Binds K fd ["self", "place", "most"] [])(hx:mg "Book" = some (.ref (cv 0))){t_NO_MARK:Tok}(c_NO_MARK:mg "NO_MARK" = some (Value.int 0 t_NO_MARK))(cl_Book:Cls K (cv 0))(na_Book_most:NoAttr K (cv 0) "most")(na_Book_rows:NoAttr K (cv 0) "rows")(na_Book_spot:NoAttr K (cv 0) "spot"):MkAt P w K mg base "Book" (cv 0) 1 (Zdm cv) :=
 ZjW (k:=0) F Zoe hm hb hx fun cdv A outer s H E hr=>(Zo (Zdl (Zb 0) (Zb 2) cl_Book na_Book_most) (Zo (Zpz (Zb 0) (Zaz (Zd (Zak (Zd (Zb 1) (Zd (ZeX (v:=.int 0) rfl c_NO_MARK ⟨_,rfl⟩ (fun _ _=>Rep.int_i.mpr rfl)) Zh))) Zh)) cl_Book na_Book_rows) (Zn (Zdl (Zb 0) Zs cl_Book na_Book_spot))))
theorem ZoQ{f:Addr}{fd:P6}(F:Fun K "__init__" "BookHolder.__init__" Zc1 f fd)(hc:CFn K (cv 6) "__init__" f)(hb:Binds K fd ["self", "place", "most"] [])(hx:mg "BookHolder" = some (.ref (cv 6)))(cl_Presser:Cls K (cv 4))(na_Presser_book:NoAttr K (cv 4) "book")(hzBook___init__:MkAt P w K mg base "Book" (cv 0) 1 (Zdm cv)):CfAt P w K mg base "BookHolder" (cv 6) "__init__" 3 (ZcT cv) :=
 Zr2 (k:=2) F ZqP hc hb hx fun cdv A outer s H E hr=>(Zn (Zdl (Zb 0) (ZhB hzBook___init__ hr (by decide) rfl (Zd (Zb 1) (Zd (Zb 2) Zh))) cl_Presser na_Presser_book))
theorem Zoc{f:Addr}{fd:P6}(F:Fun K "__init__" "Presser.__init__" Zds f fd)(hm:Mk K (cv 4) f)(hb:Binds K fd ["self", "links", "place", "most"] [])(hx:mg "Presser" = some (.ref (cv 4)))(cl_Presser:Cls K (cv 4))(na_Presser_links:NoAttr K (cv 4) "links")(hzPresser_of_BookHolder___init__:CfAt P w K mg base "BookHolder" (cv 6) "__init__" 3 (ZcT cv)):MkAt P w K mg base "Presser" (cv 4) 4 (Zcs cv) :=
 ZjW (k:=3) F Zo0 hm hb hx fun cdv A outer s H E hr=>(Zo (Zby (Zsa hzPresser_of_BookHolder___init__ hr (by decide) rfl (Zd (Zb 0) (Zd (Zb 2) (Zd (Zb 3) Zh))))) (Zn (Zdl (Zb 0) (Zb 1) cl_Presser na_Presser_links)))
theorem ZrQ{f:Addr}{fd:P6}(F:Fun K "now" "Book.now" Zdc f fd)(hm:Meth K (cv 0) "now" f)(hb:Binds K fd ["self"] [])(cl_Book:Cls K (cv 0))(na_Book_rows:NoAttr K (cv 0) "rows")(na_Book_spot:NoAttr K (cv 0) "spot"):MtAt P w K mg base (cv 0) "now" 1 (ZcC cv) :=
 Zba (k:=0) F ZmA hm hb fun cdv A outer s H E hr=>(Zn (Zx (Z4 (Z4 (Zaj (Zb 0) cl_Book na_Book_rows) (Zaj (Zb 0) cl_Book na_Book_spot)) Zs)))
theorem ZsJ{f:Addr}{fd:P6}(F:Fun K "now" "BookHolder.now" Zc4 f fd)(hm:Meth K (cv 4) "now" f)(hb:Binds K fd ["self"] [])(cl_Book:Cls K (cv 0))(cl_Presser:Cls K (cv 4))(na_Presser_book:NoAttr K (cv 4) "book")(hzBook_now:MtAt P w K mg base (cv 0) "now" 1 (ZcC cv)):MtAt P w K mg base (cv 4) "now" 2 (Zae cv) :=
 Zba (k:=1) F Zn1 hm hb fun cdv A outer s H E hr=>(Zn (Zx (Zca hzBook_now cl_Book hr (by decide) (Zaj (Zb 0) cl_Presser na_Presser_book))))
theorem Zm5{f:Addr}{fd:P6}(F:Fun K "can_go" "Book.can_go" ZcB f fd)(hm:Meth K (cv 0) "can_go" f)(hb:Binds K fd ["self", "by"] [])(b_len:mg "len" = none)(cl_Book:Cls K (cv 0))(na_Book_rows:NoAttr K (cv 0) "rows")(na_Book_spot:NoAttr K (cv 0) "spot"):MtAt P w K mg base (cv 0) "can_go" 1 (Zb4 cv) :=
 Zba (k:=0) F Znt hm hb fun cdv A outer s H E hr=>(Zn (Zx (ZmM Zp0 ZnR Zs (Zy Zad (Zaj (Zb 0) cl_Book na_Book_spot) (Zb 1)) (Zao Zan rfl b_len YY (Zd (Zaj (Zb 0) cl_Book na_Book_rows) Zh)))))
theorem Zmy{f:Addr}{fd:P6}(F:Fun K "place_at" "Book.place_at" ZcR f fd)(hm:Meth K (cv 0) "place_at" f)(hb:Binds K fd ["self", "by"] [])(cl_Book:Cls K (cv 0))(na_Book_rows:NoAttr K (cv 0) "rows")(na_Book_spot:NoAttr K (cv 0) "spot")(hzBook_can_go:MtAt P w K mg base (cv 0) "can_go" 1 (Zb4 cv)):MtAt P w K mg base (cv 0) "place_at" 2 (ZcG cv) :=
 Zba (k:=1) F ZlY hm hb fun cdv A outer s H E hr=>(Zo (Z2 (Zey (Zcl (ZbC hzBook_can_go cl_Book hr (by decide) (Zb 0) (Zd (Zb 1) Zh)))) (Zn Zqy) Zab) (Zn (Zx (Z4 (Z4 (Zaj (Zb 0) cl_Book na_Book_rows) (Zy Zad (Zaj (Zb 0) cl_Book na_Book_spot) (Zb 1))) Zs))))
theorem Zqv{f:Addr}{fd:P6}(F:Fun K "go" "Book.go" Zc6 f fd)(hm:Meth K (cv 0) "go" f)(hb:Binds K fd ["self", "by"] [])(cl_Book:Cls K (cv 0))(na_Book_spot:NoAttr K (cv 0) "spot")(hzBook_place_at:MtAt P w K mg base (cv 0) "place_at" 2 (ZcG cv)):MtAt P w K mg base (cv 0) "go" 3 (Zc5 cv) :=
 Zba (k:=2) F sczBook_go hm hb fun cdv A outer s H E hr=>(Zo (ZS 2 sczBook_go.nd rfl (.inl rfl) (ZbC hzBook_place_at cl_Book hr (by decide) (Zb 0) (Zd (Zb 1) Zh))) (Zo (ZlZ (Zb 0) (Zb 1) cl_Book na_Book_spot) (Zn (Zx (Zb 2)))))
theorem ZqS{f:Addr}{fd:P6}(F:Fun K "try_go" "Presser.try_go" Zdu f fd)(hm:Meth K (cv 4) "try_go" f)(hb:Binds K fd ["self", "by"] [])(cl_Book:Cls K (cv 0))(cl_Presser:Cls K (cv 4))(na_Presser_book:NoAttr K (cv 4) "book")(hzBook_can_go:MtAt P w K mg base (cv 0) "can_go" 1 (Zb4 cv))(hzBook_go:MtAt P w K mg base (cv 0) "go" 3 (Zc5 cv)):MtAt P w K mg base (cv 4) "try_go" 4 (Zcg cv) :=
 Zba (k:=3) F ZmN hm hb fun cdv A outer s H E hr=>(Zo (Z2 (Zey (Zcl (ZbC hzBook_can_go cl_Book hr (by decide) (Zaj (Zb 0) cl_Presser na_Presser_book) (Zd (Zb 1) Zh)))) (Zn (Zx ZaP)) Zab) (Zo (Zby (ZbC hzBook_go cl_Book hr (by decide) (Zaj (Zb 0) cl_Presser na_Presser_book) (Zd (Zb 1) Zh))) (Zn (Zx ZaP))))
theorem Zpp{f:Addr}{fd:P6}(F:Fun K "visit" "Book.visit" Zdh f fd)(hm:Meth K (cv 0) "visit" f)(hb:Binds K fd ["self", "place"] [])(b_len:mg "len" = none){t_NO_MARK:Tok}(c_NO_MARK:mg "NO_MARK" = some (Value.int 0 t_NO_MARK))(cl_Book:Cls K (cv 0))(na_Book_most:NoAttr K (cv 0) "most")(na_Book_rows:NoAttr K (cv 0) "rows")(na_Book_spot:NoAttr K (cv 0) "spot"):MtAt P w K mg base (cv 0) "visit" 1 (Zd1 cv) :=
 Zba (k:=0) F sczBook_visit hm hb fun cdv A outer s H E hr=>(Zo (Zc2 2 sczBook_visit.nd rfl (.inl rfl) (Zlj Zqu (Zaa (Zjg ZiA (Zaj (Zb 0) cl_Book na_Book_rows) Ze2 (ZeG (Zy Zad (Zaj (Zb 0) cl_Book na_Book_spot) Zs)))) (Zaa (Zaz (Zd (Zak (Zd (Zb 1) (Zd (ZeX (v:=.int 0) rfl c_NO_MARK ⟨_,rfl⟩ (fun _ _=>Rep.int_i.mpr rfl)) Zh))) Zh))))) (Zo (Z2 (ZK Ze9 (Zao Zan rfl b_len YY (Zd (Zb 2) Zh)) (Zaj (Zb 0) cl_Book na_Book_most)) (Zn (Zc2 2 sczBook_visit.nd rfl (.inl rfl) (Zjg ZiA (Zb 2) (ZeG Zs) Ze2))) Zab) (Zo (Zdl (Zb 0) (Zb 2) cl_Book na_Book_rows) (Zn (Zdl (Zb 0) (Zy ZgO (Zao Zan rfl b_len YY (Zd (Zb 2) Zh)) Zs) cl_Book na_Book_spot)))))
theorem Zlr{f:Addr}{fd:P6}(F:Fun K "replace" "Book.replace" ZcH f fd)(hm:Meth K (cv 0) "replace" f)(hb:Binds K fd ["self", "place"] []){t_NO_MARK:Tok}(c_NO_MARK:mg "NO_MARK" = some (Value.int 0 t_NO_MARK))(cl_Book:Cls K (cv 0))(na_Book_rows:NoAttr K (cv 0) "rows")(na_Book_spot:NoAttr K (cv 0) "spot"):MtAt P w K mg base (cv 0) "replace" 1 (Zc3 cv) :=
 Zba (k:=0) F Zrh hm hb fun cdv A outer s H E hr=>(Zn (ZkW (Zaj (Zb 0) cl_Book na_Book_rows) (Zaj (Zb 0) cl_Book na_Book_spot) (Zak (Zd (Zb 1) (Zd (ZeX (v:=.int 0) rfl c_NO_MARK ⟨_,rfl⟩ (fun _ _=>Rep.int_i.mpr rfl)) Zh)))))
theorem ZqC{f:Addr}{fd:P6}(F:Fun K "try_lead" "Presser.try_lead" ZcY f fd)(hm:Meth K (cv 4) "try_lead" f)(hb:Binds K fd ["self", "link"] [])(cl_Book:Cls K (cv 0))(cl_Presser:Cls K (cv 4))(na_Presser_book:NoAttr K (cv 4) "book")(hzBook_replace:MtAt P w K mg base (cv 0) "replace" 1 (Zc3 cv))(hzBook_visit:MtAt P w K mg base (cv 0) "visit" 1 (Zd1 cv))(hzPresser_now:MtAt P w K mg base (cv 4) "now" 2 (Zae cv))(hzgoal_of:FnAt P w K mg base "goal_of" 3 Zbj):MtAt P w K mg base (cv 4) "try_lead" 4 (Zb5 cv) :=
 Zba (k:=3) F sczPresser_try_lead hm hb fun cdv A outer s H E hr=>(Zo (ZS 2 sczPresser_try_lead.nd rfl (.inl rfl) (Zz hzgoal_of hr (by decide) rfl (Zd (Zb 1) (Zd (Zca hzPresser_now cl_Presser hr (by decide) (Zb 0)) Zh)))) (Zo (Z2 (ZK ZeA (Zb 2) ZaU) (Zn (Zx ZaP)) Zab) (Zo (Z2 (ZK (ZaN hr.units) (Z4 (Zb 1) Zs) ZT) (Zn (Zby (ZbC hzBook_visit cl_Book hr (by decide) (Zaj (Zb 0) cl_Presser na_Presser_book) (Zd (Zb 2) Zh)))) (Zn (Zby (ZbC hzBook_replace cl_Book hr (by decide) (Zaj (Zb 0) cl_Presser na_Presser_book) (Zd (Zb 2) Zh))))) (Zn (Zx ZaP)))))
theorem Zoa{f:Addr}{fd:P6}(F:Fun K "press" "Presser.press" ZcM f fd)(hm:Meth K (cv 4) "press" f)(hb:Binds K fd ["self", "word"] [])(cl_Presser:Cls K (cv 4))(na_Presser_links:NoAttr K (cv 4) "links")(hzPresser_now:MtAt P w K mg base (cv 4) "now" 2 (Zae cv))(hzPresser_try_go:MtAt P w K mg base (cv 4) "try_go" 4 (Zcg cv))(hzPresser_try_lead:MtAt P w K mg base (cv 4) "try_lead" 4 (Zb5 cv))(hzlink_at:FnAt P w K mg base "link_at" 2 ZbV):MtAt P w K mg base (cv 4) "press" 5 (ZaR cv) :=
 Zba (k:=4) F sczPresser_press hm hb fun cdv A outer s H E hr=>(Zo (ZS 2 sczPresser_press.nd rfl (.inl rfl) (Zz hzlink_at hr (by decide) rfl (Zd (Zaj (Zb 0) cl_Presser na_Presser_links) (Zd (Zca hzPresser_now cl_Presser hr (by decide) (Zb 0)) (Zd (Zb 1) Zh))))) (Zo (Z2 (ZK ZeA (Zb 2) ZaU) (Zn (Zx ZaP)) Zab) (Zo (Z2 (ZK (ZaN hr.units) (Z4 (Zb 2) Zs) ZT) (Zn (Zx (ZbC hzPresser_try_go cl_Presser hr (by decide) (Zb 0) (Zd (Z4 (Zb 2) Zs) Zh)))) Zab) (Zn (Zx (ZbC hzPresser_try_lead cl_Presser hr (by decide) (Zb 0) (Zd (Zb 2) Zh)))))))
theorem Zqd{f:Addr}{fd:P6}(F:Fun K "leads_on" "leads_on" Zcn f fd)(hm:mg "leads_on" = some (.ref f))(hb:Binds K fd ["links", "place"] [])(b_any:mg "any" = none)(hznext_places:FnAt P w K mg base "next_places" 4 ZaG):FnAt P w K mg base "leads_on" 5 ZdB :=
 fnAt (k:=4) F Znf hm hb fun cdv A outer s H E hr=>(Zn (Zx (Zao (ZmT rfl) rfl b_any PyProof.Rows.boot_any (Zd (Zaa (Zdx rfl ⟨Blk.of (N:=["word", "goal", "place"]) (caps:=[1]) (nT:=2) (by show Zb1 (Zf Zcn) _ ["links", "place"] _ _ _=true; decide +kernel),fun _ _ _ _=>(Zd9 rfl (ZbW 0 (by show (["word", "goal", "place"]:List Str).Nodup; decide +kernel) rfl (.inl rfl) (ZbW 1 (by show (["word", "goal", "place"]:List Str).Nodup; decide +kernel) rfl (.inl rfl) ZeK))),fun _ _ _ _=>ZgB,fun _ _ _ _=>(ZbX (Zbl hr.units) (Zb 1) (Zb 2))⟩ (Zbb (Zz hznext_places hr (by decide) rfl (Zd (Zb 0) (Zd (Zb 1) Zh)))))) Zh))))
theorem Zq0{f:Addr}{fd:P6}(F:Fun K "dead_ends" "dead_ends" Zct f fd)(hm:mg "dead_ends" = some (.ref f))(hb:Binds K fd ["links", "start"] [])(hzleads_on:FnAt P w K mg base "leads_on" 5 ZdB)(hzreached:FnAt P w K mg base "reached" 6 ZaA):FnAt P w K mg base "dead_ends" 7 Zb7 :=
 fnAt (k:=6) F Zqq hm hb fun cdv A outer s H E hr=>(Zn (Zx (Zaa (Zdx rfl ⟨Blk.of (N:=["place", "links"]) (caps:=[0]) (nT:=1) (by show Zb1 (Zf Zct) _ ["links", "start"] _ _ _=true; decide +kernel),fun _ _ _ _=>(Zbd 0 (by show (["place", "links"]:List Str).Nodup; decide +kernel) rfl (.inl rfl)),fun _ _ _ _=>Zg1 (Zey (Zcl (Zz hzleads_on hr (by decide) rfl (Zd (Zb 1) (Zd (Zb 0) Zh))))),fun _ _ _ _=>(Zb 0)⟩ (Zbb (Zz hzreached hr (by decide) rfl (Zd (Zb 0) (Zd (Zb 1) Zh))))))))
noncomputable abbrev Nzlaw:List Str:=["_law_script", "_law_links", "_law_start", "_law_every", "_law_goal", "_law_told", "_law_presser", "_law_seen", "_law_at", "_law_word", "_law_rest", "_law_there", "_law_ends"]
theorem ZqB(hz_law_few:FnAt P w K mg base "_law_few" 3 Zb6)(fA:Addr)(cdv:P7)(A:P4)(outer:List Env)(s:P1)(H:Hp)(E:XK)(hr:Room 7 (A.deeper (PyProof.Rows.envOfC "law" (Zf Zq) s.heap.objs.size fA cdv))):PDs (ZP CX0 P w K mg base Nzlaw "law" (Zf Zq) fA cdv A outer s H E).nox EX0 ZjU ZfO:=(ZS 1 sczlaw.nd rfl (.inr rfl) (Zjd Zhv (Zz hz_law_few hr (by decide) rfl (Zd (Zb 0) (Zd Zs Zh))) Ze2 (ZeG Zs)))
theorem ZmL(b_range:mg "range" = none)(b_tuple:mg "tuple" = none)(hz_law_drawn:FnAt P w K mg base "_law_drawn" 2 Zah)(fA:Addr)(cdv:P7)(A:P4)(outer:List Env)(s:P1)(H:Hp)(E:XK)(hr:Room 7 (A.deeper (PyProof.Rows.envOfC "law" (Zf Zq) s.heap.objs.size fA cdv))):PDs (ZP CX0 P w K mg base Nzlaw "law" (Zf Zq) fA cdv A outer s H E).nox EX0 Ziz Zgn:=(ZS 2 sczlaw.nd rfl (.inl rfl) (Zd3 ZgU rfl b_tuple Vr (Zd (Zaa (Zdx rfl ⟨Blk.of (N:=["_law_k", "_law_script"]) (caps:=[0]) (nT:=1) (by show Zb1 (Zf Zq) _ Nzlaw _ _ _=true; decide +kernel),fun _ _ _ _=>(Zbd 0 (by show (["_law_k", "_law_script"]:List Str).Nodup; decide +kernel) rfl (.inl rfl)),fun _ _ _ _=>ZgB,fun _ _ _ _=>(Z4 ZT (Zz hz_law_drawn hr (by decide) rfl (Zd (Zb 1) (Zd (Zy Zad Zs (Zb 0)) (Zd Zs Zh)))))⟩ (Zfq rfl b_range (Zd (Zz hz_law_drawn hr (by decide) rfl (Zd (Zb 0) (Zd Zs (Zd Zs Zh)))) Zh)))) Zh)))
theorem Zna(hzreached:FnAt P w K mg base "reached" 6 ZaA)(fA:Addr)(cdv:P7)(A:P4)(outer:List Env)(s:P1)(H:Hp)(E:XK)(hr:Room 7 (A.deeper (PyProof.Rows.envOfC "law" (Zf Zq) s.heap.objs.size fA cdv))):PDs (ZP CX0 P w K mg base Nzlaw "law" (Zf Zq) fA cdv A outer s H E).nox EX0 Zhw Zg3:=(ZS 3 sczlaw.nd rfl (.inl rfl) (Zz hzreached hr (by decide) rfl (Zd (Zb 1) (Zd (Zb 2) Zh))))
theorem ZnK(b_set:mg "set" = none)(b_sorted:mg "sorted" = none)(hzshortest:FnAt P w K mg base "shortest" 6 Z8)(fA:Addr)(cdv:P7)(A:P4)(outer:List Env)(s:P1)(H:Hp)(E:XK)(hr:Room 7 (A.deeper (PyProof.Rows.envOfC "law" (Zf Zq) s.heap.objs.size fA cdv))):PDs (ZP CX0 P w K mg base Nzlaw "law" (Zf Zq) fA cdv A outer s H E).nox EX0 Zis Ze5:=(Z2 (PDW.pt (Zcc (ZK (Zfx hr.units) (Zb 2) (Zb 3)) (Zcc (ZK (Zbl hr.units) (Zb 3) (Zaa (ZlA rfl hr.units rfl b_sorted Vi rfl b_set VR (Zd (Zb 3) Zh)))) (ZcS (ZK (Zbl hr.units) (Zz hzshortest hr (by decide) rfl (Zd (Zb 1) (Zd (Zb 2) (Zd (Zb 2) Zh)))) (Zak Zh)))))) (Zn (Zx ZaP)) Zab)
theorem ZlN(b_len:mg "len" = none)(hz_law_drawn:FnAt P w K mg base "_law_drawn" 2 Zah)(fA:Addr)(cdv:P7)(A:P4)(outer:List Env)(s:P1)(H:Hp)(E:XK)(hr:Room 7 (A.deeper (PyProof.Rows.envOfC "law" (Zf Zq) s.heap.objs.size fA cdv))):PDs (ZP CX0 P w K mg base Nzlaw "law" (Zf Zq) fA cdv A outer s H E).nox EX0 ZhV ZfP:=(ZS 4 sczlaw.nd rfl (.inl rfl) (Z4 (Zb 3) (Zz hz_law_drawn hr (by decide) rfl (Zd (Zb 0) (Zd Zs (Zd (Zao Zan rfl b_len YY (Zd (Zb 3) Zh)) Zh))))))
theorem ZkS(hzshortest:FnAt P w K mg base "shortest" 6 Z8)(fA:Addr)(cdv:P7)(A:P4)(outer:List Env)(s:P1)(H:Hp)(E:XK)(hr:Room 7 (A.deeper (PyProof.Rows.envOfC "law" (Zf Zq) s.heap.objs.size fA cdv))):PDs (ZP CX0 P w K mg base Nzlaw "law" (Zf Zq) fA cdv A outer s H E).nox EX0 Zjr ZfW:=(ZS 5 sczlaw.nd rfl (.inl rfl) (Zz hzshortest hr (by decide) rfl (Zd (Zb 1) (Zd (Zb 2) (Zd (Zb 4) Zh)))))
theorem Zr0(hzshortest:FnAt P w K mg base "shortest" 6 Z8)(fA:Addr)(cdv:P7)(A:P4)(outer:List Env)(s:P1)(H:Hp)(E:XK)(hr:Room 7 (A.deeper (PyProof.Rows.envOfC "law" (Zf Zq) s.heap.objs.size fA cdv))):PDs (ZP CX0 P w K mg base Nzlaw "law" (Zf Zq) fA cdv A outer s H E).nox EX0 ZjL Zeb:=(Z2 (PDW.pt (Zcc (ZK ZeA (Zb 5) ZaU) (ZcS (ZK ZjH (Zz hzshortest hr (by decide) rfl (Zd (Zb 1) (Zd (Zb 2) (Zd (Zak (Zd ZT Zh)) Zh)))) ZaU)))) (Zn (Zx ZaP)) Zab)
theorem ZmO(hzPresser___init__:MkAt P w K mg base "Presser" (cv 4) 4 (Zcs cv))(fA:Addr)(cdv:P7)(A:P4)(outer:List Env)(s:P1)(H:Hp)(E:XK)(hr:Room 7 (A.deeper (PyProof.Rows.envOfC "law" (Zf Zq) s.heap.objs.size fA cdv))):PDs (ZP CX0 P w K mg base Nzlaw "law" (Zf Zq) fA cdv A outer s H E).nox EX0 ZhA (ZgV cv):=(ZS 6 sczlaw.nd rfl (.inl rfl) (ZhB hzPresser___init__ hr (by decide) rfl (Zd (Zb 1) (Zd (Zb 2) (Zd Zs Zh)))))
theorem Zri  (fA:Addr) (cdv:P7) (A:P4) (outer:List Env) (s:P1) (H:Hp) (E:XK) (hr:Room 7 (A.deeper (PyProof.Rows.envOfC "law" (Zf Zq) s.heap.objs.size fA cdv))):PDs (ZP CX0 P w K mg base Nzlaw "law" (Zf Zq) fA cdv A outer s H E).nox EX0 Zjc Zge:=(Zc2 7 sczlaw.nd rfl (.inl rfl) (Zaz (Zd (Zb 2) Zh)))
theorem Zo4(b_enumerate:mg "enumerate" = none)(b_len:mg "len" = none)(cl_Presser:Cls K (cv 4))(hzPresser_now:MtAt P w K mg base (cv 4) "now" 2 (Zae cv))(hzPresser_press:MtAt P w K mg base (cv 4) "press" 5 (ZaR cv))(hzshortest:FnAt P w K mg base "shortest" 6 Z8)(fA:Addr)(cdv:P7)(A:P4)(outer:List Env)(s:P1)(H:Hp)(E:XK)(hr:Room 7 (A.deeper (PyProof.Rows.envOfC "law" (Zf Zq) s.heap.objs.size fA cdv))):PDs (ZP CX0 P w K mg base Nzlaw "law" (Zf Zq) fA cdv A outer s H E).nox EX0 Zhx (Zgq cv):=(ZbR WV rfl (ZoW rfl b_enumerate (Zb 5)) (Zd9 rfl (ZbW 8 sczlaw.nd rfl (.inl rfl) (ZbW 9 sczlaw.nd rfl (.inl rfl) ZeK))) (Zo (Z2 (PDW.pt (Zcc (Zey (Zcl (ZbC hzPresser_press cl_Presser hr (by decide) (Zb 6) (Zd (Zb 9) Zh)))) (ZcS (ZK (Zfx hr.units) (Zca hzPresser_now cl_Presser hr (by decide) (Zb 6)) (Zb 3))))) (Zn (Zx ZaP)) Zab) (Zo (Zby (Zep (Zb 7) (Zca hzPresser_now cl_Presser hr (by decide) (Zb 6)))) (Zo (ZS 10 sczlaw.nd rfl (.inl rfl) (Zz hzshortest hr (by decide) rfl (Zd (Zb 1) (Zd (Zca hzPresser_now cl_Presser hr (by decide) (Zb 6)) (Zd (Zb 4) Zh))))) (Zn (Z2 (PDW.pt (Zcc (ZK ZeA (Zb 10) ZaU) (ZcS (ZK (Zbl hr.units) (Zao Zan rfl b_len YY (Zd (Zb 10) Zh)) (Zy ZgO (Zy ZgO (Zao Zan rfl b_len YY (Zd (Zb 5) Zh)) (Zb 8)) Zs))))) (Zn (Zx ZaP)) Zab))))))
theorem ZkX(b_len:mg "len" = none)(b_set:mg "set" = none)(cl_Presser:Cls K (cv 4))(hzPresser_now:MtAt P w K mg base (cv 4) "now" 2 (Zae cv))(fA:Addr)(cdv:P7)(A:P4)(outer:List Env)(s:P1)(H:Hp)(E:XK)(hr:Room 7 (A.deeper (PyProof.Rows.envOfC "law" (Zf Zq) s.heap.objs.size fA cdv))):PDs (ZP CX0 P w K mg base Nzlaw "law" (Zf Zq) fA cdv A outer s H E).nox EX0 Zj2 (Zfa cv):=(Z2 (PDW.pt (Zcc (ZK (Zbl hr.units) (Zca hzPresser_now cl_Presser hr (by decide) (Zb 6)) (Zb 4)) (ZcS (ZK (Zbl hr.units) (ZrF rfl hr.units rfl b_len YY rfl b_set VR (Zd (Zb 7) Zh)) (Zao Zan rfl b_len YY (Zd (Zb 7) Zh)))))) (Zn (Zx ZaP)) Zab)
theorem Zle(b_len:mg "len" = none)(hznext_places:FnAt P w K mg base "next_places" 4 ZaG)(hzshortest:FnAt P w K mg base "shortest" 6 Z8)(fA:Addr)(cdv:P7)(A:P4)(outer:List Env)(s:P1)(H:Hp)(E:XK)(hr:Room 7 (A.deeper (PyProof.Rows.envOfC "law" (Zf Zq) s.heap.objs.size fA cdv))):PDs (ZP CX0 P w K mg base Nzlaw "law" (Zf Zq) fA cdv A outer s H E).nox EX0 Zi6 Zfb:=(ZbR WV rfl (Zbb (Zz hznext_places hr (by decide) rfl (Zd (Zb 1) (Zd (Zb 4) Zh)))) (Zd9 rfl (ZbW 9 sczlaw.nd rfl (.inl rfl) (ZbW 11 sczlaw.nd rfl (.inl rfl) ZeK))) (Zn (Z2 (PDW.pt (Zcc (ZK (Zfx hr.units) (Zb 11) (Zb 3)) (ZcS (ZK Ze9 (Zao Zan rfl b_len YY (Zd (Zz hzshortest hr (by decide) rfl (Zd (Zb 1) (Zd (Zb 2) (Zd (Zb 11) Zh)))) Zh)) (Zy Zad (Zao Zan rfl b_len YY (Zd (Zb 5) Zh)) Zs))))) (Zn (Zx ZaP)) Zab)))
theorem ZnJ(hzdead_ends:FnAt P w K mg base "dead_ends" 7 Zb7)(fA:Addr)(cdv:P7)(A:P4)(outer:List Env)(s:P1)(H:Hp)(E:XK)(hr:Room 7 (A.deeper (PyProof.Rows.envOfC "law" (Zf Zq) s.heap.objs.size fA cdv))):PDs (ZP CX0 P w K mg base Nzlaw "law" (Zf Zq) fA cdv A outer s H E).nox EX0 Zkb Zfr:=(ZS 12 sczlaw.nd rfl (.inl rfl) (Zz hzdead_ends hr (by decide) rfl (Zd (Zb 1) (Zd (Zb 2) Zh))))
theorem ZkR(hzreached:FnAt P w K mg base "reached" 6 ZaA)(fA:Addr)(cdv:P7)(A:P4)(outer:List Env)(s:P1)(H:Hp)(E:XK)(hr:Room 7 (A.deeper (PyProof.Rows.envOfC "law" (Zf Zq) s.heap.objs.size fA cdv))):PDs (ZP CX0 P w K mg base Nzlaw "law" (Zf Zq) fA cdv A outer s H E).nox EX0 ZhQ Zev:=(Z2 (ZK (Zbl hr.units) (Zaa (Zdx rfl ⟨Blk.of (N:=["_law_place_here", "_law_links"]) (caps:=[1]) (nT:=1) (by show Zb1 (Zf Zq) _ Nzlaw _ _ _=true; decide +kernel),fun _ _ _ _=>(Zbd 0 (by show (["_law_place_here", "_law_links"]:List Str).Nodup; decide +kernel) rfl (.inl rfl)),fun _ _ _ _=>Zg1 (ZK (Zbl hr.units) (Zz hzreached hr (by decide) rfl (Zd (Zb 1) (Zd (Zb 0) Zh))) (Zaa (Zaz (Zd (Zb 0) Zh)))),fun _ _ _ _=>(Zb 0)⟩ (Zbb (Zb 12)))) (Zaa (Zaz Zh))) (Zn (Zx ZaP)) Zab)
theorem ZlH(hzreached:FnAt P w K mg base "reached" 6 ZaA)(fA:Addr)(cdv:P7)(A:P4)(outer:List Env)(s:P1)(H:Hp)(E:XK)(hr:Room 7 (A.deeper (PyProof.Rows.envOfC "law" (Zf Zq) s.heap.objs.size fA cdv))):PDs (ZP CX0 P w K mg base Nzlaw "law" (Zf Zq) fA cdv A outer s H E).nox EX0 Zka Zfy:=(Zx (ZbX (ZaN hr.units) (ZbX (Zrr hr.units) (Zb 4) (Zb 12)) (ZbX (ZaN hr.units) (Zz hzreached hr (by decide) rfl (Zd (Zb 1) (Zd (Zb 4) Zh))) (Zaa (Zaz (Zd (Zb 4) Zh))))))
theorem ZlB{f:Addr}{fd:P6}(F:Fun K "law" "law" Zq f fd)(b_enumerate:mg "enumerate" = none)(b_len:mg "len" = none)(b_range:mg "range" = none)(b_set:mg "set" = none)(b_sorted:mg "sorted" = none)(b_tuple:mg "tuple" = none)(cl_Presser:Cls K (cv 4))(hzPresser___init__:MkAt P w K mg base "Presser" (cv 4) 4 (Zcs cv))(hzPresser_now:MtAt P w K mg base (cv 4) "now" 2 (Zae cv))(hzPresser_press:MtAt P w K mg base (cv 4) "press" 5 (ZaR cv))(hz_law_drawn:FnAt P w K mg base "_law_drawn" 2 Zah)(hz_law_few:FnAt P w K mg base "_law_few" 3 Zb6)(hzdead_ends:FnAt P w K mg base "dead_ends" 7 Zb7)(hznext_places:FnAt P w K mg base "next_places" 4 ZaG)(hzreached:FnAt P w K mg base "reached" 6 ZaA)(hzshortest:FnAt P w K mg base "shortest" 6 Z8):FnOk P w K mg base CX0 8 f fd ["_law_script"] (spD K (Zdt cv)) :=
 fnD (k:=7) F sczlaw fun cdv A outer s H E hr=>(show PDS _ _ [ZjU,Ziz,Zhw,Zis,ZhV,Zjr,ZjL,ZhA,Zjc,Zhx,Zj2,Zi6,Zkb,ZhQ,Zka] _ from (Zo (ZqB hz_law_few f cdv A outer s H E hr) (Zo (ZmL b_range b_tuple hz_law_drawn f cdv A outer s H E hr) (Zo (Zna hzreached f cdv A outer s H E hr) (Zo (ZnK b_set b_sorted hzshortest f cdv A outer s H E hr) (Zo (ZlN b_len hz_law_drawn f cdv A outer s H E hr) (Zo (ZkS hzshortest f cdv A outer s H E hr) (Zo (Zr0 hzshortest f cdv A outer s H E hr) (Zo (ZmO hzPresser___init__ f cdv A outer s H E hr) (Zo (Zri  f cdv A outer s H E hr) (Zo (Zo4 b_enumerate b_len cl_Presser hzPresser_now hzPresser_press hzshortest f cdv A outer s H E hr) (Zo (ZkX b_len b_set cl_Presser hzPresser_now f cdv A outer s H E hr) (Zo (Zle b_len hznext_places hzshortest f cdv A outer s H E hr) (Zo (ZnJ hzdead_ends f cdv A outer s H E hr) (Zo (ZkR hzreached f cdv A outer s H E hr) (Zn (ZlH hzreached f cdv A outer s H E hr)))))))))))))))))
end
end K53
end
section
namespace K53
open PySem L2 DL
theorem Zco(i j:Int)(st:Sto)(h:Zcd i j=true):ZaB (.int i) (.int j) st = .ok (.int (i * j)) st:=by
 simp[ZaB,intOp,h]
def ZR(ns:List Int)(k:Int):Int:=if ns=[] then 7 * k else ns.getD (k % ns.length).toNat 0+6553 * (k / ns.length)
theorem Zie(xs:List D)(st:Sto):eqD (.scr xs) (.lst []) st = .ok (.bl xs.isEmpty) st:=by
 cases xs <;> rfl
theorem ZrZ(xs:List D)(st:Sto):ZA [.scr xs] st = .ok (.int xs.length) st:=rfl
theorem ZoC(ns:List Int)(k:Int)(st:Sto)(h0:0<=k)(h1:k<ns.length):ixD (.scr (ns.map .int)) (.int k) st = .ok (.int (ns.getD k.toNat 0)) st:=by
 have e:L2.atI (ns.map D.int) k=some (.int (ns.getD k.toNat 0)):=by
  unfold L2.atI L2.ixN;rw[Yg h0,Yg (by rw[Yr]; exact h1)];have hk:k.toNat<ns.length:=by omega
  simp[YO,Yj hk]
 simp[ixD,itemsOf,ZN,e]
theorem Zr4(ns:List Int)(hl:ns.length<=63)(k:Int)(st:Sto):ZcV [.scr (ns.map .int),.int k] st = .ok (.int (ZR ns k)) st:=by
 unfold ZcV ZkA ZR;by_cases h:ns=[]
 ·subst h;have e1:=Zco _ _ st (Zdy 7 k (by decide) (by decide));have e2:=Zie [] st;simp[e1,e2]
 ·have hp:0<ns.length:=QL.mpr h;have h1:(0:Int)<(ns.length:Int):=by omega
  have h2:0<=k % (ns.length:Int):=QR _ (by omega);have h3:k % (ns.length:Int)<ns.length:=Qn _ h1;have e0:=Zie (ns.map .int) st;have e1:=ZrZ (ns.map .int) st;have e2:=mod_int k _ st h1;have e3:=Zfd k _ st h1 (by omega:(ns.length:Int)<1073741824);have e4:=ZoC ns _ st h2 h3;have e5:=Zco _ _ st (Zdy 6553 (k / ns.length) (by decide) (by decide));rw[Yr] at e1;simp[e0,e1,e2,e3,e4,e5,h]
def Zag(c k:Int):Int:=(c % 2147483563 * 69069+104723 * (k+1)) % 2147483563
def ZbP(a:Int):Int:=(a * a+a / 3) % 2147483399
def Zo9(b m:Int):Int:=(b * b+b / 7) % 2147483647 / 11 % m
def Zac(ns:List Int)(k m:Int):Int:=Zo9 (ZbP (Zag (ZR ns k) k)) m
theorem Zbp(ns:List Int)(hl:ns.length<=63)(k m:Int)(hm:0<m)(st:Sto):Zah [.scr (ns.map .int),.int k,.int m] st = .ok (.int (Zac ns k m)) st:=by
 have a1:0<=Zag (ZR ns k) k:=QR _ (by decide);have a2:Zag (ZR ns k) k<2147483563:=Qn _ (by decide);have b1:0<=ZbP (Zag (ZR ns k) k):=QR _ (by decide);have b2:ZbP (Zag (ZR ns k) k)<2147483399:=Qn _ (by decide);have c0:0<=ZR ns k % 2147483563:=QR _ (by decide);have c1:ZR ns k % 2147483563<2147483563:=Qn _ (by decide);have e1:ZaB (.int (ZR ns k % 2147483563)) (.int 69069) st = .ok (.int (ZR ns k % 2147483563 * 69069)) st:=Zco _ _ _ (Zo8 _ _ (by decide) (by decide));have e2:ZaB (.int 104723) (.int (k+1)) st = .ok (.int (104723 * (k+1))) st:=Zco _ _ _ (Zdy _ _ (by decide) (by decide));have e3:ZaB (.int (Zag (ZR ns k) k)) (.int (Zag (ZR ns k) k)) st = .ok (.int (Zag (ZR ns k) k * Zag (ZR ns k) k)) st:=Zco _ _ _ (Zdy _ _ (by omega) (by omega));have e4:ZaB (.int (ZbP (Zag (ZR ns k) k))) (.int (ZbP (Zag (ZR ns k) k))) st = .ok (.int (ZbP (Zag (ZR ns k) k) * ZbP (Zag (ZR ns k) k))) st:=Zco _ _ _ (Zdy _ _ (by omega) (by omega));have hA:(ZR ns k % 2147483563 * 69069+104723 * (k+1)) % 2147483563=Zag (ZR ns k) k:=rfl;have hB:(Zag (ZR ns k) k * Zag (ZR ns k) k+Zag (ZR ns k) k / 3) % 2147483399=ZbP (Zag (ZR ns k) k):=rfl;have e0:=Zr4 ns hl k st;have m1:=fun i=>mod_int i 2147483563 st (by decide);have m2:=fun i=>mod_int i 2147483399 st (by decide);have m3:=fun i=>mod_int i 2147483647 st (by decide);have m4:=fun i=>mod_int i m st hm;have d1:=fun i=>Zfd i 3 st (by decide) (by decide);have d2:=fun i=>Zfd i 7 st (by decide) (by decide);have d3:=fun i=>Zfd i 11 st (by decide) (by decide);unfold Zah Zhu;simp[e0,e1,e2,e3,e4,m1,m2,m3,m4,d1,d2,d3,hA,hB];rfl
theorem Za7(ns:List Int)(k m:Int)(hm:0<m):0<=Zac ns k m:=QR _ (by omega)
theorem Zbf(ns:List Int)(k m:Int)(hm:0<m):Zac ns k m<m:=Qn _ hm
def up:Str:=".."
def stay:Str:="."
def ZX:List Str->List Str->Option (List Str)
 | ws,[]=>some ws
 | ws,x :: xs=>if x=up then (if ws=[] then none else ZX ws.dropLast xs) else if x=stay then ZX ws xs else if ws.length<6 then ZX (ws++[x]) xs else none
def ZL:Option (List Str)->D
 | some ws=>pl ws
 | none => .non
theorem getL{st:Sto}{xs:List D}{i:Nat}(h:st[i]?=some (.lst xs)):itemsOf st (.res i)=some xs:=by simp[itemsOf,ZN,h]
theorem Zdi{st:Sto}{xs:List D}{i:Nat}(h:st[i]?=some (.lst xs)):ZA [.res i] st = .ok (.int xs.length) st:=by simp[ZA,getL h]
theorem Zk5{st:Sto}{xs:List D}{i:Nat}(h:st[i]?=some (.lst xs)):ZaW [.res i] st = .ok (.tup xs) st:=by simp[ZaW,getL h]
theorem Zou{ρ:Ev}{st:Sto}{j i:Nat}{xs:List D}(hj:ρ[j]?=some (some (.res i)))(h:st[i]?=some (.lst xs))(hx:xs≠[]):∃d,Zeo (Za j) ρ st = .ok d (st.set i (.lst xs.dropLast)):=by
 have hl:0<xs.length:=QL.mpr hx;refine⟨xs[xs.length - 1],?_⟩;unfold Zeo;simp only[Ze8,hj,Zed,h];rw[Yj (by omega)]
theorem Zic{ρ:Ev}{st:Sto}{j i:Nat}{xs:List D}{f:DE}{d:D}(hj:ρ[j]?=some (some (.res i)))(h:st[i]?=some (.lst xs))(hf:f ρ st = .ok d st)(hx:xs.length<small):ZaZ (Za j) f ρ st = .ok .non (st.set i (.lst (xs++[d]))):=by
 unfold ZaZ;simp only[Ze8,hj,Zed,h,hf,Yg hx]
theorem Zff{st:Sto}{i:Nat}{s s':S}(h:st[i]?=some s):(st.set i s')[i]?=some s':=by
 rw[YT (Yc.mp h).1]
theorem Zst(ws:List Str)(st:Sto):ZdJ [pl ws] st = .ok (ws.map .str) st:=by simp[ZdJ,Zgm]
theorem Zd2(st:Sto)(s:S):(st++[s])[st.length]?=some s:=by simp
theorem ZaE{g g':DS}{ρ ρ':Ev}{st st':Sto}(h:g ρ st = .nx ρ' st'):Zl g g' ρ st=g' ρ' st':=by simp[h]
theorem ZrV(xs:List D)(st:Sto):ZA [.lst xs] st = .ok (.int xs.length) st:=rfl
noncomputable abbrev Row:=List Str×Int
def ZU(r:Row):D:=.tup [pl r.1,.int r.2]
def bk(m:Int)(i:Nat)(s:Int):List (Str×D):=[("most",.int m),("rows",.res i),("spot",.int s)]
theorem Zj7(m:Int)(i:Nat)(s:Int):(bk m i s).lookup ("most" : Str)=some (.int m):=rfl
theorem Zcy(m:Int)(i:Nat)(s:Int):(bk m i s).lookup ("rows" : Str)=some (.res i):=rfl
theorem Zb0(m:Int)(i:Nat)(s:Int):(bk m i s).lookup ("spot" : Str)=some (.int s):=rfl
theorem ZsC(m:Int)(i:Nat)(s:Int):(bk m i s).lookup ("now" : Str)=none:=rfl
theorem Zot(m:Int)(i:Nat)(s:Int):(bk m i s).lookup ("visit" : Str)=none:=rfl
theorem Zqr(m:Int)(i:Nat)(s:Int):(bk m i s).lookup ("replace" : Str)=none:=rfl
theorem Zf7(m:Int)(i:Nat)(s:Int):(bk m i s).lookup ("can_go" : Str)=none:=rfl
theorem Zq4(m:Int)(i:Nat)(s:Int):(bk m i s).lookup ("place_at" : Str)=none:=rfl
theorem ZrE(m:Int)(i:Nat)(s:Int):(bk m i s).lookup ("go" : Str)=none:=rfl
theorem ZlI(m:Int)(i j:Nat)(s:Int):Zap ("rows" : Str) (.res j) (bk m i s)=bk m j s:=rfl
theorem Zhi(m:Int)(i:Nat)(s t:Int):Zap ("spot" : Str) (.int t) (bk m i s)=bk m i t:=rfl
theorem Zjp(m:Int)(i:Nat)(s:Int):(bk m i s).length<900:=by show 3<900; decide
structure BookAt(cv:Nat->Addr)(st:Sto)(b i:Nat)(m:Int)(rows:List Row)(s:Nat):Prop where
 ob:st[b]?=some (.ins (cv 0) (bk m i s))
 rw:st[i]?=some (.lst (rows.map ZU))
 lt:s<rows.length
 le:rows.length<=100
structure Chg(st st':Sto)(b i i':Nat):Prop where
 fr:∀j x,st[j]?=some x->j≠b->j≠i->st'[j]?=some x
 nw:i'=i\/st.length<=i'
 le:st.length<=st'.length
section
variable{cv:Nat->Addr}{st:Sto}{b i:Nat}{m:Int}{rows:List Row}{s:Nat}
theorem BookAt.ne(B:BookAt cv st b i m rows s):b≠i:=by
 intro e;have h1:=B.ob;rw[e,B.rw] at h1;cases h1
theorem BookAt.ins(B:BookAt cv st b i m rows s):ZD (cv 0) st (.res b)=some (b,bk m i s):=by
 simp[ZD,B.ob]
theorem BookAt.items(B:BookAt cv st b i m rows s):itemsOf st (.res i)=some (rows.map ZU):=getL B.rw
theorem BookAt.ix(B:BookAt cv st b i m rows s){k:Int}{j:Nat}{r:Row}(hk:k=j)(hr:rows[j]?=some r):ixD (.res i) (.int k) st = .ok (ZU r) st:=by
 subst hk;have e:L2.atI (rows.map ZU) (j:Int)=some (ZU r):=ZlF (by rw[YO,hr]; rfl);simp[ixD,B.items,e]
theorem ZhM(r:Row)(st:Sto):ixD (ZU r) (.int 0) st = .ok (pl r.1) st:=rfl
theorem BookAt.now(B:BookAt cv st b i m rows s){r:Row}(hr:rows[s]?=some r):ZcC cv [.res b] st = .ok (pl r.1) st:=by
 have e1:=B.ix (k:=(s:Int)) rfl hr;unfold ZcC Zhh;simp[Zal,B.ins,Zcy,Zb0,e1,ZhM]
theorem BookAt.len(B:BookAt cv st b i m rows s):ZA [.res i] st = .ok (.int rows.length) st:=by
 have:=Zdi B.rw;rw[Yr] at this;exact this
theorem BookAt.can_go(B:BookAt cv st b i m rows s)(k:Int):Zb4 cv [.res b,.int k] st = .ok (.bl (decide (0<=(s:Int)+k/\(s:Int)+k<rows.length))) st:=by
 unfold Zb4 Zid;by_cases h1:0<=(s:Int)+k
 ·by_cases h2:(s:Int)+k<rows.length
  ·simp[Zal,B.ins,Zb0,Zcy,leX,leD,ZaY,ltD,B.len,h1,h2]
  ·simp[Zal,B.ins,Zb0,Zcy,leX,leD,ZaY,ltD,B.len,h1,h2]
 ·simp[Zal,B.ins,Zb0,Zcy,leX,leD,ZaY,ltD,B.len,h1]
theorem BookAt.place_at(B:BookAt cv st b i m rows s){k:Int}{j:Nat}{r:Row}(hk:(s:Int)+k=j)(hr:rows[j]?=some r):ZcG cv [.res b,.int k] st = .ok (pl r.1) st:=by
 have hj:=(Yc.mp hr).1;have e1:=B.ix hk hr;have e2:=B.can_go k;rw[Yv ⟨by omega,by omega⟩] at e2;unfold ZcG ZjE
 simp[Zav,Zal,B.ins,Zf7,Zcy,Zb0,e1,e2,ZhM]
theorem BookAt.set_spot(B:BookAt cv st b i m rows s){j:Nat}(hj:j<rows.length):BookAt cv (st.set b (.ins (cv 0) (bk m i j))) b i m rows j:=by
 have hb:b<st.length:=(Yc.mp B.ob).1;exact⟨by rw[YT hb],by rw[YC B.ne]; exact B.rw,hj,B.le⟩
theorem Zpn(st:Sto)(b i:Nat)(x:S):Chg st (st.set b x) b i i:=⟨fun j y h h1 _=>by rw[YC (Y7 h1)]; exact h,.inl rfl,by simp⟩
theorem Znc(st:Sto)(b i:Nat)(x:S):Chg st (st.set i x) b i i:=⟨fun j y h _ h1=>by rw[YC (Y7 h1)]; exact h,.inl rfl,by simp⟩
theorem BookAt.go(B:BookAt cv st b i m rows s){k:Int}{j:Nat}{r:Row}(hk:(s:Int)+k=j)(hr:rows[j]?=some r):∃st',Zc5 cv [.res b,.int k] st = .ok (pl r.1) st'/\BookAt cv st' b i m rows j/\Chg st st' b i i:=by
 have hj:=(Yc.mp hr).1;have e1:=B.place_at hk hr;refine⟨st.set b (.ins (cv 0) (bk m i j)),?_,B.set_spot hj,Zpn _ _ _ _⟩;unfold Zc5 ZiG;simp[Zav,Zsd,B.ins,Zq4,Zb0,e1,Zhi,Zjp,hk]
def Zar(m:Int)(rows:List Row)(s:Nat)(p:List Str):List Row:=if ((rows.take (s+1)++[(p,0)]).length:Int) > m then (rows.take (s+1)++[(p,0)]).drop 1 else rows.take (s+1)++[(p,0)]
theorem BookAt.replace(B:BookAt cv st b i m rows s)(p:List Str):∃st',Zc3 cv [.res b,pl p] st = .ok .non st'/\BookAt cv st' b i m (rows.set s (p,0)) s/\Chg st st' b i i:=by
 have hi:i<st.length:=(Yc.mp B.rw).1;have hx:ixN (rows.map ZU).length (s:Int)=some s:=by
  have:=B.lt;unfold ixN;rw[Yr,Yg (by omega),Yg (by omega)];simp
 refine⟨st.set i (.lst ((rows.map ZU).set s (ZU (p,0)))),?_,⟨?_,?_,by rw[WT]; exact B.lt,by rw[WT]; exact B.le⟩,Znc _ _ _ _⟩
 ·unfold Zc3 Zh9;have q:(2:Nat)<=small:=by decide
  simp only[Yr] at hx;simp[Zk4,Zal,B.ins,Zcy,Zb0,B.rw,q,hx];rfl
 ·rw[YC (Y7 B.ne)]; exact B.ob
 ·rw[YT hi,List.map_set]
end
theorem ZhE{N n:Nat}{g:DS}{ds:List D}{st st':Sto}{ρ:Ev}(hl:ds.length=n)(h:g (ds.map some++List.replicate (N - n) none) st = .nx ρ st'):Zw N n g ds st = .ok .non st':=by
 rw[Ziu,Yg hl,h]
theorem Zqo{N n:Nat}{g:DS}{ds:List D}{st st':Sto}{d:D}(hl:ds.length=n)(h:g (ds.map some++List.replicate (N - n) none) st = .rt d st'):Zw N n g ds st = .ok d st':=by
 rw[Ziu,Yg hl,h]
section
variable{cv:Nat->Addr}{st:Sto}{b i:Nat}{m:Int}{rows:List Row}{s:Nat}
theorem BookAt.app(B:BookAt cv st b i m rows s)(t:Sto):BookAt cv (st++t) b i m rows s :=
 ⟨by rw[YD (Yc.mp B.ob).1]; exact B.ob,by rw[YD (Yc.mp B.rw).1]; exact B.rw,B.lt,B.le⟩
theorem ZiO(B:BookAt cv st b i m rows s){j:Nat}{R:List Row}(p:Option D)(hj:st[j]?=some (.lst (R.map ZU)))(h0:0<R.length)(h1:R.length<=100) :
  ∃st',Zl (Za0 (cv 0) "rows" (Za 0) (Za 2)) (Za0 (cv 0) "spot" (Za 0) (Zg ZbF (Zj ZA (Zc (Za 2) Ze)) (dC (.int 1)))) [some (.res b),p,some (.res j)] st = .nx [some (.res b),p,some (.res j)] st' /\
   BookAt cv st' b j m R (R.length - 1)/\(∀k x,st[k]?=some x->k≠b->st'[k]?=some x)/\st'.length=st.length:=by
 have hb:b<st.length:=(Yc.mp B.ob).1;have hbj:b≠j:=by
  intro e;have h1:=B.ob;rw[e,hj] at h1;cases h1
 have B1:BookAt cv (st.set b (.ins (cv 0) (bk m j s))) b j m R (R.length - 1)->True:=fun _=>trivial;have hj1:(st.set b (.ins (cv 0) (bk m j s)))[j]?=some (.lst (R.map ZU)):=by rw[YC hbj]; exact hj
 have hb1:(st.set b (.ins (cv 0) (bk m j s)))[b]?=some (.ins (cv 0) (bk m j s)):=YT hb;have i1:ZD (cv 0) (st.set b (.ins (cv 0) (bk m j s))) (.res b)=some (b,bk m j s):=by simp[ZD,hb1]
 have l1:=Zdi hj1;rw[Yr] at l1;have es:((R.length:Int) - 1)=((R.length - 1:Nat):Int):=by omega
 refine⟨(st.set b (.ins (cv 0) (bk m j s))).set b (.ins (cv 0) (bk m j ((R.length - 1:Nat):Int))),?_,⟨?_,?_,by omega,h1⟩,fun k x hk hkb => ?_,by simp⟩
 ·simp[Zfc,B.ins,Zjp,ZlI,i1,l1,Zhi,Znb,es]
 ·rw[YT (by rw[WT]; exact hb)]
 ·rw[YC hbj]; exact hj1
 ·rw[YC (Y7 hkb),YC (Y7 hkb)]; exact hk
theorem BookAt.visit(B:BookAt cv st b i m rows s)(p:List Str)(hm:1<=m)(hl:rows.length<=99):∃st' i',Zd1 cv [.res b,pl p] st = .ok .non st'/\BookAt cv st' b i' m (Zar m rows s p) ((Zar m rows s p).length - 1)/\Chg st st' b i i':=by
 generalize hR:rows.take (s+1)++[(p,(0:Int))]=R;have hRl:R.length=s+2:=by
  have:=B.lt;rw[<-hR,Yy,Y1];simp;omega
 obtain⟨T,hT⟩:∃T,T=(rows.take (s+1)).map ZU:=⟨_,rfl⟩;obtain⟨T2,hT2⟩:∃T2,T2=R.map ZU:=⟨_,rfl⟩;obtain⟨T3,hT3⟩:∃T3,T3=(R.drop 1).map ZU:=⟨_,rfl⟩;have e1:ZaT (.res i) none (some ((s:Int)+1)) st = .ok T st:=by
  have e:((s:Int)+1)=((s+1:Nat):Int):=by omega
  rw[e,hT];simp only[ZaT,ZN,B.rw,ZgX,UH]
 have e2:Zdn (.lst T) (.lst [ZU (p,0)]) st = .ok T2 st:=by
  have h:T.length+[ZU (p,0)].length<=small:=by
   have:=B.lt;rw[hT,Yr,Y1];exact ZaV (by simp; omega)
  simp only[Zdn,Za8,Yg h];rw[hT2,<-hR,V1,<-hT];rfl
 have B1:=B.app [.lst T2];have hb:b<st.length:=(Yc.mp B.ob).1;have hj1:(st++[S.lst T2])[st.length]?=some (.lst T2):=Zd2 _ _;have l1:=Zdi hj1;have l1':ZA [.res st.length] (st++[S.lst T2]) = .ok (.int R.length) (st++[S.lst T2]):=by rw[l1,hT2,Yr]
 have q2:(2:Nat)<=small:=by decide
 have q1:(1:Nat)<=small:=by decide
 have e0:D.tup [pl p,.int 0]=ZU (p,0):=rfl;have hlt:=B.lt;have h1:ZaC 2 (ZdH Zdn (dF (dSl ZaT (ZY (cv 0) "rows" (Za 0)) Zbs (Zbk (Zg ZE (ZY (cv 0) "spot" (Za 0)) (dC (.int 1)))))) (dF (Z6 (Zc (ZW (Zc (Za 1) (Zc (dC (.int 0)) Ze))) Ze)))) [some (.res b),some (pl p),none] st = .nx [some (.res b),some (pl p),some (.res st.length)] (st++[S.lst T2]):=by
  simp[Zal,B.ins,Zcy,Zb0,e1,q2,q1,e0,e2]
 by_cases hc:m<(R.length:Int)
 ·have hv:Zar m rows s p=R.drop 1:=by
   unfold Zar;rw[hR,Yg hc]
  have hdl:(R.drop 1).length=s+1:=by rw[WA,hRl]; omega
  have hj2:(st++[S.lst T2]++[S.lst T3])[(st++[S.lst T2]).length]?=some (.lst ((R.drop 1).map ZU)):=by rw[<-hT3]; exact Zd2 _ _
  obtain⟨st',t1,t2,t3,t4⟩:=ZiO (B1.app [.lst T3]) (some (pl p)) hj2 (by omega) (by omega);rw[hv];refine⟨st',_,?_,t2,⟨fun k x hk h1 _=>t3 k x ?_ h1,.inr (by simp),by rw[t4]; simp⟩⟩
  ·have e3:ZaT (.res st.length) (some 1) none (st++[S.lst T2]) = .ok T3 (st++[S.lst T2]):=by
    have:=ZsQ (R.map ZU) 1;rw[<-hT2] at this;simp only[ZaT,ZN,hj1];rw[show (some (1:Int))=some ((1:Nat):Int) from rfl,this,hT2,hT3,List.map_drop]
   have h2:sIf (dB (Zg gtD (Zj ZA (Zc (Za 2) Ze)) (ZY (cv 0) "most" (Za 0)))) (ZaC 2 (dSl ZaT (Za 2) (Zbk (dC (.int 1))) Zbs)) ZV [some (.res b),some (pl p),some (.res st.length)] (st++[S.lst T2]) = .nx [some (.res b),some (pl p),some (.res (st++[S.lst T2]).length)] (st++[S.lst T2]++[S.lst T3]):=by
    rw[Zjh];simp only[z_B,ZiR,Zhk,Ziw,ZjM,Ze8,Vo,Vp,Zed,l1',Zal,B1.ins,Zj7,gtD,ZaY,Yv hc,Ziq,ZeO,Qb,ZpD,Zk0,ZoK,z_C,Zm7,ZoT,e3];rfl
   refine ZhE rfl (ρ:=[some (.res b),some (pl p),some (.res (st++[S.lst T2]).length)]) ?_;show ZdD cv [some (.res b),some (pl p),none] st=_;unfold ZdD;rw[ZaE h1,ZaE h2];exact t1
  ·rw[YD (by rw[Yy]; have:=(Yc.mp hk).1; simp; omega),YD (Yc.mp hk).1];exact hk
 ·have hv:Zar m rows s p=R:=by
   unfold Zar;rw[hR,Yh hc]
  rw[hT2] at hj1;obtain⟨st',t1,t2,t3,t4⟩:=ZiO B1 (some (pl p)) (R:=R) (by rw[hT2]; exact hj1) (by omega) (by omega);rw[hv];refine⟨st',_,?_,t2,⟨fun k x hk h1 _=>t3 k x ?_ h1,.inr (Yi _),by rw[t4]; simp⟩⟩
  ·have h2:sIf (dB (Zg gtD (Zj ZA (Zc (Za 2) Ze)) (ZY (cv 0) "most" (Za 0)))) (ZaC 2 (dSl ZaT (Za 2) (Zbk (dC (.int 1))) Zbs)) ZV [some (.res b),some (pl p),some (.res st.length)] (st++[S.lst T2]) = .nx [some (.res b),some (pl p),some (.res st.length)] (st++[S.lst T2]):=by
    rw[Zjh];simp only[z_B,ZiR,Zhk,Ziw,ZjM,Ze8,Vo,Vp,Zed,l1',Zal,B1.ins,Zj7,gtD,ZaY,YA hc,Ziq,ZeO,YQ,Wz];rfl
   refine ZhE rfl (ρ:=[some (.res b),some (pl p),some (.res st.length)]) ?_;show ZdD cv [some (.res b),some (pl p),none] st=_;unfold ZdD;rw[ZaE h1,ZaE h2];exact t1
  ·rw[YD (Yc.mp hk).1];exact hk
theorem ZsP(p:List Str)(m:Int)(st:Sto):Zdm cv [.res st.length,pl p,.int m] (st++[.ins (cv 0) []]) = .ok .non (st++[.ins (cv 0) (bk m (st.length+1) 0),.lst [ZU (p,0)]]):=by
 have q2:(2:Nat)<=small:=by decide
 have q1:(1:Nat)<=small:=by decide
 have i1:∀fs,ZD (cv 0) (st++[.ins (cv 0) fs]) (.res st.length)=some (st.length,fs):=fun fs=>by simp[ZD]
 have i2:∀fs x,ZD (cv 0) (st++[.ins (cv 0) fs,x]) (.res st.length)=some (st.length,fs):=fun fs x=>by
  simp[ZD]
 have p1:Zap ("most" : Str) (.int m) []=[(("most" : Str),D.int m)]:=rfl;have p2:Zap ("rows" : Str) (.res (st.length+1)) [(("most" : Str),D.int m)]=[(("most" : Str),D.int m),(("rows" : Str),D.res (st.length+1))]:=rfl;have p3:Zap ("spot" : Str) (.int 0) [(("most" : Str),D.int m),(("rows" : Str),D.res (st.length+1))]=bk m (st.length+1) 0:=rfl;unfold Zdm ZhJ;simp[Zfc,Zn9,i1,i2,p1,p2,p3,q1,q2];rfl
theorem Zj8(m:Int)(rows:List Row)(s:Nat)(p:List Str)(hs:s<rows.length):(Zar m rows s p).length=if m<(s:Int)+2 then s+1 else s+2:=by
 have h:(rows.take (s+1)++[(p,(0:Int))]).length=s+2:=by
  rw[Yy,Y1];simp;omega
 unfold Zar;rw[h];by_cases hc:m<(s:Int)+2
 ·rw[Yg (by omega),Yg hc,WA,h];omega
 ·rw[Yh (by omega),Yh hc,h]
theorem Zsq(m:Int)(rows:List Row)(s:Nat)(p:List Str)(hs:s<rows.length):(Zar m rows s p)[(Zar m rows s p).length - 1]?=some (p,0):=by
 have h:(rows.take (s+1)).length=s+1:=by rw[Y1]; omega
 rw[Zj8 m rows s p hs];unfold Zar;by_cases hc:m<(s:Int)+2
 ·rw[Yg hc,Yg (by rw[Yy,h]; simp; omega),Ub,YZ (by omega),h,show 1+(s+1 - 1) - (s+1)=0 by omega];rfl
 ·rw[Yh hc,Yh (by rw[Yy,h]; simp; omega),YZ (by omega),h];simp
end
theorem ZiE(x y:Int)(st:Sto):neD (.int x) (.int y) st = .ok (.bl (!decide (x=y))) st:=by
 rw[Zd5 rfl rfl];congr 3;exact WY.mpr (by rw[D.int.injEq])
theorem Zh4{chk:Sto->Prop}{t:TgD}{g:DS}(P:Nat->Ev->Sto->Prop)(hc:∀j ρ st,P j ρ st->chk st):∀(xs:List D) (n:Nat),(∀j x,xs[j]?=some x->∀ρ st,P (n+j) ρ st->∃ρ1 ρ2 st2,t x ρ=some ρ1/\g ρ1 st = .nx ρ2 st2/\P (n+j+1) ρ2 st2) ->
  ∀ρ st,P n ρ st->∃ρ2 st2,ZO chk t g xs ρ st = .nx ρ2 st2/\P (n+xs.length) ρ2 st2
 | [],n,_,ρ,st,h=>⟨ρ,st,ZbN (hc n ρ st h),h⟩
 | x :: xs,n,hx,ρ,st,h=>by
  obtain⟨ρ1,ρ2,st2,e1,e2,h2⟩:=hx 0 x rfl ρ st h;obtain⟨ρ3,st3,e3,h3⟩:=Zh4 P hc xs (n+1) (fun j y hy ρ st hp=>by
   have q:n+1+j=n+(j+1):=by omega
   rw[q] at hp;obtain⟨r1,r2,s2,k1,k2,k3⟩:=hx (j+1) y (by simpa using hy) ρ st hp;exact⟨r1,r2,s2,k1,k2,by rw[q]; exact k3⟩) ρ2 st2 h2
  refine⟨ρ3,st3,(Zbg (hc n ρ st h) e1 e2).trans e3,?_⟩;have q:n+(x :: xs).length=n+1+xs.length:=by simp; omega
  rw[q];exact h3
theorem Zsv{chk:Sto->Prop}{t:TgD}{g:DS}{f:Nat->D}(P:Nat->Ev->Sto->Prop)(hc:∀j ρ st,P j ρ st->chk st)(n:Nat)(step:∀j,j<n->∀ρ st,P j ρ st->∃ρ1 ρ2 st2,t (f j) ρ=some ρ1/\g ρ1 st = .nx ρ2 st2/\P (j+1) ρ2 st2)(ρ:Ev)(st:Sto)(h:P 0 ρ st) :
  ∃ρ2 st2,ZO chk t g ((List.range n).map f) ρ st = .nx ρ2 st2/\P n ρ2 st2:=by
 obtain⟨ρ2,st2,e,h2⟩:=Zh4 P hc ((List.range n).map f) 0 (fun j x hx ρ st hp=>by
  rw[Wv] at hp ⊢;have hj:j<n:=by
   have:=(Yc.mp hx).1;simpa using this
  rw[YO,List.getElem?_range hj] at hx;simp only[Qq,YE] at hx;rw[<-hx];exact step j hj ρ st hp) ρ st h
 refine⟨ρ2,st2,e,?_⟩;simpa using h2
structure BD(cv:Nat->Addr)(st:Sto)(b i u:Nat)(m:Int)(rows:List Row)(s:Nat)(ds:List D):Prop where
 bk:BookAt cv st b i m rows s
 ub:u≠b
 ui:u≠i
 du:st[u]?=some (.lst ds)
section
variable{cv:Nat->Addr}{st st':Sto}{b i i' u:Nat}{m:Int}{rows rows':List Row}{s s':Nat}{ds:List D}
theorem BD.step(X:BD cv st b i u m rows s ds)(C:Chg st st' b i i')(B:BookAt cv st' b i' m rows' s'):BD cv st' b i' u m rows' s' ds:=by
 refine⟨B,X.ub,?_,C.fr _ _ X.du X.ub X.ui⟩;have hu:u<st.length:=(Yc.mp X.du).1;rcases C.nw with h | h
 ·rw[h]; exact X.ui
 ·omega
end
theorem Zay{g g':DS}{ρ ρ':Ev}{st st':Sto}(h:g ρ st = .nx ρ' st')(h2:∃st2,g' ρ' st' = .rt (.bl true) st2):∃st2,Zl g g' ρ st = .rt (.bl true) st2:=by
 obtain⟨st2,e⟩:=h2;exact⟨st2,(ZaE h).trans e⟩
theorem ZhT{a:D}(h:nice depth a=true)(st:Sto):neD a a st = .ok (.bl false) st:=by
 rw[Zd5 h h];simp
theorem ZeJ{α:Type}(g:α->D)(p:α->Bool)(h:α->D){chk:Sto->Prop}{t:TgD}{cond:DT}{fe:DE}{st:Sto}(IE:Ev->Prop)(hc:chk st):∀(xs:List α) (ρ:Ev) (acc:List D),IE ρ->acc.length+xs.length<=small ->
  (∀x∈xs,∀ρ,IE ρ->∃ρ1,t (g x) ρ=some ρ1/\IE ρ1/\cond ρ1 st = .ok (p x) st/\(p x=true->fe ρ1 st = .ok (h x) st))->Z1 chk t cond fe (xs.map g) ρ st acc = .ok (acc++(xs.filter p).map h) st
 | [],ρ,acc,_,_,_=>by simp[Z1,hc]
 | x :: xs,ρ,acc,hI,hl,hx=>by
  obtain⟨ρ1,e1,h1,e2,e3⟩:=hx x Yt ρ hI;rw[YF];unfold Z1;rw[Yg ⟨hc,by simp at hl; omega⟩,e1];dsimp only;rw[e2];cases hp:p x with
  | true =>
   dsimp only;rw[e3 hp];dsimp only;rw[ZeJ g p h IE hc xs ρ1 (acc++[h x]) h1 (by simp at hl ⊢; omega) fun y hy=>hx y (Yl _ hy)];simp[hp]
  | false =>
   dsimp only;rw[ZeJ g p h IE hc xs ρ1 acc h1 (by simp at hl ⊢; omega) fun y hy=>hx y (Yl _ hy)];simp[hp]
theorem ZfK{α:Type}(g:α->D)(h:α->D){chk:Sto->Prop}{t:TgD}{fe:DE}{st:Sto}(IE:Ev->Prop)(hc:chk st)(xs:List α)(ρ:Ev)(acc:List D)(hI:IE ρ)(hl:acc.length+xs.length<=small)
  (hx:∀x∈xs,∀ρ,IE ρ->∃ρ1,t (g x) ρ=some ρ1/\IE ρ1/\fe ρ1 st = .ok (h x) st):Z1 chk t Zbw fe (xs.map g) ρ st acc = .ok (acc++xs.map h) st:=by
 rw[ZeJ g (fun _=>true) h IE hc xs ρ acc hI hl fun x hm ρ hi => ?_]
 ·rw[List.filter_eq_self.mpr fun _ _=>rfl]
 ·obtain⟨ρ1,e1,e2,e3⟩:=hx x hm ρ hi;exact⟨ρ1,e1,e2,rfl,fun _=>e3⟩
theorem Zd8(p:List Str):ZM (pl p)=some (p.map Sum.inr):=by
 show Zbe (p.map D.str)=_
 induction p with
 | nil=>rfl
 | cons x p ih =>
  show (match Zaq (.str x),Zbe (p.map D.str) with | some k,some ks=>some (k :: ks) | _,_=>none)=_;rw[ih];rfl
theorem keyT_inj{p q:List Str}:ZM (pl p)=ZM (pl q) ↔ p=q:=by
 rw[Zd8,Zd8,YE];constructor
 ·intro h
  induction p generalizing q with
  | nil =>
   cases q with
   | nil=>rfl
   | cons y q=>cases h
  | cons x p ih =>
   cases q with
   | nil=>cases h
   | cons y q =>
    rw[YF,YF] at h;injection h with h1 h2;injection h1 with h1;rw[h1,ih h2]
 ·intro h; rw[h]
def dpl(f:List Str->D)(ks:List (List Str)):List (D×D):=ks.map fun p=>(pl p,f p)
theorem ZjJ(f:List Str->D)(p:List Str):∀ks:List (List Str),ZaI ZM (dpl f ks) (pl p)=if p∈ks then some (f p) else none
 | []=>by simp[dpl,ZaI]
 | k :: ks=>by
  show (if ZM (pl k)=ZM (pl p) then some (f k) else ZaI ZM (dpl f ks) (pl p))=_;rw[ZjJ f p ks];by_cases h:k=p
  ·subst h;simp
  ·rw[Yh (fun z=>h (keyT_inj.mp z))];have h':¬ p=k:=fun z=>h z.symm;simp[h']
theorem ZsG(f:List Str->D)(ks:List (List Str))(p:List Str):hasD ZM (dpl f ks) (pl p)=decide (p∈ks):=by
 unfold hasD dpl;rw[List.any_map]
 induction ks with
 | nil=>simp
 | cons k ks ih =>
  rw[Q6,ih];by_cases h:k=p
  ·subst h;simp
  ·have h':¬ p=k:=fun z=>h z.symm;have h2:¬ ZM (pl k)=ZM (pl p):=fun z=>h (keyT_inj.mp z);simp[h',h2]
theorem ZhU(f:List Str->D)(ks:List (List Str))(p:List Str)(v:D):putD ZM (dpl f ks) (pl p) v=dpl (fun q=>if q=p then v else f q) (if p∈ks then ks else ks++[p]):=by
 unfold putD;rw[ZsG];by_cases h:p∈ks
 ·rw[Yg (Yv h),Yg h];unfold dpl;rw[Ql];refine Q9 fun q _ => ?_;show (if ZM (pl q)=ZM (pl p) then (pl q,v) else (pl q,f q))=(pl q,if q=p then v else f q);by_cases e:q=p
  ·rw[Yg (keyT_inj.mpr e),Yg e]
  ·rw[Yh (fun z=>e (keyT_inj.mp z)),Yh e]
 ·rw[Yh (by simpa using h),Yh h];unfold dpl;rw[V1];congr 1
  ·refine Q9 fun q hq => ?_;have:¬ q=p:=fun z=>h (z ▸ hq);show (pl q,f q)=(pl q,if q=p then v else f q);rw[Yh this]
  ·show [(pl p,v)]=[(pl p,if p=p then v else f p)];rw[Yg rfl]
structure StoK(st st':Sto):Prop where
 fr:∀(j:Nat) (x:S),st[j]?=some x->st'[j]?=some x
 le:st.length<=st'.length
theorem StoK.refl(st:Sto):StoK st st:=⟨fun _ _ h=>h,Yi _⟩
theorem StoK.trans{a b c:Sto}(x:StoK a b)(y:StoK b c):StoK a c:=⟨fun j z h=>y.fr j z (x.fr j z h),YI x.le y.le⟩
theorem StoK.app(st t:Sto):StoK st (st++t):=⟨fun j x h=>by rw[YD (Yc.mp h).1]; exact h,by simp⟩
theorem StoK.set{a b:Sto}(x:StoK a b){r:Nat}(hr:a.length<=r)(y:S):StoK a (b.set r y):=⟨fun j z h=>by
 have hj:j<a.length:=(Yc.mp h).1;rw[YC (by omega)];exact x.fr j z h,by rw[WT]; exact x.le⟩
theorem Zfk:∀(xs ws us:List Str),ws.length<=6->ZX ws xs=some us->us.length<=6
 | [],ws,us,hl,h=>by unfold ZX at h; cases h; exact hl
 | x :: xs,ws,us,hl,h=>by
  unfold ZX at h;split at h
  ·split at h
   ·cases h
   ·exact Zfk xs _ us (by rw[VV]; omega) h
  ·split at h
   ·exact Zfk xs _ us hl h
   ·split at h
    ·exact Zfk xs _ us (by simp; omega) h
    ·cases h
theorem Ze3{chk:Sto->Prop}(hchk:∀st,chk st)(p s0:Option D)(r:Nat)(st0:Sto)(hr:st0.length<=r):∀(xs ws:List Str) (e:Option D) (st:Sto),ws.length<=6->st[r]?=some (.lst (ws.map .str))->StoK st0 st ->
  (∀us,ZX ws xs=some us->∃e' st',ZO chk (ZH 3) ZaJ (xs.map .str) [p,s0,some (.res r),e] st = .nx [p,s0,some (.res r),e'] st'/\st'[r]?=some (.lst (us.map .str))/\StoK st0 st') /\
  (ZX ws xs=none->∃st',ZO chk (ZH 3) ZaJ (xs.map .str) [p,s0,some (.res r),e] st = .rt .non st'/\StoK st0 st')
 | [],ws,e,st,hl,h,hk=>⟨fun us hu=>by
   unfold ZX at hu;cases hu;exact⟨e,st,ZbN (hchk st),h,hk⟩,fun hn=>by unfold ZX at hn; cases hn⟩
 | x :: xs,ws,e,st,hl,h,hk=>by
  have hlen:=Zdi h;rw[Yr] at hlen;have ht:ZH 3 (.str x) [p,s0,some (.res r),e]=some [p,s0,some (.res r),some (.str x)]:=rfl;rw[YF];unfold ZX;have q1:=ZbQ x ".." st;have q2:=Zre x "." st;by_cases hu:x=up
  ·have hu':x=(".." : Str):=hu;rw[Yv hu'] at q1;rw[Yg hu];by_cases h0:ws=[]
   ·rw[Yg h0];have q3:=Zfn (ws.length:Int) 0 st;rw[Yv (by rw[h0]; rfl)] at q3;have hb:ZaJ [p,s0,some (.res r),some (.str x)] st = .rt .non st:=by
     unfold ZaJ;simp[q1,hlen,q3]
    exact⟨fun us hus=>(by cases hus),fun _=>⟨st,ZfZ (hchk st) ht hb,hk⟩⟩
   ·rw[Yh h0];obtain⟨d,hp⟩:=Zou (ρ:=[p,s0,some (.res r),some (.str x)]) (j:=2) rfl h (by simpa using h0);have hb:ZaJ [p,s0,some (.res r),some (.str x)] st = .nx [p,s0,some (.res r),some (.str x)] (st.set r (.lst (ws.map D.str).dropLast)):=by
     have h00:¬ (ws.length:Int)=0:=by
      have:=QL.mpr h0;omega
     have q3:=Zfn (ws.length:Int) 0 st;rw[YA h00] at q3;unfold ZaJ;simp[q1,hlen,q3,hp]
    rw[List.map_dropLast.symm] at hb;have ih:=Ze3 hchk p s0 r st0 hr xs ws.dropLast (some (.str x)) _ (by rw[VV]; omega) (Zff (s':=.lst (ws.dropLast.map .str)) h) (hk.set hr _);rw[Zbg (hchk st) ht hb];exact ih
  ·have hu':¬ x=(".." : Str):=hu;rw[YA hu'] at q1;rw[Yh hu];by_cases hs:x=stay
   ·have hs':x=("." : Str):=hs;rw[Yv hs'] at q2;rw[Yg hs];have hb:ZaJ [p,s0,some (.res r),some (.str x)] st = .nx [p,s0,some (.res r),some (.str x)] st:=by
     unfold ZaJ;simp[q1,q2]
    rw[Zbg (hchk st) ht hb];exact Ze3 hchk p s0 r st0 hr xs ws (some (.str x)) st hl h hk
   ·have hs':¬ x=("." : Str):=hs;rw[YA hs'] at q2;rw[Yh hs];have ha:=Zic (ρ:=[p,s0,some (.res r),some (.str x)]) (j:=2) (f:=Za 3) (d:=.str x) rfl h rfl (by rw[Yr]; exact Qo hl (by decide));have hst:(st.set r (.lst (ws.map D.str++[.str x])))[r]?=some (.lst (ws.map D.str++[.str x])):=Zff h;have hlen2:=Zdi hst;simp only[Yy,Yr,YB,WH] at hlen2;by_cases h6:ws.length<6
    ·rw[Yg h6];have hb:ZaJ [p,s0,some (.res r),some (.str x)] st = .nx [p,s0,some (.res r),some (.str x)] (st.set r (.lst (ws.map D.str++[.str x]))):=by
      have h66:¬ (6:Int)<(ws.length:Int)+1:=by omega
      unfold ZaJ;simp[q1,q2,ha,hlen2,gtD,ZaY,h66,Zdg,Zgj]
     rw[Zbg (hchk st) ht hb];exact Ze3 hchk p s0 r st0 hr xs (ws++[x]) (some (.str x)) _ (by simp; omega) (by simpa using hst) (hk.set hr _)
    ·rw[Yh h6];have hb:ZaJ [p,s0,some (.res r),some (.str x)] st = .rt .non (st.set r (.lst (ws.map D.str++[.str x]))):=by
      have h66:(6:Int)<(ws.length:Int)+1:=by omega
      unfold ZaJ;simp[q1,q2,ha,hlen2,gtD,ZaY,h66,Zdg,Zgj]
     exact⟨fun us hus=>(by cases hus),fun _=>⟨_,ZfZ (hchk st) ht hb,hk.set hr _⟩⟩
theorem Zo6(ws xs:List Str)(hl:ws.length<=6)(st:Sto):∃st',Zcp [pl ws,pl xs] st = .ok (ZL (ZX ws xs)) st'/\StoK st st':=by
 have h1:=Ze3 (chk:=fun st=>itemsOf st (pl xs)=some (xs.map D.str)) (fun st=>Zgm xs st) (some (pl ws)) (some (pl xs)) st.length st (Yi _) xs ws none (st++[.lst (ws.map .str)]) hl (Zd2 _ _) (StoK.app _ _);have e1:=Zst ws st;have e2:=Zgm xs (st++[.lst (ws.map .str)]);cases h:ZX ws xs with
 | some us =>
  obtain⟨e',st',e3,e4,e6⟩:=h1.1 us h;have e5:=Zk5 e4;refine⟨st',?_,e6⟩;unfold Zcp Zgw;simp[e1,e2,e3,e5,ZL];rfl
 | none =>
  obtain⟨st',e3,e6⟩:=h1.2 h;refine⟨st',?_,e6⟩;unfold Zcp Zgw;simp[e1,e2,e3,ZL]
theorem Zkv(a b:List Str)(st:Sto):Zb2 [pl a,pl b] st = .ok (.bl (decide (a.take b.length=b))) st:=by
 have e1:=ZcU b st;have e2:=ZrX a none (some (b.length:Int)) st;rw[ZgX] at e2;have e3:=Zr9 (a.take b.length) b st;unfold Zb2 Zjy;simp[e1,e2,e3]
inductive Prt where
 | way (k:Int)
 | steps (xs:List Str)
structure Lk where
 wh:List Str
 wd:Str
 op:Bool
 pt:Prt
def Lk.kind(l:Lk):Str:=match l.pt with
 | .way _ => "go"
 | .steps _=>if l.op then "open" else "replace"
def Prt.d:Prt->D
 | .way k => .int k
 | .steps xs=>pl xs
def lkD(l:Lk):D:=.tup [pl l.wh,.str l.wd,.str l.kind,l.pt.d]
def ZbK:Option Lk->D
 | none => .non
 | some l=>lkD l
theorem lk0(l:Lk)(st:Sto):ixD (lkD l) (.int 0) st = .ok (pl l.wh) st:=rfl
theorem lk1(l:Lk)(st:Sto):ixD (lkD l) (.int 1) st = .ok (.str l.wd) st:=rfl
theorem lk2(l:Lk)(st:Sto):ixD (lkD l) (.int 2) st = .ok (.str l.kind) st:=rfl
theorem lk3(l:Lk)(st:Sto):ixD (lkD l) (.int 3) st = .ok l.pt.d st:=rfl
def Zk(ls:List Lk):D:=.tup (ls.map lkD)
theorem Zf6(ls:List Lk)(st:Sto):itemsOf st (Zk ls)=some (ls.map lkD):=rfl
def Zaw(p:List Str)(l:Lk):Bool:=decide (p.take l.wh.length=l.wh)
def ZG(ls:List Lk)(p:List Str)(w:Str):Option Lk:=(ls.filter fun l=>decide (l.wd=w) && Zaw p l).head?
theorem ZhH(p:List Str)(w:Str)(ls0:List Lk)(st:Sto):∀(ls:List Lk) (e:Option D),
  (∀l,ZG ls p w=some l->ZO (fun _=>True) (ZH 3) Zci (ls.map lkD) [some (Zk ls0),some (pl p),some (.str w),e] st = .rt (lkD l) st) /\
  (ZG ls p w=none->∃e',ZO (fun _=>True) (ZH 3) Zci (ls.map lkD) [some (Zk ls0),some (pl p),some (.str w),e] st = .nx [some (Zk ls0),some (pl p),some (.str w),e'] st)
 | [],e=>⟨fun l h=>(by cases h),fun _=>⟨e,ZbN trivial⟩⟩
 | x :: xs,e=>by
  have ht:ZH 3 (lkD x) [some (Zk ls0),some (pl p),some (.str w),e]=some [some (Zk ls0),some (pl p),some (.str w),some (lkD x)]:=rfl;have q0:=lk0 x st;have q1:=lk1 x st;have q2:=ZbQ x.wd w st;have q3:=Zkv p x.wh st;have ih:=ZhH p w ls0 st xs (some (lkD x));rw[YF];by_cases h:(decide (x.wd=w) && Zaw p x)=true
  ·have hv:ZG (x :: xs) p w=some x:=by
    unfold ZG;rw[VH,Yg h];rfl
   rw[Y2] at h;have h2:decide (p.take x.wh.length=x.wh)=true:=h.2;rw[h.1] at q2;rw[h2] at q3;have hb:Zci [some (Zk ls0),some (pl p),some (.str w),some (lkD x)] st = .rt (lkD x) st:=by
    unfold Zci;simp[q0,q1,q2,q3]
   refine⟨fun l hh => ?_,fun hh => ?_⟩
   ·rw[hv] at hh;cases hh;exact ZfZ trivial ht hb
   ·rw[hv] at hh; cases hh
  ·have hv:ZG (x :: xs) p w=ZG xs p w:=by
    unfold ZG;rw[VH,Yh h]
   have hb:Zci [some (Zk ls0),some (pl p),some (.str w),some (lkD x)] st = .nx [some (Zk ls0),some (pl p),some (.str w),some (lkD x)] st:=by
    unfold Zci;by_cases h1:x.wd=w
    ·rw[Yv h1] at q2;have h2:decide (p.take x.wh.length=x.wh)=false:=by
      rw[Yv h1,Bool.true_and] at h;exact Bool.eq_false_iff.mpr h
     rw[h2] at q3;simp[q0,q1,q2,q3]
    ·rw[YA h1] at q2;simp[q1,q2]
   rw[hv,Zbg trivial ht hb];exact ih
theorem Zku(ls:List Lk)(p:List Str)(w:Str)(st:Sto):ZbV [Zk ls,pl p,.str w] st = .ok (ZbK (ZG ls p w)) st:=by
 have h:=ZhH p w ls st ls none;unfold ZbV Zj4
 cases hv:ZG ls p w with
 | some l =>
  have e:=h.1 l hv;simp[Zf6,e,ZbK]
 | none =>
  obtain⟨e',e⟩:=h.2 hv;simp[Zf6,e,ZbK]
def ZaL(ls:List Lk)(p:List Str):List Str:=SO.srtS (ddS ((ls.filter (Zaw p)).map (·.wd)))
theorem Zp4{ls:List Lk}{p:List Str}{w:Str}(h:w∈ZaL ls p):∃l,ZG ls p w=some l/\l∈ls:=by
 have h1:=(SO.srtS_perm _).mem_iff.mp h;rw[ZcP] at h1;obtain⟨l,h2,h3⟩:=Y9.mp h1;obtain⟨h4,h5⟩:=Wf.mp h2;have h6:l∈ls.filter fun l=>decide (l.wd=w) && Zaw p l:=Wf.mpr ⟨h4,by rw[h5,Yv h3]; rfl⟩;unfold ZG;cases hf:ls.filter fun l=>decide (l.wd=w) && Zaw p l with
 | nil=>rw[hf] at h6; cases h6
 | cons x xs =>
  refine⟨x,rfl,?_⟩;have:x∈ls.filter fun l=>decide (l.wd=w) && Zaw p l:=by rw[hf]; exact Yt
  exact (Wf.mp this).1
theorem Zj3(ls:List Lk)(p:List Str):(ZaL ls p).length<=ls.length:=by
 unfold ZaL;rw[(SO.srtS_perm _).length_eq];refine YI (ZgI _) ?_;rw[Yr];exact VS _ _
theorem ZsM{ls:List Lk}{p:List Str}{w:Str}{l:Lk}(h:ZG ls p w=some l):l∈ls:=by
 unfold ZG at h;exact (Wf.mp (List.mem_of_mem_head? h)).1
theorem ZlJ(ss:List Str)(hs:ss.length<64)(st:Sto):ZdZ [.lst (ss.map .str)] st = .ok ((SO.srtS (ddS ss)).map .str) st:=by
 simp only[ZdZ,ZN,Zf4,Yg hs]
theorem Zmk(ls:List Lk)(hl:ls.length<=8)(p:List Str)(st:Sto):Zdo [Zk ls,pl p] st = .ok (.lst ((ZaL ls p).map .str)) st:=by
 have e1:Z1 (fun _=>True) (ZH 0) ZgC Zg2 (ls.map lkD) [none,some (pl p)] st [] = .ok ((ls.filter (Zaw p)).map fun l => .str l.wd) st:=by
  rw[ZeJ lkD (Zaw p) (fun l => .str l.wd) (fun ρ => ∃a,ρ=[a,some (pl p)]) trivial ls _ [] ⟨_,rfl⟩ (by simp; exact ZaV (by omega))]
  ·simp
  ·rintro l hm ρ ⟨a,rfl⟩;refine⟨_,rfl,⟨_,rfl⟩,?_,fun _ => ?_⟩
   ·have q0:=lk0 l st;have q3:=Zkv p l.wh st;unfold ZgC Zaw;simp[q0,q3]
   ·unfold Zg2;simp[lk1 l st]
 have hm:(ls.filter (Zaw p)).map (fun l=>D.str l.wd)=((ls.filter (Zaw p)).map (·.wd)).map D.str:=by simp
 rw[hm] at e1;have e2:=ZlJ ((ls.filter (Zaw p)).map (·.wd)) (by
  rw[Yr];have:=VS (Zaw p) ls;omega) st
 unfold Zdo ZiH
 simp only[Ql] at e1 e2;simp[Zf6,Zat,e1,e2];rfl
def ZZ(l:Lk)(p:List Str):Option (List Str):=match l.pt with
 | .way _=>none
 | .steps xs=>ZX p xs
theorem Zjw(l:Lk)(p:List Str)(hp:p.length<=6)(st:Sto):∃st',Zbj [lkD l,pl p] st = .ok (ZL (ZZ l p)) st'/\StoK st st':=by
 have q2:=lk2 l st;have q3:=lk3 l st;cases h:l.pt with
 | way k =>
  have hk:l.kind = "go":=by unfold Lk.kind; rw[h]
  have hg:ZZ l p=none:=by unfold ZZ; rw[h]
  have q4:=ZbQ "go" "go" st;rw[hk] at q2;rw[Yv rfl] at q4;refine⟨st,?_,StoK.refl _⟩;rw[hg];unfold Zbj Zgu;simp[q2,q4,ZL]
 | steps xs =>
  have hk:l.kind≠"go":=by
   unfold Lk.kind;rw[h];cases l.op <;> simp <;> decide
  have hg:ZZ l p=ZX p xs:=by unfold ZZ; rw[h]
  have q4:=ZbQ l.kind "go" st;rw[YA hk] at q4;rw[h] at q3;obtain⟨st',e,k⟩:=Zo6 p xs hp st;refine⟨st',?_,k⟩;rw[hg];unfold Zbj Zgu;simp[q2,q3,q4,Prt.d,e]
theorem Zd0{f:D->D->Option Bool}:∀xs:List D,(∀x∈xs,f x x=some true)->Z9 f xs xs=some true
 | [],_=>rfl
 | x :: xs,h=>by rw[Z9,h x Yt,Zd0 xs fun y hy=>h y (Yl _ hy)]; rfl
def Zbu(ls:List Lk)(p:List Str)(w:Str):List D:=match ZG ls p w with
 | some l=>match ZZ l p with
  | some g=>[.tup [.str w,pl g]]
  | none=>[]
 | none=>[]
def ZdS(ls:List Lk)(p:List Str)(ws:List Str):List D:=ws.flatMap (Zbu ls p)
theorem Zpu(ls:List Lk)(p:List Str)(w:Str):(Zbu ls p w).length<=1:=by
 unfold Zbu;split
 ·split
  ·exact Yi _
  ·exact YV _
 ·exact YV _
theorem Zor(o:Option (List Str))(st:Sto):Zcw (ZL o) .non st = .ok (.bl o.isSome) st:=by cases o <;> rfl
theorem ZqG(o:Option (List Str))(st:Sto):isD (ZL o) .non st = .ok (.bl o.isNone) st:=by cases o <;> rfl
theorem ZhX{chk:Sto->Prop}(hchk:∀st,chk st)(ls:List Lk)(p:List Str)(hp:p.length<=6)(r:Nat)(st0:Sto)(hr:st0.length<=r):∀(ws:List Str) (a b:Option D) (acc:List D) (st:Sto),(∀w∈ws,∃l,ZG ls p w=some l)->acc.length+ws.length<=100->st[r]?=some (.lst acc)->StoK st0 st ->
  ∃a' b' st',ZO chk (ZH 3) ZdG (ws.map .str) [some (Zk ls),some (pl p),some (.res r),a,b] st = .nx [some (Zk ls),some (pl p),some (.res r),a',b'] st'/\st'[r]?=some (.lst (acc++ZdS ls p ws))/\StoK st0 st'
 | [],a,b,acc,st,_,_,h,hk=>⟨a,b,st,ZbN (hchk st),by simpa[ZdS] using h,hk⟩
 | w :: ws,a,b,acc,st,hw,hl,h,hk=>by
  obtain⟨l,hl1⟩:=hw w Yt;have ht:ZH 3 (.str w) [some (Zk ls),some (pl p),some (.res r),a,b]=some [some (Zk ls),some (pl p),some (.res r),some (.str w),b]:=rfl;have e1:=Zku ls p w st;rw[hl1] at e1;obtain⟨st1,e2,k1⟩:=Zjw l p hp st;have h1:=k1.fr _ _ h;have e3:=Zor (ZZ l p) st1;have hs:Zbu ls p w=match ZZ l p with | some g=>[.tup [.str w,pl g]] | none=>[]:=by unfold Zbu; rw[hl1]
  have hb:∃st2,ZdG [some (Zk ls),some (pl p),some (.res r),some (.str w),b] st = .nx [some (Zk ls),some (pl p),some (.res r),some (.str w),some (ZL (ZZ l p))] st2/\st2[r]?=some (.lst (acc++Zbu ls p w))/\StoK st0 st2:=by
   cases hg:ZZ l p with
   | none =>
    rw[hg] at e2 e3 hs;refine⟨st1,?_,by rw[hs]; simpa using h1,hk.trans k1⟩;unfold ZdG;simp[e1,ZbK,e2,e3]
   | some g =>
    rw[hg] at e2 e3 hs;have q2:(2:Nat)<=small:=by decide
    have e4:=Zic (ρ:=[some (Zk ls),some (pl p),some (.res r),some (.str w),some (pl g)]) (st:=st1) (j:=2) (i:=r) (xs:=acc) (f:=ZW (Zc (Za 3) (Zc (Za 4) Ze))) (d:=.tup [.str w,pl g]) rfl h1 (by simp[q2]) (Yz (by simp at hl; omega) (ZaV (n:=100) (by omega)));refine⟨st1.set r (.lst (acc++[.tup [.str w,pl g]])),?_,by rw[hs]; exact Zff h1,(hk.trans k1).set hr _⟩;have e3':Zcw (pl g) .non st1 = .ok (.bl true) st1:=rfl;unfold ZdG;simp[e1,ZbK,e2,e3',ZL,e4]
  obtain⟨st2,hb,h2,k2⟩:=hb;have hsl:=Zpu ls p w;obtain⟨a',b',st',e5,h5,k5⟩:=ZhX hchk ls p hp r st0 hr ws (some (.str w)) (some (ZL (ZZ l p))) (acc++Zbu ls p w) st2 (fun x hx=>hw x (Yl _ hx)) (by simp at hl ⊢; omega) h2 k2;refine⟨a',b',st',?_,?_,k5⟩
  ·rw[YF,Zbg (hchk st) ht hb];exact e5
  ·rw[h5];simp[ZdS]
def abW(w:Str):Prop:=w = "a"\/w = "b"
def Few(l:Lk):Prop:=(l.wh.length<=2/\∀w∈l.wh,abW w)/\∀xs,l.pt = .steps xs->xs.length<=2/\∀x∈xs,abW x\/x = ".."\/x = "."
theorem Zek(i:Int)(st:Sto)(h0:0<=i)(h1:i<2):∃w,ixD (.str "ab") (.int i) st = .ok (.str w) st/\abW w:=by
 have:i=0\/i=1:=by omega
 rcases this with rfl | rfl
 ·exact⟨"a",rfl,.inl rfl⟩
 ·exact⟨"b",rfl,.inr rfl⟩
theorem Zen{xs:List D}{i:Int}(h0:0<=i)(h1:i<xs.length)(st:Sto):∃d∈xs,ixD (.lst xs) (.int i) st = .ok d st:=by
 have hi:i.toNat<xs.length:=by omega
 refine⟨xs[i.toNat],QH hi,?_⟩;have e:L2.atI xs i=some xs[i.toNat]:=by
  unfold L2.atI L2.ixN;rw[Yg h0,Yg h1];simp only[Ur];exact Yj hi
 simp only[ixD,itemsOf,ZN,e]
def ZgL(l:Lk):Prop:=l.wd = "up"\/l.wd = "in"\/l.wd = "on"\/l.wd = "go"
theorem Zlg(ns:List Int)(hl:ns.length<=63)(at_:Int)(j:Nat)(ls:List Lk)(hls:ls.length<=8)(c4 c5 c6 c7 c8 c9:Option D)(st:Sto):∃l d4 d5 d6 d7 d8 d9,Zdk [some (.scr (ns.map .int)),some (.int at_),some (Zk ls),some (.int j),c4,c5,c6,c7,c8,c9] st = .nx [some (.scr (ns.map .int)),some (.int at_),some (Zk (ls++[l])),some (.int j),d4,d5,d6,d7,d8,d9] st/\Few l/\ZgL l:=by
 obtain⟨h,hh⟩:∃h:Int,h=at_+1+12 * (j:Int):=⟨_,rfl⟩;have m1:=Zco 12 (j:Int) st (Zdy 12 (j:Int) (by decide) (by decide));have q1:(1:Nat)<=small:=by decide
 have q2:(2:Nat)<=small:=by decide
 have q4:(4:Nat)<=small:=by decide
 have q6:(6:Nat)<=small:=by decide
 have d1:=Zbp ns hl h 4 (by decide) st;obtain⟨dw,hdw,x1⟩:=Zen (xs:=[.str "up",.str "in",.str "on",.str "go"]) (Za7 ns h 4 (by decide)) (Zbf ns h 4 (by decide)) st;obtain⟨w,rfl,hwd⟩:∃w:Str,dw = .str w/\(w = "up"\/w = "in"\/w = "on"\/w = "go"):=by
  simp only[Yn,YS,WL] at hdw;rcases hdw with rfl | rfl | rfl | rfl
  ·exact⟨_,rfl,.inl rfl⟩
  ·exact⟨_,rfl,.inr (.inl rfl)⟩
  ·exact⟨_,rfl,.inr (.inr (.inl rfl))⟩
  ·exact⟨_,rfl,.inr (.inr (.inr rfl))⟩
 have r1:=Za7 ns (h+3) 3 (by decide);have r2:=Zbf ns (h+3) 3 (by decide);have g1:ZbJ (Zac ns (h+3) 3)=true:=ZgA (by omega) (by omega);have d4:=Zbp ns hl (h+3) 3 (by decide) st;have hch:∀i:Nat,∃w,ixD (.str "ab") (.int (Zac ns (h+4+(i:Int)) 2)) st = .ok (.str w) st/\abW w:=fun i=>Zek _ st (Za7 ns (h+4+(i:Int)) 2 (by decide)) (Zbf ns (h+4+(i:Int)) 2 (by decide));obtain⟨f,hf⟩:∃f:Nat->Str,∀i:Nat,ixD (.str "ab") (.int (Zac ns (h+4+(i:Int)) 2)) st = .ok (.str (f i)) st/\abW (f i):=⟨fun i=>Classical.choose (hch i),fun i=>Q1 (hch i)⟩;have e2:Z1 (fun _=>True) (ZH 0) Zbw Zgr ((List.range (Zac ns (h+3) 3).toNat).map (fun (i:Nat)=>D.int (0+i))) [none,some (.scr (ns.map .int)),some (.int h)] st [] = .ok ((List.range (Zac ns (h+3) 3).toNat).map fun i=>D.str (f i)) st:=by
  rw[ZfK (fun (i:Nat)=>D.int (0+i)) (fun i=>D.str (f i)) (fun ρ => ∃a,ρ=[a,some (.scr (ns.map .int)),some (.int h)]) trivial _ _ _ ⟨_,rfl⟩ (by simp only[WH,Ws,Wv]; exact ZaV (by omega))]
  ·rfl
  ·rintro i _ ρ ⟨a,rfl⟩;refine⟨_,rfl,⟨_,rfl⟩,?_⟩;have e3:=Zbp ns hl (h+4+(i:Int)) 2 (by decide) st;have e4:=(hf i).1;unfold Zgr;simp[ZdX,e3,e4]
 obtain⟨wh,hwh⟩:∃wh:List Str,wh=(List.range (Zac ns (h+3) 3).toNat).map f:=⟨_,rfl⟩;have ewh:((List.range (Zac ns (h+3) 3).toNat).map fun i=>D.str (f i))=wh.map D.str:=by rw[hwh,Ql]; rfl
 rw[ewh] at e2;have hw1:wh.length<=2:=by rw[hwh]; simp; omega
 have hw2:∀x∈wh,abW x:=fun x hx=>by
  rw[hwh] at hx;obtain⟨i,_,rfl⟩:=Y9.mp hx;exact (hf i).2
 have hdn:∃dn,ixD (.str "ab") (.int (if (wh.length:Int)=2 then 1 else 0)) st = .ok (.str dn) st/\abW dn:=by
  by_cases c:(wh.length:Int)=2
  ·rw[Yg c]; exact Zek 1 st (by decide) (by decide)
  ·rw[Yh c]; exact Zek 0 st (by decide) (by decide)
 obtain⟨dn,xd,hdn⟩:=hdn;have l6:=ZcU wh st;have eq2:=Zfn (wh.length:Int) 2 st;have i2:intD [.bl (decide ((wh.length:Int)=2))] st = .ok (.int (if (wh.length:Int)=2 then 1 else 0)) st:=by
  by_cases c:(wh.length:Int)=2
  ·rw[Yv c,Yg c]; rfl
  ·rw[YA c,Yh c]; rfl
 have d5:=Zbp ns hl (h+1) 6 (by decide) st;obtain⟨ds,hds,x3⟩:=Zen (xs:=[pl ["a"],pl [dn],pl [".."],pl ["..", "a"],pl ["."],pl ["..", ".."]]) (Za7 ns (h+1) 6 (by decide)) (Zbf ns (h+1) 6 (by decide)) st;obtain⟨sp,rfl,hsp⟩:∃sp:List Str,ds=pl sp/\sp.length<=2/\∀x∈sp,abW x\/x = ".."\/x = ".":=by
  simp only[Yn,YS,WL] at hds;rcases hds with rfl | rfl | rfl | rfl | rfl | rfl
  ·exact⟨_,rfl,by simp,fun x hx => .inl (.inl (by simpa using hx))⟩
  ·exact⟨_,rfl,by simp,fun x hx => .inl (by rw[Ys.mp hx]; exact hdn)⟩
  ·exact⟨_,rfl,by simp,fun x hx => .inr (.inl (by simpa using hx))⟩
  ·refine⟨_,rfl,by simp,fun x hx => ?_⟩;simp only[Yn,YS,WL] at hx;rcases hx with rfl | rfl
   ·exact .inr (.inl rfl)
   ·exact .inl (.inl rfl)
  ·exact⟨_,rfl,by simp,fun x hx => .inr (.inr (by simpa using hx))⟩
  ·refine⟨_,rfl,by simp,fun x hx => ?_⟩;simp only[Yn,YS,WL] at hx;rcases hx with rfl | rfl <;> exact .inr (.inl rfl)
 have d6:=Zbp ns hl (h+2) 4 (by decide) st;obtain⟨dk,hdk,x4⟩:=Zen (xs:=[.str "open",.str "open",.str "replace",.str "go"]) (Za7 ns (h+2) 4 (by decide)) (Zbf ns (h+2) 4 (by decide)) st;have hk:(∃op:Bool,dk = .str (if op then "open" else "replace"))\/dk = .str "go":=by
  simp only[Yn,YS,WL] at hdk;rcases hdk with rfl | rfl | rfl | rfl
  ·exact .inl ⟨true,rfl⟩
  ·exact .inl ⟨true,rfl⟩
  ·exact .inl ⟨false,rfl⟩
  ·exact .inr rfl
 have ea:∀l:Lk,ZE (Zk ls) (.tup [lkD l]) st = .ok (Zk (ls++[l])) st:=fun l=>by
  have hz:(ls.map lkD).length+[lkD l].length<=small:=ZaV (by simp; omega);simp only[Zk,ZE,Yg hz];simp
 simp only[UB] at e2;rcases hk with⟨op,rfl⟩ | rfl
 ·refine⟨⟨wh,w,op,.steps sp⟩,some (.int h),some (.str w),some (pl wh),some (.tup [.str dn]),some (pl sp),some (.str (if op then "open" else "replace")),?_,⟨⟨hw1,hw2⟩,fun xs hx=>by cases hx; exact hsp⟩,hwd⟩;have q:=ZbQ (if op then "open" else "replace") "go" st;have hne:¬ ((if op then ("open" : Str) else "replace") = "go"):=by cases op <;> decide
  rw[YA hne] at q;have i0:intD [.bl false] st = .ok (.int 0) st:=rfl;have i1:ixD (.lst [pl sp,.int (-1)]) (.int 0) st = .ok (pl sp) st:=rfl;have ea':ZE (Zk ls) (.tup [.tup [pl wh,.str w,.str (if op then "open" else "replace"),pl sp]]) st = .ok (Zk (ls++[⟨wh,w,op,.steps sp⟩])) st:=ea ⟨wh,w,op,.steps sp⟩;have x3':ixD (.lst [.tup [.str "a"],.tup [.str dn],.tup [.str ".."],.tup [.str "..",.str "a"],.tup [.str "."],.tup [.str "..",.str ".."]]) (.int (Zac ns (h+1) 6)) st = .ok (pl sp) st:=x3;generalize (if op then ("open" : Str) else "replace")=kk at *;have tl:ZaW [.lst (wh.map D.str)] st = .ok (pl wh) st:=rfl;unfold Zdk;simp[m1,ZdX,<-hh,q1,q2,q4,q6,d1,x1,d4,g1,Zbv,Zat,e2,tl,l6,eq2,i2,xd,d5,x3',d6,x4,q,i0,i1,ea']
 ·refine⟨⟨wh,w,true,.way (-1)⟩,some (.int h),some (.str w),some (pl wh),some (.tup [.str dn]),some (pl sp),some (.str "go"),?_,⟨⟨hw1,hw2⟩,fun xs hx=>by cases hx⟩,hwd⟩;have q:=ZbQ "go" "go" st;rw[Yv rfl] at q;have i0:intD [.bl true] st = .ok (.int 1) st:=rfl;have i1:ixD (.lst [pl sp,.int (-1)]) (.int 1) st = .ok (.int (-1)) st:=rfl;have ea':ZE (Zk ls) (.tup [.tup [pl wh,.str w,.str "go",.int (-1)]]) st = .ok (Zk (ls++[⟨wh,w,true,.way (-1)⟩])) st:=ea ⟨wh,w,true,.way (-1)⟩;have x3':ixD (.lst [.tup [.str "a"],.tup [.str dn],.tup [.str ".."],.tup [.str "..",.str "a"],.tup [.str "."],.tup [.str "..",.str ".."]]) (.int (Zac ns (h+1) 6)) st = .ok (pl sp) st:=x3;have tl:ZaW [.lst (wh.map D.str)] st = .ok (pl wh) st:=rfl;unfold Zdk;simp[m1,ZdX,<-hh,q1,q2,q4,q6,d1,x1,d4,g1,Zbv,Zat,e2,tl,l6,eq2,i2,xd,d5,x3',d6,x4,q,i0,i1,ea']
theorem Znp(ns:List Int)(hl:ns.length<=63)(at_:Int)(st:Sto):∃ls,Zb6 [.scr (ns.map .int),.int at_] st = .ok (Zk ls) st/\ls.length<=5/\(∀l∈ls,Few l)/\∀l∈ls,ZgL l:=by
 have d1:=Zbp ns hl at_ 6 (by decide) st;have r1:=Za7 ns at_ 6 (by decide);have r2:=Zbf ns at_ 6 (by decide);have g1:ZbJ (Zac ns at_ 6)=true:=ZgA (by omega) (by omega);obtain⟨ρ1,st1,f1,⟨rfl,ls,c3,c4,c5,c6,c7,c8,c9,rfl,hn,hok⟩⟩:=Zsv (chk:=fun _=>True) (t:=ZH 3) (g:=Zdk) (f:=fun (i:Nat)=>D.int (0+i))
  (fun j ρ st'=>st'=st/\∃ls c3 c4 c5 c6 c7 c8 c9,ρ=[some (.scr (ns.map .int)),some (.int at_),some (Zk ls),c3,c4,c5,c6,c7,c8,c9]/\ls.length=j/\∀l∈ls,Few l/\ZgL l) (fun _ _ _ _=>trivial) (Zac ns at_ 6).toNat
  (by
   rintro j hj ρ st' ⟨rfl,ls,c3,c4,c5,c6,c7,c8,c9,rfl,hn,hok⟩;obtain⟨l,d4,d5,d6,d7,d8,d9,e,ol⟩:=Zlg ns hl at_ j ls (by omega) c4 c5 c6 c7 c8 c9 st';refine⟨[some (.scr (ns.map .int)),some (.int at_),some (Zk ls),some (.int j),c4,c5,c6,c7,c8,c9],_,st',?_,e,rfl,_,_,_,_,_,_,_,_,rfl,by simp[hn],fun x hx => ?_⟩
   ·rw[UB];rfl
   ·rcases YJ.mp hx with h | h
    ·exact hok x h
    ·rw[Ys.mp h]; exact ol) [some (.scr (ns.map .int)),some (.int at_),some (Zk []),none,none,none,none,none,none,none] st ⟨rfl,[],none,none,none,none,none,none,none,rfl,rfl,fun x hx=>by cases hx⟩
 refine⟨ls,?_,by omega,fun l hm=>(hok l hm).1,fun l hm=>(hok l hm).2⟩;simp only[UB] at f1;have f1':ZO (fun _=>True) (ZH 3) Zdk ((List.range (Zac ns at_ 6).toNat).map fun (i:Nat)=>D.int i) [some (.scr (ns.map .int)),some (.int at_),some (.tup []),none,none,none,none,none,none,none] st1 = .nx [some (.scr (ns.map .int)),some (.int at_),some (Zk ls),c3,c4,c5,c6,c7,c8,c9] st1:=f1;unfold Zb6 ZjK;simp[d1,g1,Zbv,f1']
theorem ZfM(st:Sto)(b:List Str):∀gs:List (List Str),inN st depth (pl b) (gs.map pl)=some (decide (b∈gs))
 | []=>by simp[inN]
 | g :: gs=>by
  rw[YF];unfold inN;rw[ZfM st b gs,Zd6 st depth _ _ (Zc9 g) (Zc9 b)];have e:pl g=pl b->g=b:=fun h=>by
   have h':g.map D.str=b.map D.str:=by
    have:=congrArg (fun d=>match d with | D.tup xs=>xs | _=>[]) h;exact this
   exact str_inj.mp h'
  by_cases h1:g=b
  ·subst h1;simp
  ·have h2:¬ b=g:=fun h=>h1 h.symm;simp[h2];exact fun h=>absurd (e h) h1
theorem ZfG{st:Sto}(r:List Str)(E:List (List Str)):ZbS (pl r) (.lst (E.map pl)) st = .ok (.bl (!decide (r∈E))) st:=by
 unfold ZbS;show (match inN st depth (pl r) (E.map pl) with | some b=>_ | none=>_)=_;rw[ZfM]
theorem ZeC{st:Sto}{r:Nat}{f:List Str->D}{ks:List (List Str)}(hr:st[r]?=some (.dtt (dpl f ks)))(g:List Str):dAt st (.res r) (pl g)=some (if g∈ks then some (f g) else none):=by
 unfold dAt;simp only[hr];rw[Yg (by rw[Zd8]; rfl),ZjJ]
theorem Zqn(c0 c1 c2 c4:Option D)(f:List Str->List Str)(ks F:List (List Str))(p:List Str)(w:Str)(g:List Str)(hp:p∈ks)(hfp:(f p).length<=200)(hks:ks.length<=200)(hF:F.length<=200)(st:Sto)(r u:Nat)(hr:st[r]?=some (.dtt (dpl (fun q=>pl (f q)) ks)))(hu:st[u]?=some (.lst (F.map pl)))(hru:r≠u) :
  ZdF [c0,c1,c2,some (.res r),c4,some (.res u),some (pl p),some (.str w),some (pl g)] st = .nx [c0,c1,c2,some (.res r),c4,some (.res u),some (pl p),some (.str w),some (pl g)] (if g∈ks then st else (st.set r (.dtt (dpl (fun q=>pl (if q=g then f p++[w] else f q)) (ks++[g])))).set u (.lst ((F++[g]).map pl))):=by
 have e1:Zbr (pl g) (.res r) st = .ok (.bl (!decide (g∈ks))) st:=by
  show Zch (pl g) (.res r) st=_;unfold Zch;rw[ZeC hr g];by_cases h:g∈ks <;> simp[h]
 by_cases h:g∈ks
 ·rw[Yv h] at e1;rw[Yg h];unfold ZdF;simp[e1]
 ·rw[YA h] at e1;rw[Yh h];have e2:dAt st (.res r) (pl p)=some (some (pl (f p))):=by rw[ZeC hr p,Yg hp]
  have hr':r<st.length:=(Yc.mp hr).1;have e3:ZE (pl (f p)) (.tup [.str w]) st = .ok (pl (f p++[w])) st:=by
   have:=Zpe (f p) [w] st (ZaV (by simp; omega));exact this
  have e4:Zbh st (.res r) (pl g) (pl (f p++[w]))=some (st.set r (.dtt (dpl (fun q=>pl (if q=g then f p++[w] else f q)) (ks++[g])))):=by
   unfold Zbh;simp only[hr];rw[Yg ⟨by rw[Zd8]; rfl,by simp only[dpl,Yr]; exact Qo hks (by decide)⟩,ZhU,Yh h];congr 3;congr 1;funext q;by_cases e:q=g <;> simp[e]
  have hu2:(st.set r (.dtt (dpl (fun q=>pl (if q=g then f p++[w] else f q)) (ks++[g]))))[u]?=some (.lst (F.map pl)):=by
   rw[YC hru]; exact hu
  have q1:(1:Nat)<=small:=by decide
  have hFs:(F.map pl).length<small:=by rw[Yr]; exact Qo hF (by decide)
  have hFs':F.length<small:=by simpa using hFs
  generalize hst:st.set r (.dtt (dpl (fun q=>pl (if q=g then f p++[w] else f q)) (ks++[g])))=st2 at *;unfold ZdF;simp[e1,Zmz,ZgZ,e2,e3,e4,q1,ZaZ,hu2,hFs']
structure WS where
 f:List Str->List Str
 ks:List (List Str)
 F:List (List Str)
def WS.add(p:List Str)(s:WS)(x:Str×List Str):WS:=if x.2∈s.ks then s else ⟨fun q=>if q=x.2 then s.f p++[x.1] else s.f q,s.ks++[x.2],s.F++[x.2]⟩
structure WAt(st:Sto)(r u:Nat)(s:WS):Prop where
 d:st[r]?=some (.dtt (dpl (fun q=>pl (s.f q)) s.ks))
 l:st[u]?=some (.lst (s.F.map pl))
theorem WS.add_f{p:List Str}{s:WS}(hp:p∈s.ks)(x:Str×List Str):p∈(s.add p x).ks/\(s.add p x).f p=s.f p:=by
 unfold WS.add;by_cases h:x.2∈s.ks
 ·rw[Yg h]; exact⟨hp,rfl⟩
 ·rw[Yh h];refine⟨by simp[hp],?_⟩;have:¬ p=x.2:=fun e=>h (e ▸ hp);simp[this]
theorem WS.add_len(p:List Str)(s:WS)(x:Str×List Str):(s.add p x).ks.length<=s.ks.length+1/\(s.add p x).F.length<=s.F.length+1:=by
 unfold WS.add;by_cases h:x.2∈s.ks
 ·rw[Yg h]; omega
 ·rw[Yh h]; simp
theorem ZiJ(c0 c1 c2 c4:Option D)(p:List Str)(r u:Nat)(hru:r≠u){chk:Sto->Prop}(st0:Sto)(hchk:∀st,(∀j,j≠r->j≠u->st[j]?=st0[j]?)->chk st):∀(xs:List (Str×List Str)) (s:WS) (c7 c8:Option D) (st:Sto),p∈s.ks->(s.f p).length<=200->s.ks.length+xs.length<=200->s.F.length+xs.length<=200->WAt st r u s->(∀j,j≠r->j≠u->st[j]?=st0[j]?) ->
  ∃c7' c8' st',ZO chk (Za2 [7,8]) ZdF (xs.map fun x=>D.tup [.str x.1,pl x.2]) [c0,c1,c2,some (.res r),c4,some (.res u),some (pl p),c7,c8] st = .nx [c0,c1,c2,some (.res r),c4,some (.res u),some (pl p),c7',c8'] st'/\WAt st' r u (xs.foldl (WS.add p) s)/\(∀j,j≠r->j≠u->st'[j]?=st0[j]?)
 | [],s,c7,c8,st,hp,_,_,_,W,hj=>⟨c7,c8,st,ZbN (hchk st hj),W,hj⟩
 | x :: xs,s,c7,c8,st,hp,hf,hk,hF,W,hj=>by
  have e:=Zqn c0 c1 c2 c4 s.f s.ks s.F p x.1 x.2 hp hf (by simp at hk; omega) (by simp at hF; omega) st r u W.d W.l hru;obtain⟨a1,a2⟩:=s.add_f hp x;obtain⟨b1,b2⟩:=s.add_len p x;obtain⟨st2,hst2⟩:∃st2,st2=(if x.2∈s.ks then st else (st.set r (.dtt (dpl (fun q=>pl (if q=x.2 then s.f p++[x.1] else s.f q)) (s.ks++[x.2])))).set u (.lst ((s.F++[x.2]).map pl))):=⟨_,rfl⟩;rw[<-hst2] at e;have hr':r<st.length:=(Yc.mp W.d).1;have hu':u<st.length:=(Yc.mp W.l).1;have W2:WAt st2 r u (s.add p x):=by
   unfold WS.add;by_cases h:x.2∈s.ks
   ·rw[Yg h] at hst2 ⊢;rw[hst2]; exact W
   ·rw[Yh h] at hst2 ⊢;rw[hst2];constructor
    ·rw[YC (Y7 hru),YT hr']
    ·rw[YT (by simpa using hu')]
  have hj2:∀j,j≠r->j≠u->st2[j]?=st0[j]?:=fun j h1 h2=>by
   rw[hst2];by_cases h:x.2∈s.ks
   ·rw[Yg h]; exact hj j h1 h2
   ·rw[Yh h,YC (Y7 h2),YC (Y7 h1)]; exact hj j h1 h2
  obtain⟨c7',c8',st',g1,g2,g3⟩:=ZiJ c0 c1 c2 c4 p r u hru st0 hchk xs (s.add p x) (some (.str x.1)) (some (pl x.2)) st2 a1 (by rw[a2]; exact hf) (by simp at hk; omega) (by simp at hF; omega) W2 hj2;refine⟨c7',c8',st',?_,g2,g3⟩;rw[YF,Zbg (hchk st hj) (ρ1:=[c0,c1,c2,some (.res r),c4,some (.res u),some (pl p),some (.str x.1),some (pl x.2)]) rfl e];exact g1
def ZbA(ls:List Lk)(p:List Str)(w:Str):List (Str×List Str):=match ZG ls p w with
 | some l=>match ZZ l p with
  | some g=>[(w,g)]
  | none=>[]
 | none=>[]
def Zm(ls:List Lk)(p:List Str):List (Str×List Str):=(ZaL ls p).flatMap (ZbA ls p)
theorem ZpE(ls:List Lk)(p:List Str)(w:Str):Zbu ls p w=(ZbA ls p w).map fun x=>D.tup [.str x.1,pl x.2]:=by
 unfold Zbu ZbA;cases ZG ls p w with
 | none=>rfl
 | some l =>
  dsimp only;cases ZZ l p <;> rfl
theorem Zpk(ls:List Lk)(p:List Str):ZdS ls p (ZaL ls p)=(Zm ls p).map fun x=>D.tup [.str x.1,pl x.2]:=by
 unfold ZdS Zm;rw[List.map_flatMap];congr 1;funext w;exact ZpE ls p w
theorem Zi9(ls:List Lk)(p:List Str):(Zm ls p).length<=ls.length:=by
 have h:∀ws:List Str,(ws.flatMap (ZbA ls p)).length<=ws.length:=by
  intro ws
  induction ws with
  | nil=>exact Yi _
  | cons w ws ih =>
   rw[List.flatMap_cons,Yy,YB];have:(ZbA ls p w).length<=1:=by
    unfold ZbA;cases ZG ls p w with
    | none=>simp
    | some l =>
     dsimp only;cases ZZ l p <;> simp
   omega
 exact YI (h _) (Zj3 ls p)
theorem Zg0(ls:List Lk)(hl:ls.length<=8)(p:List Str)(hp:p.length<=6)(st:Sto):∃st',ZaG [Zk ls,pl p] st = .ok (.res st.length) st'/\st'[st.length]?=some (.lst ((Zm ls p).map fun x=>D.tup [.str x.1,pl x.2]))/\StoK st st':=by
 have hwl:=Zj3 ls p;obtain⟨a',b',st',e,h,k⟩:=ZhX (chk:=fun _=>True) (fun _=>trivial) ls p hp st.length st (Yi _) (ZaL ls p) none none [] (st++[.lst []]) (fun w hw=>by
  obtain⟨l,h1,_⟩:=Zp4 hw;exact⟨l,h1⟩) (by simp; omega) (Zd2 _ _) (StoK.app _ _)
 have e1:=Zmk ls hl p (st++[.lst []]);refine⟨st',?_,by rw[<-Zpk]; simpa using h,k⟩;have ei:∀st1,itemsOf st1 (.lst ((ZaL ls p).map D.str))=some ((ZaL ls p).map D.str):=fun _=>rfl;have q:(0:Nat)<=small:=by decide
 unfold ZaG Zki;generalize ZaL ls p=ws at *;simp[e1,ei,e,q]
theorem Zr6(ls:List Lk)(hl:ls.length<=8)(c1 c2 c4:Option D)(p:List Str)(hp6:p.length<=6)(r u:Nat)(hru:r≠u)(s:WS)(c7 c8:Option D)(st:Sto)(hp:p∈s.ks)(hf:(s.f p).length<=200)(hk:s.ks.length<=190)(hF:s.F.length<=190)(W:WAt st r u s) :
  ∃c7' c8' st',ZcZ [some (Zk ls),c1,c2,some (.res r),c4,some (.res u),some (pl p),c7,c8] st = .nx [some (Zk ls),c1,c2,some (.res r),c4,some (.res u),some (pl p),c7',c8'] st'/\WAt st' r u ((Zm ls p).foldl (WS.add p) s)/\(∀j x,j≠r->j≠u->st[j]?=some x->st'[j]?=some x):=by
 obtain⟨st1,e1,h1,k1⟩:=Zg0 ls hl p hp6 st;have hr':r<st.length:=(Yc.mp W.d).1;have hu':u<st.length:=(Yc.mp W.l).1;have hn:=Zi9 ls p;have W1:WAt st1 r u s:=⟨k1.fr r _ W.d,k1.fr u _ W.l⟩;have hit:∀st2:Sto,(∀j,j≠r->j≠u->st2[j]?=st1[j]?)->itemsOf st2 (.res st.length)=some ((Zm ls p).map fun x=>D.tup [.str x.1,pl x.2]):=fun st2 h2=>by
  have:=h2 st.length (by omega) (by omega);rw[h1] at this;simp[itemsOf,ZN,this]
 obtain⟨c7',c8',st',g1,g2,g3⟩:=ZiJ (some (Zk ls)) c1 c2 c4 p r u hru (chk:=fun st2=>itemsOf st2 (.res st.length)=some ((Zm ls p).map fun x=>D.tup [.str x.1,pl x.2])) st1 hit (Zm ls p) s c7 c8 st1 hp hf (by omega) (by omega) W1 fun _ _ _=>rfl;refine⟨c7',c8',st',?_,g2,fun j x h2 h3 h4=>by rw[g3 j h2 h3]; exact k1.fr j x h4⟩;have i1:=hit st1 fun _ _ _=>rfl;have hd:Zam (Zj ZaG (Zc (Za 0) (Zc (Za 6) Ze))) [some (Zk ls),c1,c2,some (.res r),c4,some (.res u),some (pl p),c7,c8] st = .ok ((Zm ls p).map (fun x=>D.tup [.str x.1,pl x.2]),fun st2=>itemsOf st2 (.res st.length)=some ((Zm ls p).map fun x=>D.tup [.str x.1,pl x.2])) st1:=by
  simp[-List.map_map,e1,i1]
 unfold ZcZ;rw[Zeg,hd];exact g1
theorem WS.fold_ks{p:List Str}:∀(xs:List (Str×List Str)) (s:WS) (q:List Str),q∈s.ks->q∈(xs.foldl (WS.add p) s).ks
 | [],_,_,h=>h
 | x :: xs,s,q,h=>by
  rw[Va];refine WS.fold_ks xs _ q ?_;unfold WS.add;by_cases c:x.2∈s.ks
  ·rw[Yg c]; exact h
  ·rw[Yh c]; simp[h]
def Zcm(ls:List Lk)(ring:List (List Str))(s:WS):WS:=ring.foldl (fun s p=>(Zm ls p).foldl (WS.add p) s) s
theorem Zih(ls:List Lk)(hl:ls.length<=8)(c1 c2 c4:Option D)(r u:Nat)(hru:r≠u)(G:WS->Prop)(hG:∀s,G s->(∀p∈s.ks,p.length<=6/\(s.f p).length<=200)/\s.ks.length<=190/\s.F.length<=190)(hadd:∀s p,G s->p∈s.ks->G ((Zm ls p).foldl (WS.add p) s)){chk:Sto->Prop}(st0:Sto)(hchk:∀st,(∀j x,j≠r->j≠u->st0[j]?=some x->st[j]?=some x)->chk st) :
  ∀(ring:List (List Str)) (s:WS) (c6 c7 c8:Option D) (st:Sto),G s->(∀p∈ring,p∈s.ks)->WAt st r u s->(∀j x,j≠r->j≠u->st0[j]?=some x->st[j]?=some x) ->
  ∃c6' c7' c8' st',ZO chk (ZH 6) ZcZ (ring.map pl) [some (Zk ls),c1,c2,some (.res r),c4,some (.res u),c6,c7,c8] st = .nx [some (Zk ls),c1,c2,some (.res r),c4,some (.res u),c6',c7',c8'] st'/\WAt st' r u (Zcm ls ring s)/\G (Zcm ls ring s)/\(∀j x,j≠r->j≠u->st0[j]?=some x->st'[j]?=some x)
 | [],s,c6,c7,c8,st,g,_,W,hj=>⟨c6,c7,c8,st,ZbN (hchk st hj),W,g,hj⟩
 | p :: ring,s,c6,c7,c8,st,g,hr,W,hj=>by
  have hp:=hr p (Yt ..);obtain⟨b1,b2,b3⟩:=hG s g;obtain⟨c7',c8',st1,e1,W1,k1⟩:=Zr6 ls hl c1 c2 c4 p (b1 p hp).1 r u hru s c7 c8 st hp (b1 p hp).2 b2 b3 W;obtain⟨d6,d7,d8,st2,e2,W2,g2,k2⟩:=Zih ls hl c1 c2 c4 r u hru G hG hadd st0 hchk ring _ (some (pl p)) c7' c8' st1 (hadd s p g hp) (fun q hq=>WS.fold_ks _ s q (hr q (Yl _ hq))) W1 fun j x h1 h2 h3=>k1 j x h1 h2 (hj j x h1 h2 h3);refine⟨d6,d7,d8,st2,?_,W2,g2,k2⟩;rw[YF,Zbg (hchk st hj) (ρ1:=[some (Zk ls),c1,c2,some (.res r),c4,some (.res u),some (pl p),c7,c8]) rfl e1];exact e2
theorem Zpb(ls:List Lk)(hl:ls.length<=8)(c1 c2:Option D)(r:Nat)(G:WS->Prop)(hG:∀s,G s->(∀p∈s.ks,p.length<=6/\(s.f p).length<=200)/\s.ks.length<=190/\s.F.length<=190)(hadd:∀s p,G s->p∈s.ks->G ((Zm ls p).foldl (WS.add p) s))
  (f:List Str->List Str) (ks ring:List (List Str)) (dr:D) (c5 c6 c7 c8:Option D) (st:Sto) (hr:st[r]?=some (.dtt (dpl (fun q=>pl (f q)) ks))) (hdr:∀st':Sto,(∀j x,j≠r->j≠st.length->st[j]?=some x->st'[j]?=some x)->itemsOf st' dr=some (ring.map pl)) (g:G ⟨f,ks,[]⟩) (hring:∀p∈ring,p∈ks) :
  ∃c6' c7' c8' st',(Zl (ZaC 5 (Z6 Ze)) (Zl (ZaQ (Zam (Za 4)) (ZH 6) ZcZ) (ZF 4 (Za 5)))) [some (Zk ls),c1,c2,some (.res r),some dr,c5,c6,c7,c8] st = .nx [some (Zk ls),c1,c2,some (.res r),some (.res st.length),some (.res st.length),c6',c7',c8'] st'/\WAt st' r st.length (Zcm ls ring ⟨f,ks,[]⟩)/\G (Zcm ls ring ⟨f,ks,[]⟩)/\(∀j x,j≠r->st[j]?=some x->st'[j]?=some x):=by
 have hr':r<st.length:=(Yc.mp hr).1;have q0:(0:Nat)<=small:=by decide
 have app:∀j x,st[j]?=some x->(st++[S.lst []])[j]?=some x:=fun j x h=>by
  rw[YD (Yc.mp h).1]; exact h
 have W0:WAt (st++[.lst []]) r st.length ⟨f,ks,[]⟩:=⟨app r _ hr,by simp⟩;have hch:∀st':Sto,(∀j x,j≠r->j≠st.length->(st++[S.lst []])[j]?=some x->st'[j]?=some x)->itemsOf st' dr=some (ring.map pl):=fun st' h=>hdr st' fun j x h1 h2 h3=>h j x h1 h2 (app j x h3);obtain⟨c6',c7',c8',st',e,W,g2,k⟩:=Zih ls hl c1 c2 (some dr) r st.length (by omega) G hG hadd (chk:=fun st2=>itemsOf st2 dr=some (ring.map pl)) (st++[.lst []]) hch ring ⟨f,ks,[]⟩ c6 c7 c8 (st++[.lst []]) g hring W0 fun j x _ _ h=>h;refine⟨c6',c7',c8',st',?_,W,g2,fun j x h1 h2=>k j x h1 (by have:=(Yc.mp h2).1; omega) (app j x h2)⟩;have i1:=hch (st++[.lst []]) fun j x _ _ h=>h;have s1:ZaC 5 (Z6 Ze) [some (Zk ls),c1,c2,some (.res r),some dr,c5,c6,c7,c8] st = .nx [some (Zk ls),c1,c2,some (.res r),some dr,some (.res st.length),c6,c7,c8] (st++[.lst []]):=by
  simp[q0]
 have hd:Zam (Za 4) [some (Zk ls),c1,c2,some (.res r),some dr,some (.res st.length),c6,c7,c8] (st++[.lst []]) = .ok (ring.map pl,fun st2=>itemsOf st2 dr=some (ring.map pl)) (st++[.lst []]):=by
  simp[-List.map_map,i1]
 rw[ZaE s1,ZaE (by rw[Zeg,hd]; exact e)];rfl
def seen(go:Option (List Str))(ks:List (List Str)):Bool:=match go with
 | some g=>decide (g∈ks)
 | none=>false
def Zc8(ls:List Lk)(go:Option (List Str)):Nat->List (List Str)->WS->Option WS
 | 0,_,_=>none
 | n+1,ring,s=>if 0<ring.length/\seen go s.ks=false then Zc8 ls go n (Zcm ls ring ⟨s.f,s.ks,[]⟩).F (Zcm ls ring ⟨s.f,s.ks,[]⟩) else some s
theorem ZrA(go:Option (List Str)){st:Sto}{r:Nat}{f:List Str->List Str}{ks:List (List Str)}(hr:st[r]?=some (.dtt (dpl (fun q=>pl (f q)) ks))):Zbr (ZL go) (.res r) st = .ok (.bl (!seen go ks)) st:=by
 cases go with
 | none =>
  show (match st[r]? with | some (.dtt _)=>Out.ok (D.bl true) st | _ => .bad)=_;rw[hr];rfl
 | some g =>
  show Zch (pl g) (.res r) st=_;unfold Zch;rw[ZeC hr g];unfold seen;by_cases h:g∈ks <;> simp[h]
structure RingAt(st:Sto)(r:Nat)(dr:D)(ring:List (List Str)):Prop where
 it:∀st':Sto,(∀j x,j≠r->st[j]?=some x->st'[j]?=some x)->itemsOf st' dr=some (ring.map pl)/\ZA [dr] st' = .ok (.int ring.length) st'
theorem Zon{st:Sto}{r u:Nat}(hu:u≠r){ring:List (List Str)}(hl:ring.length<=200)(h:st[u]?=some (.lst (ring.map pl))):RingAt st r (.res u) ring:=⟨fun st' k=>by
 have h2:=k u _ hu h;refine⟨by simp[itemsOf,ZN,h2],?_⟩;simp[ZA,ZN,itemsOf,h2,ZaV (show ring.length<=1000 by omega)]⟩
theorem ZiB(ls:List Lk)(hl:ls.length<=8)(c1:Option D)(go:Option (List Str))(r:Nat)(G:WS->Prop)(hG:∀s,G s->(∀p∈s.ks,p.length<=6/\(s.f p).length<=200)/\s.ks.length<=190/\s.F.length<=190)(hadd:∀s p,G s->p∈s.ks->G ((Zm ls p).foldl (WS.add p) s))(h0:∀s,G s->G ⟨s.f,s.ks,[]⟩/\∀p∈s.F,p∈s.ks) :
  ∀(n:Nat) (ring:List (List Str)) (s s':WS) (dr:D) (c5 c6 c7 c8:Option D) (st:Sto),Zc8 ls go n ring s=some s'->G s->(∀p∈ring,p∈s.ks)->st[r]?=some (.dtt (dpl (fun q=>pl (s.f q)) s.ks))->RingAt st r dr ring ->
  ∃c4' c5' c6' c7' c8' st',Zbq n (Zcz (dB (Zg gtD (Zj ZA (Zc (Za 4) Ze)) (dC (.int 0)))) (dB (Zg Zbr (Za 2) (Za 3)))) (Zl (ZaC 5 (Z6 Ze)) (Zl (ZaQ (Zam (Za 4)) (ZH 6) ZcZ) (ZF 4 (Za 5)))) [some (Zk ls),c1,some (ZL go),some (.res r),some dr,c5,c6,c7,c8] st = .nx [some (Zk ls),c1,some (ZL go),some (.res r),c4',c5',c6',c7',c8'] st'/\st'[r]?=some (.dtt (dpl (fun q=>pl (s'.f q)) s'.ks))/\G s'/\(∀j x,j≠r->st[j]?=some x->st'[j]?=some x)
 | 0,_,_,_,_,_,_,_,_,_,e,_,_,_,_=>by cases e
 | n+1,ring,s,s',dr,c5,c6,c7,c8,st,e,g,hring,hr,R=>by
  obtain⟨i1,i2⟩:=R.it st fun _ _ _ h=>h;have sn:=ZrA go hr;have gt:gtD (.int (ring.length:Int)) (.int 0) st = .ok (.bl (decide ((0:Int)<ring.length))) st:=rfl;unfold Zc8 at e;unfold Zbq;by_cases c:0<ring.length/\seen go s.ks=false
  ·rw[Yg c] at e;rw[Yv (by omega)] at gt;rw[c.2] at sn;obtain⟨d6,d7,d8,st1,e1,W1,g1,k1⟩:=Zpb ls hl c1 (some (ZL go)) r G hG hadd s.f s.ks ring dr c5 c6 c7 c8 st hr (fun st' h=>(R.it st' fun j x h1 h2=>h j x h1 (by have:=(Yc.mp h2).1; omega) h2).1) (h0 s g).1 hring;have hr':r<st.length:=(Yc.mp hr).1;obtain⟨b1,b2,b3⟩:=hG _ g1;obtain⟨f4,f5,f6,f7,f8,st2,e2,r2,g2,k2⟩:=ZiB ls hl c1 go r G hG hadd h0 n _ _ s' (.res st.length) (some (.res st.length)) d6 d7 d8 st1 e g1 (h0 _ g1).2 W1.d (Zon (by omega) (by omega) W1.l);refine⟨f4,f5,f6,f7,f8,st2,?_,r2,g2,fun j x h1 h2=>k2 j x h1 (k1 j x h1 h2)⟩;have t:Zcz (dB (Zg gtD (Zj ZA (Zc (Za 4) Ze)) (dC (.int 0)))) (dB (Zg Zbr (Za 2) (Za 3))) [some (Zk ls),c1,some (ZL go),some (.res r),some dr,c5,c6,c7,c8] st = .ok true st:=by
    simp[i2,gt,sn]
   rw[t,ZeO,Yg rfl,e1];exact e2
  ·rw[Yh c] at e;cases e;refine⟨some dr,c5,c6,c7,c8,st,?_,hr,g,fun _ _ _ h=>h⟩;have t:Zcz (dB (Zg gtD (Zj ZA (Zc (Za 4) Ze)) (dC (.int 0)))) (dB (Zg Zbr (Za 2) (Za 3))) [some (Zk ls),c1,some (ZL go),some (.res r),some dr,c5,c6,c7,c8] st = .ok false st:=by
    by_cases c2:(0:Int)<ring.length
    ·rw[Yv c2] at gt;have:seen go s.ks=true:=by
      cases h:seen go s.ks with
      | true=>rfl
      | false=>exact absurd ⟨by omega,h⟩ c
     rw[this] at sn;simp[i2,gt,sn]
    ·rw[YA c2] at gt;simp[i2,gt]
   rw[t,ZeO,Yh (by simp)]
theorem StoK.of{st st':Sto}(fr:∀(j:Nat) (x:S),st[j]?=some x->st'[j]?=some x):StoK st st':=⟨fr,by
 by_cases h:st.length=0
 ·omega
 ·have h1:st[st.length - 1]?=some st[st.length - 1]:=Yj (by omega);have:=(Yc.mp (fr _ _ h1)).1;omega⟩
def WS0(start:List Str):WS:=⟨fun _=>[],[start],[]⟩
theorem Zrp(ls:List Lk)(hl:ls.length<=8)(start:List Str)(go:Option (List Str))(G:WS->Prop)(hG:∀s,G s->(∀p∈s.ks,p.length<=6/\(s.f p).length<=200)/\s.ks.length<=190/\s.F.length<=190)(hadd:∀s p,G s->p∈s.ks->G ((Zm ls p).foldl (WS.add p) s))(h0:∀s,G s->G ⟨s.f,s.ks,[]⟩/\∀p∈s.F,p∈s.ks)(g0:G (WS0 start)){s':WS}(hw:Zc8 ls go 130 [start] (WS0 start)=some s')(st:Sto) :
  ∃st',ZaS [Zk ls,pl start,ZL go] st = .ok (.res st.length) st'/\st'[st.length]?=some (.dtt (dpl (fun q=>pl (s'.f q)) s'.ks))/\G s'/\StoK st st':=by
 obtain⟨st1,hst1⟩:∃st1:Sto,st1=st++[.dtt (dpl (fun q=>pl ((WS0 start).f q)) [start])]:=⟨_,rfl⟩;have hr:st1[st.length]?=some (.dtt (dpl (fun q=>pl ((WS0 start).f q)) (WS0 start).ks)):=by rw[hst1]; simp[WS0]
 have q0:(0:Nat)<=small:=by decide
 have q1:(1:Nat)<=small:=by decide
 have R:RingAt st1 st.length (.lst [pl start]) [start]:=⟨fun st' _=>⟨rfl,rfl⟩⟩;obtain⟨c4,c5,c6,c7,c8,st',e,h,g,kf⟩:=ZiB ls hl (some (pl start)) go st.length G hG hadd h0 130 [start] (WS0 start) s' (.lst [pl start]) none none none none st1 hw g0 (fun p hp=>hp) hr R;refine⟨st',?_,h,g,StoK.of fun j x hj=>kf j x (by have:=(Yc.mp hj).1; omega) (by rw[hst1,YD (Yc.mp hj).1]; exact hj)⟩;have a1:ZdI (Za 1) (ZW Ze) [some (Zk ls),some (pl start),some (ZL go),none,none,none,none,none,none] st = .ok (.res st.length) st1:=by
  have p1:Zbh (st++[.dtt []]) (.res st.length) (pl start) (.tup [])=some st1:=by
   unfold Zbh;have:(st++[S.dtt []])[st.length]?=some (.dtt []):=by simp
   simp only[this];rw[Yg ⟨by rw[Zd8]; rfl,by decide⟩,hst1];have e2:=ZhU (fun _=>D.non) [] start (.tup []);have e3:dpl (fun _=>D.non) []=[]:=rfl;rw[e3] at e2;rw[e2];simp[dpl,WS0];rfl
  have p2:(st++[S.dtt []])[st.length]?=some (.dtt []):=by simp
  rw[ZnL];simp[q0,p1,p2]
 have b1:ZF 3 (ZdI (Za 1) (ZW Ze)) [some (Zk ls),some (pl start),some (ZL go),none,none,none,none,none,none] st = .nx [some (Zk ls),some (pl start),some (ZL go),some (.res st.length),none,none,none,none,none] st1:=by
  simp[a1]
 have b2:ZF 4 (dF (Z6 (Zc (Za 1) Ze))) [some (Zk ls),some (pl start),some (ZL go),some (.res st.length),none,none,none,none,none] st1 = .nx [some (Zk ls),some (pl start),some (ZL go),some (.res st.length),some (.lst [pl start]),none,none,none,none] st1:=by
  simp[q1]
 unfold ZaS;refine Zqo rfl ?_;unfold ZkH;refine (ZaE b1).trans ((ZaE b2).trans ((ZaE e).trans rfl))
def Zbc:Nat->List (List Str)
 | 0=>[[]]
 | n+1=>[] :: ((Zbc n).map (("a" : Str) :: ·)++(Zbc n).map (("b" : Str) :: ·))
theorem ZiY:∀(n:Nat) (p:List Str),p.length<=n->(∀w∈p,abW w)->p∈Zbc n
 | 0,[],_,_=>by simp[Zbc]
 | 0,_ :: _,h,_=>by simp at h
 | n+1,[],_,_=>by simp[Zbc]
 | n+1,w :: p,h,ha=>by
  have ih:=ZiY n p (by simpa using h) fun x hx=>ha x (Yl _ hx);rcases ha w (Yt ..) with rfl | rfl
  ·simp[Zbc,ih]
  ·simp[Zbc,ih]
theorem Zke:∀n,(Zbc n).length+1=2 ^ (n+1)
 | 0=>rfl
 | n+1=>by
  have ih:=Zke n;simp only[Zbc,YB,Yy,Yr];rw[Nat.pow_succ,<-ih];omega
theorem Zim:∀(ks l:List (List Str)),ks.Nodup->(∀x∈ks,x∈l)->ks.length<=l.length
 | [],_,_,_=>YV _
 | k :: ks,l,hn,hs=>by
  rw[W7] at hn;have hk:=hs k (Yt ..);have ih:=Zim ks (l.erase k) hn.2 fun x hx=>by
   have hne:x≠k:=fun e=>by subst e; exact hn.1 hx
   exact (List.mem_erase_of_ne hne).mpr (hs x (Yl _ hx))
  rw[UA hk] at ih;have:0<l.length:=List.length_pos_of_mem hk;simp only[YB];omega
theorem ZhL{ks:List (List Str)}(hn:ks.Nodup)(h:∀p∈ks,p.length<=6/\∀w∈p,abW w):ks.length<=127:=by
 have h1:=Zim ks (Zbc 6) hn fun p hp=>ZiY 6 p (h p hp).1 (h p hp).2;have h2:=Zke 6;omega
def Zaf(N:List Str->List (Str×List Str))(ring:List (List Str))(s:WS):WS:=ring.foldl (fun s p=>(N p).foldl (WS.add p) s) s
def ZbE(N:List Str->List (Str×List Str))(go:Option (List Str)):Nat->List (List Str)->WS->Option WS
 | 0,_,_=>none
 | n+1,ring,s=>if 0<ring.length/\seen go s.ks=false then ZbE N go n (Zaf N ring ⟨s.f,s.ks,[]⟩).F (Zaf N ring ⟨s.f,s.ks,[]⟩) else some s
inductive Wk(N:List Str->List (Str×List Str))(a:List Str):List Str->List Str->Prop
 | nil:Wk N a [] a
 | snoc {ws p w q}:Wk N a ws p->(w,q)∈N p->Wk N a (ws++[w]) q
theorem Wk.un{N:List Str->List (Str×List Str)}{a ws q:List Str}(h:Wk N a ws q):(ws=[]/\q=a)\/∃us p w,ws=us++[w]/\Wk N a us p/\(w,q)∈N p:=by
 cases h with
 | nil=>exact .inl ⟨rfl,rfl⟩
 | snoc h1 h2=>exact .inr ⟨_,_,_,rfl,h1,h2⟩
structure Tn(T:List Str->Str->List Str->Prop)(s s1:WS):Prop where
 old:∀q∈s.ks,q∈s1.ks/\s1.f q=s.f q
 new:∀q∈s1.ks,q∈s.ks\/(q∈s1.F/\∃p w,p∈s.ks/\T p w q/\s1.f q=s.f p++[w])
 all:∀p w q,T p w q->q∈s1.ks
 fr:∀q∈s1.F,q∈s.F\/(q∈s1.ks/\q ∉ s.ks)
 sub:∀q∈s.F,q∈s1.F
theorem Tn.nil(s:WS):Tn (fun _ _ _=>False) s s:=⟨fun _ h=>⟨h,rfl⟩,fun _ h => .inl h,fun _ _ _ h=>h.elim,fun _ h => .inl h,fun _ h=>h⟩
theorem Tn.comp{T1 T2 T:List Str->Str->List Str->Prop}{s s1 s2:WS}(x:Tn T1 s s1)(y:Tn T2 s1 s2)(h2:∀p w q,T2 p w q->p∈s.ks)(hT:∀p w q,T p w q ↔ (T1 p w q\/T2 p w q)):Tn T s s2:=by
 refine⟨fun q hq => ?_,fun q hq => ?_,fun p w q h => ?_,fun q hq => ?_,fun q hq=>y.sub q (x.sub q hq)⟩
 ·obtain⟨a1,a2⟩:=x.old q hq;obtain⟨b1,b2⟩:=y.old q a1;exact⟨b1,b2.trans a2⟩
 ·rcases y.new q hq with h | ⟨h1,p,w,hp,ht,hf⟩
  ·rcases x.new q h with h | ⟨h1,p,w,hp,ht,hf⟩
   ·exact .inl h
   ·exact .inr ⟨y.sub q h1,p,w,hp,(hT p w q).2 (.inl ht),((y.old q h).2).trans hf⟩
  ·have hps:=h2 p w q ht;exact .inr ⟨h1,p,w,hps,(hT p w q).2 (.inr ht),by rw[hf,(x.old p hps).2]⟩
 ·rcases (hT p w q).1 h with h | h
  ·exact (y.old q (x.all p w q h)).1
  ·exact y.all p w q h
 ·rcases y.fr q hq with h | ⟨h,h'⟩
  ·rcases x.fr q h with h | ⟨h,h'⟩
   ·exact .inl h
   ·exact .inr ⟨(y.old q h).1,h'⟩
  ·exact .inr ⟨h,fun hs=>h' (x.old q hs).1⟩
theorem Tn.add{p:List Str}{s:WS}(hp:p∈s.ks)(x:Str×List Str):Tn (fun p' w q=>p'=p/\w=x.1/\q=x.2) s (s.add p x):=by
 unfold WS.add;by_cases h:x.2∈s.ks
 ·rw[Yg h];exact⟨fun _ h=>⟨h,rfl⟩,fun _ h => .inl h,fun p' w q e=>by rw[e.2.2]; exact h,fun _ h => .inl h,fun _ h=>h⟩
 ·rw[Yh h];refine⟨fun q hq=>⟨Wn _ hq,?_⟩,fun q hq => ?_,fun p' w q e => ?_,fun q hq => ?_,fun q hq=>Wn _ hq⟩
  ·have:¬ q=x.2:=fun e=>h (e ▸ hq);simp[this]
  ·rcases YJ.mp hq with h1 | h1
   ·exact .inl h1
   ·have e:=Ys.mp h1;refine .inr ⟨YK _ h1,p,x.1,hp,⟨rfl,rfl,e⟩,?_⟩;simp[e]
  ·rw[e.2.2]; simp
  ·rcases YJ.mp hq with h1 | h1
   ·exact .inl h1
   ·exact .inr ⟨YK _ h1,by rw[Ys.mp h1]; exact h⟩
theorem Tn.fold{p:List Str}:∀(xs:List (Str×List Str)) (s:WS),p∈s.ks->Tn (fun p' w q=>p'=p/\(w,q)∈xs) s (xs.foldl (WS.add p) s)
 | [],s,_=>by
  have:=Tn.nil s;simpa using this
 | x :: xs,s,hp=>by
  have h1:=Tn.add hp x;have h2:=Tn.fold xs (s.add p x) (h1.old p hp).1;rw[Va];refine h1.comp h2 (fun p' w q h=>by rw[h.1]; exact hp) fun p' w q => ?_;rw[Yn,Prod.ext_iff];constructor
  ·rintro⟨h,h1 | h1⟩
   ·exact .inl ⟨h,h1⟩
   ·exact .inr ⟨h,h1⟩
  ·rintro (⟨h,h1⟩ | ⟨h,h1⟩)
   ·exact⟨h,.inl h1⟩
   ·exact⟨h,.inr h1⟩
theorem Tn.turn(N:List Str->List (Str×List Str)):∀(ring:List (List Str)) (s:WS),(∀p∈ring,p∈s.ks)->Tn (fun p w q=>p∈ring/\(w,q)∈N p) s (Zaf N ring s)
 | [],s,_=>by
  have:=Tn.nil s;simpa[Zaf] using this
 | p :: ring,s,h=>by
  have h1:=Tn.fold (N p) s (h p (Yt ..));have h2:=Tn.turn N ring ((N p).foldl (WS.add p) s) fun q hq=>(h1.old q (h q (Yl _ hq))).1;have e:Zaf N (p :: ring) s=Zaf N ring ((N p).foldl (WS.add p) s):=rfl;rw[e];refine h1.comp h2 (fun p' w q hq=>h p' (Yl _ hq.1)) fun p' w q => ?_;rw[Yn];constructor
  ·rintro⟨h8 | h8,h9⟩
   ·exact .inl ⟨h8,by rw[<-h8]; exact h9⟩
   ·exact .inr ⟨h8,h9⟩
  ·rintro (⟨h8,h9⟩ | ⟨h8,h9⟩)
   ·exact⟨.inl h8,by rw[h8]; exact h9⟩
   ·exact⟨.inr h8,h9⟩
structure Bf(N:List Str->List (Str×List Str))(a:List Str)(k:Nat)(ring:List (List Str))(s:WS):Prop where
 wk:∀p∈s.ks,Wk N a (s.f p) p/\(s.f p).length<=k
 ks:∀p∈ring,p∈s.ks/\(s.f p).length=k
 far:∀ws p,Wk N a ws p->ws.length<=k->p∈s.ks/\(s.f p).length<=ws.length
 rg:∀p∈s.ks,(s.f p).length=k->p∈ring
theorem Bf.start(N:List Str->List (Str×List Str))(a:List Str):Bf N a 0 [a] (WS0 a):=by
 have hm:∀p,p∈(WS0 a).ks ↔ p=a:=fun p=>Ys;refine⟨fun p hp => ?_,fun p hp=>⟨hp,rfl⟩,fun ws p h hl => ?_,fun p hp _=>hp⟩
 ·rw[(hm p).1 hp];exact⟨Wk.nil,Yi _⟩
 ·rcases h.un with⟨h1,h2⟩ | ⟨us,p',w,h1,_⟩
  ·exact⟨(hm p).2 h2,YV _⟩
  ·rw[h1] at hl; simp at hl
theorem Bf.turn{N:List Str->List (Str×List Str)}{a:List Str}{k:Nat}{ring:List (List Str)}{s:WS}(b:Bf N a k ring s):Bf N a (k+1) (Zaf N ring ⟨s.f,s.ks,[]⟩).F (Zaf N ring ⟨s.f,s.ks,[]⟩):=by
 have t:=Tn.turn N ring ⟨s.f,s.ks,[]⟩ fun p hp=>(b.ks p hp).1;generalize Zaf N ring ⟨s.f,s.ks,[]⟩=s1 at t;have hnew:∀q∈s1.ks,q ∉ s.ks->Wk N a (s1.f q) q/\(s1.f q).length=k+1/\q∈s1.F:=fun q hq hn=>by
  rcases t.new q hq with h | ⟨h1,p,w,hp,ht,hf⟩
  ·exact absurd h hn
  ·have hk:=(b.ks p ht.1).2;rw[hf];refine⟨Wk.snoc (b.wk p hp).1 ht.2,?_,h1⟩;simp[hk]
 have hF:∀q∈s1.F,q∈s1.ks/\q ∉ s.ks:=fun q hq=>by
  rcases t.fr q hq with h | h
  ·simp at h
  ·exact h
 refine⟨fun p hp => ?_,fun p hp => ?_,fun ws p h hl => ?_,fun p hp he => ?_⟩
 ·by_cases hs:p∈s.ks
  ·rw[(t.old p hs).2];have:=b.wk p hs;exact⟨this.1,by have:=this.2; dsimp only; omega⟩
  ·have:=hnew p hp hs;exact⟨this.1,by omega⟩
 ·obtain⟨h1,h2⟩:=hF p hp;exact⟨h1,(hnew p h1 h2).2.1⟩
 ·by_cases hk:ws.length<=k
  ·obtain⟨h1,h2⟩:=b.far ws p h hk;have:=t.old p h1;exact⟨this.1,by rw[this.2]; exact h2⟩
  ·rcases h.un with⟨h1,h2⟩ | ⟨us,p',w,h1,h2,h3⟩
   ·rw[h1] at hk; simp at hk
   ·have hu:us.length<=k:=by rw[h1] at hl; simp at hl; omega
    obtain⟨c1,c2⟩:=b.far us p' h2 hu;by_cases ck:(s.f p').length=k
    ·have hm:=t.all p' w p ⟨b.rg p' c1 ck,h3⟩;refine⟨hm,?_⟩;by_cases hs:p∈s.ks
     ·rw[(t.old p hs).2];have:=(b.wk p hs).2;dsimp only;omega
     ·have:=(hnew p hm hs).2.1;omega
    ·have c3:=(b.wk p' c1).2;obtain⟨d1,d2⟩:=b.far _ p (Wk.snoc (b.wk p' c1).1 h3) (by simp; omega);have:=t.old p d1;refine⟨this.1,?_⟩;rw[this.2];simp at d2;dsimp only;omega
 ·by_cases hs:p∈s.ks
  ·have h1:=(t.old p hs).2;rw[h1] at he;have:=(b.wk p hs).2;dsimp only at he;omega
  ·exact (hnew p hp hs).2.2
structure Best(N:List Str->List (Str×List Str))(a:List Str)(go:Option (List Str))(s:WS):Prop where
 wk:∀p∈s.ks,Wk N a (s.f p) p
 best:∀p∈s.ks,∀ws,Wk N a ws p->(s.f p).length<=ws.length
 all:(∃g,go=some g/\g∈s.ks)\/∀ws p,Wk N a ws p->p∈s.ks
theorem Bf.ways{N:List Str->List (Str×List Str)}{a:List Str}(go:Option (List Str)):∀(n k:Nat) (ring:List (List Str)) (s s':WS),Bf N a k ring s->ZbE N go n ring s=some s'->Best N a go s'
 | 0,_,_,_,_,_,e=>by cases e
 | n+1,k,ring,s,s',b,e=>by
  unfold ZbE at e;by_cases c:0<ring.length/\seen go s.ks=false
  ·rw[Yg c] at e;exact Bf.ways go n (k+1) _ _ s' b.turn e
  ·rw[Yh c] at e;cases e;refine⟨fun p hp=>(b.wk p hp).1,fun p hp ws hw => ?_,?_⟩
   ·by_cases hk:ws.length<=k
    ·exact (b.far ws p hw hk).2
    ·have:=(b.wk p hp).2;omega
   ·by_cases hs:seen go s.ks=true
    ·left;cases go with
     | none=>cases hs
     | some g=>exact⟨g,rfl,by simpa[seen] using hs⟩
    ·right;have hr:ring=[]:=by
      have h1:seen go s.ks=false:=by simpa using hs
      have:¬ 0<ring.length:=fun h=>c ⟨h,h1⟩;exact Wm.mp (by omega)
     intro ws p hw
     induction hw with
     | nil=>exact (b.far [] a Wk.nil (YV _)).1
     | snoc h1 h2 ih =>
      rename_i ws p w q;have h3:=(b.wk p ih).2;have h4:(s.f p).length≠k:=fun e=>by
       have:=b.rg p ih e;rw[hr] at this;cases this
      exact (b.far _ q (Wk.snoc (b.wk p ih).1 h2) (by simp; omega)).1
theorem Zsx{N:List Str->List (Str×List Str)}{a:List Str}{go:Option (List Str)}{n:Nat}{s':WS}(e:ZbE N go n [a] (WS0 a)=some s'):Best N a go s':=Bf.ways go n 0 [a] (WS0 a) s' (Bf.start N a) e
theorem Zet:∀(xs ws us:List Str),(∀w∈ws,abW w)->(∀x∈xs,abW x\/x = ".."\/x = ".")->ZX ws xs=some us->∀w∈us,abW w
 | [],ws,us,hw,_,h=>by unfold ZX at h; cases h; exact hw
 | x :: xs,ws,us,hw,hx,h=>by
  have hx':∀y∈xs,abW y\/y = ".."\/y = ".":=fun y hy=>hx y (Yl _ hy);unfold ZX at h;split at h
  ·split at h
   ·cases h
   ·exact Zet xs _ us (fun w hw'=>hw w (List.dropLast_subset _ hw')) hx' h
  ·rename_i n1;split at h
   ·exact Zet xs _ us hw hx' h
   ·rename_i n2;split at h
    ·refine Zet xs _ us (fun w hw' => ?_) hx' h;rcases YJ.mp hw' with h1 | h1
     ·exact hw w h1
     ·rw[Ys.mp h1];rcases hx x (Yt ..) with h2 | h2 | h2
      ·exact h2
      ·exact absurd h2 n1
      ·exact absurd h2 n2
    ·cases h
theorem ZhC{ls:List Lk}(hls:∀l∈ls,Few l){p:List Str}(h6:p.length<=6)(ha:∀w∈p,abW w){x:Str×List Str}(h:x∈Zm ls p):x.2.length<=6/\∀w∈x.2,abW w:=by
 unfold Zm at h;obtain⟨w,_,hw⟩:=List.mem_flatMap.mp h;unfold ZbA at hw;cases hl:ZG ls p w with
 | none=>rw[hl] at hw; cases hw
 | some l =>
  rw[hl] at hw;dsimp only at hw;cases hg:ZZ l p with
  | none=>rw[hg] at hw; cases hw
  | some g =>
   rw[hg] at hw;rw[Ys.mp hw];have hF:=hls l (ZsM hl);unfold ZZ at hg;cases hpt:l.pt with
   | way k=>rw[hpt] at hg; cases hg
   | steps xs =>
    rw[hpt] at hg;exact⟨Zfk xs p g h6 hg,Zet xs p g ha (hF.2 xs hpt).2 hg⟩
structure GW(s:WS):Prop where
 nd:s.ks.Nodup
 ab:∀p∈s.ks,p.length<=6/\∀w∈p,abW w
 sub:∀p∈s.F,p∈s.ks
 fn:s.F.Nodup
 ln:∀p∈s.ks,(s.f p).length<s.ks.length
theorem GW.add{s:WS}(g:GW s){p:List Str}(hp:p∈s.ks){x:Str×List Str}(hx:x.2.length<=6/\∀w∈x.2,abW w):GW (s.add p x):=by
 unfold WS.add;by_cases h:x.2∈s.ks
 ·rw[Yg h]; exact g
 ·rw[Yh h];refine⟨?_,fun q hq => ?_,fun q hq => ?_,?_,fun q hq => ?_⟩
  ·rw[Qy];exact⟨g.nd,by simp,fun a ha b hb e=>h (by rw[<-Ys.mp hb,<-e]; exact ha)⟩
  ·rcases YJ.mp hq with h1 | h1
   ·exact g.ab q h1
   ·rw[Ys.mp h1]; exact hx
  ·rcases YJ.mp hq with h1 | h1
   ·exact Wn _ (g.sub q h1)
   ·exact YK _ h1
  ·rw[Qy];exact⟨g.fn,by simp,fun a ha b hb e=>h (by rw[<-Ys.mp hb,<-e]; exact g.sub a ha)⟩
  ·have hp':=g.ln p hp;dsimp only;by_cases c:q=x.2
   ·rw[Yg c];simp only[Yy,YB,WH];omega
   ·rw[Yh c];rcases YJ.mp hq with h1 | h1
    ·have:=g.ln q h1;simp only[Yy,YB,WH];omega
    ·exact absurd (Ys.mp h1) c
theorem GW.fold{p:List Str}:∀(xs:List (Str×List Str)) {s:WS},GW s->p∈s.ks->(∀x∈xs,x.2.length<=6/\∀w∈x.2,abW w)->GW (xs.foldl (WS.add p) s)
 | [],_,g,_,_=>g
 | x :: xs,s,g,hp,h=>GW.fold xs (g.add hp (h x (Yt ..))) (s.add_f hp x).1 fun y hy=>h y (Yl _ hy)
def OkN(N:List Str->List (Str×List Str)):Prop:=∀p:List Str,p.length<=6->(∀w∈p,abW w)->∀x∈N p,x.2.length<=6/\∀w∈x.2,abW w
theorem ZmY{ls:List Lk}(hls:∀l∈ls,Few l):OkN (Zm ls):=fun _ h6 ha _ hx=>ZhC hls h6 ha hx
theorem GW.nextN{N:List Str->List (Str×List Str)}(hN:OkN N){s:WS}(g:GW s){p:List Str}(hp:p∈s.ks):GW ((N p).foldl (WS.add p) s) :=
 GW.fold _ g hp fun x hx=>hN p (g.ab p hp).1 (g.ab p hp).2 x hx
theorem GW.next{ls:List Lk}(hls:∀l∈ls,Few l){s:WS}(g:GW s){p:List Str}(hp:p∈s.ks):GW ((Zm ls p).foldl (WS.add p) s) :=
 GW.fold _ g hp fun _ hx=>ZhC hls (g.ab p hp).1 (g.ab p hp).2 hx
theorem GW.len{s:WS}(g:GW s):s.ks.length<=127/\s.F.length<=127:=⟨ZhL g.nd g.ab,ZhL g.fn fun p hp=>g.ab p (g.sub p hp)⟩
theorem GW.bounds{s:WS}(g:GW s):(∀p∈s.ks,p.length<=6/\(s.f p).length<=200)/\s.ks.length<=190/\s.F.length<=190:=by
 obtain⟨h1,h2⟩:=g.len;exact⟨fun p hp=>⟨(g.ab p hp).1,by have:=g.ln p hp; omega⟩,by omega,by omega⟩
theorem GW.zero{s:WS}(g:GW s):GW ⟨s.f,s.ks,[]⟩/\∀p∈s.F,p∈s.ks:=⟨⟨g.nd,g.ab,fun p hp=>by simp at hp,by simp,g.ln⟩,g.sub⟩
theorem GW.start{p:List Str}(h6:p.length<=6)(ha:∀w∈p,abW w):GW (WS0 p):=⟨by simp[WS0],fun q hq=>by rw[Ys.mp hq]; exact⟨h6,ha⟩,fun q hq=>by simp[WS0] at hq,by simp[WS0],fun q hq=>by simp[WS0]⟩
theorem WS.add_diff(p:List Str)(s:WS)(x:Str×List Str):(s.add p x).ks.length+s.F.length=s.ks.length+(s.add p x).F.length:=by
 unfold WS.add;by_cases h:x.2∈s.ks
 ·rw[Yg h]
 ·rw[Yh h];simp only[Yy,YB,WH];omega
theorem WS.fold_diff(p:List Str):∀(xs:List (Str×List Str)) (s:WS),(xs.foldl (WS.add p) s).ks.length+s.F.length=s.ks.length+(xs.foldl (WS.add p) s).F.length
 | [],_=>rfl
 | x :: xs,s=>by
  have h1:=WS.fold_diff p xs (s.add p x);have h2:=WS.add_diff p s x;rw[Va];omega
theorem ZjY(N:List Str->List (Str×List Str)):∀(ring:List (List Str)) (s:WS),(Zaf N ring s).ks.length+s.F.length=s.ks.length+(Zaf N ring s).F.length
 | [],_=>rfl
 | p :: ring,s=>by
  have h1:=ZjY N ring ((N p).foldl (WS.add p) s);have h2:=WS.fold_diff p (N p) s;have e:Zaf N (p :: ring) s=Zaf N ring ((N p).foldl (WS.add p) s):=rfl;rw[e];omega
theorem GW.turn{N:List Str->List (Str×List Str)}(hN:OkN N):∀(ring:List (List Str)) {s:WS},GW s->(∀p∈ring,p∈s.ks)->GW (Zaf N ring s)
 | [],_,g,_=>g
 | p :: ring,s,g,h=>by
  have e:Zaf N (p :: ring) s=Zaf N ring ((N p).foldl (WS.add p) s):=rfl;rw[e];exact GW.turn hN ring (g.nextN hN (h p (Yt ..))) fun q hq=>WS.fold_ks _ s q (h q (Yl _ hq))
theorem Zjv{N:List Str->List (Str×List Str)}(hN:OkN N)(go:Option (List Str)):∀(n:Nat) (ring:List (List Str)) (s:WS),GW s->(∀p∈ring,p∈s.ks)->1<=n->(ring≠[]->129<=n+s.ks.length)->∃s',ZbE N go n ring s=some s'
 | 0,_,_,_,_,h,_=>absurd h (by decide)
 | n+1,ring,s,g,hr,_,hn=>by
  unfold ZbE;by_cases c:0<ring.length/\seen go s.ks=false
  ·rw[Yg c];have hne:ring≠[]:=fun e=>by rw[e] at c; simp at c
   have h1:=hn hne;have g0:=g.zero.1;have gt:=GW.turn hN ring g0 hr;have hd:=ZjY N ring ⟨s.f,s.ks,[]⟩;have hl:=g.len.1;refine Zjv hN go n _ _ gt gt.sub (by omega) fun hF => ?_;have:0<(Zaf N ring ⟨s.f,s.ks,[]⟩).F.length:=QL.mpr hF;simp only[WH,Uu] at hd;omega
  ·rw[Yh c];exact⟨s,rfl⟩
theorem ZqD{N:List Str->List (Str×List Str)}(hN:OkN N)(start:List Str)(h6:start.length<=6)(ha:∀w∈start,abW w)(go:Option (List Str)):∃s',ZbE N go 130 [start] (WS0 start)=some s' :=
 Zjv hN go 130 [start] (WS0 start) (GW.start h6 ha) (fun p hp=>hp) (by decide) fun _=>by simp[WS0]
theorem ZiM(ls:List Lk)(go:Option (List Str)):∀(n:Nat) (ring:List (List Str)) (s:WS),Zc8 ls go n ring s=ZbE (Zm ls) go n ring s
 | 0,_,_=>rfl
 | n+1,ring,s=>by
  unfold Zc8 ZbE;have e:Zcm ls ring ⟨s.f,s.ks,[]⟩=Zaf (Zm ls) ring ⟨s.f,s.ks,[]⟩:=rfl;rw[e,ZiM ls go n]
theorem Zhy{ls:List Lk}(hl:ls.length<=8)(hls:∀l∈ls,Few l)(start:List Str)(h6:start.length<=6)(ha:∀w∈start,abW w)(go:Option (List Str))(st:Sto):∃s' st',GW s'/\Best (Zm ls) start go s'/\ZaS [Zk ls,pl start,ZL go] st = .ok (.res st.length) st'/\st'[st.length]?=some (.dtt (dpl (fun q=>pl (s'.f q)) s'.ks))/\StoK st st':=by
 have g0:=GW.start h6 ha;obtain⟨s',hw⟩:=ZqD (ZmY hls) start h6 ha go;have hw2:=hw;rw[<-ZiM] at hw2;obtain⟨st',e,h,g,k⟩:=Zrp ls hl start go GW (fun s g=>g.bounds) (fun s p g hp=>g.next hls hp) (fun s g=>g.zero) g0 hw2 st;exact⟨s',st',g,Zsx hw,e,h,k⟩
theorem Zob(f:List Str->D)(ks:List (List Str)):(dpl f ks).map (·.1)=ks.map fun p=>D.tup (p.map D.str):=by
 unfold dpl;rw[Ql];rfl
structure Rd(N:List Str->List (Str×List Str))(a:List Str)(E:List (List Str)):Prop where
 mem:∀p,p∈E ↔ ∃ws,Wk N a ws p
 nd:E.Nodup
 srt:∃ks:List (List Str),E=Z7 ks/\ks.Nodup
 ab:∀p∈E,p.length<=6/\∀w∈p,abW w
 len:E.length<=127
theorem Rd.of{N:List Str->List (Str×List Str)}{a:List Str}{s:WS}(g:GW s)(b:Best N a none s):Rd N a (Z7 s.ks):=by
 have hm:∀p,p∈Z7 s.ks ↔ p∈s.ks:=fun p=>(ZaX s.ks).mem_iff;refine⟨fun p => ?_,(ZaX s.ks).nodup_iff.mpr g.nd,⟨s.ks,rfl,g.nd⟩,fun p hp=>g.ab p ((hm p).1 hp),by rw[(ZaX s.ks).length_eq]; exact g.len.1⟩;rw[hm p];constructor
 ·exact fun h=>⟨_,b.wk p h⟩
 ·rintro⟨ws,h⟩;rcases b.all with⟨g',e,_⟩ | h2
  ·cases e
  ·exact h2 ws p h
theorem Zl0{s:WS}(g:GW s){st:Sto}{r:Nat}{f:List Str->D}(h:st[r]?=some (.dtt (dpl f s.ks))):ZdT [.res r] st = .ok ((Z7 s.ks).map pl) st:=by
 have hl:=g.len.1;unfold ZdT;simp only[h,Zob,ZeY];rw[Yg ⟨g.nd,by omega⟩];rfl
theorem Ze6{ls:List Lk}(hl:ls.length<=8)(hls:∀l∈ls,Few l)(start:List Str)(h6:start.length<=6)(ha:∀w∈start,abW w)(st:Sto):∃E st',ZaA [Zk ls,pl start] st = .ok (.lst (E.map pl)) st'/\StoK st st'/\Rd (Zm ls) start E:=by
 obtain⟨s',st',g,b,e,h,k⟩:=Zhy hl hls start h6 ha none st;have e2:=Zl0 g h;have e':ZaS [Zk ls,pl start,.non] st = .ok (.res st.length) st':=e;refine⟨Z7 s'.ks,st',?_,k,Rd.of g b⟩;generalize Z7 s'.ks=E at *;unfold ZaA ZiW;simp[-List.map_map,e',e2]
def ShO(N:List Str->List (Str×List Str))(a g:List Str):Option (List Str)->Prop
 | some ws=>Wk N a ws g/\(∀us,Wk N a us g->ws.length<=us.length)/\ws.length<=126
 | none => ∀ws,¬ Wk N a ws g
theorem ShO.of{N:List Str->List (Str×List Str)}{a g:List Str}{s:WS}(w:GW s)(b:Best N a (some g) s):ShO N a g (if g∈s.ks then some (s.f g) else none):=by
 by_cases h:g∈s.ks
 ·rw[Yg h];exact⟨b.wk g h,b.best g h,by have:=w.ln g h; have:=w.len.1; omega⟩
 ·rw[Yh h];intro ws hw;rcases b.all with⟨g',e,h2⟩ | h2
  ·cases e; exact h h2
  ·exact h (h2 ws g hw)
theorem ZdM{ls:List Lk}(hl:ls.length<=8)(hls:∀l∈ls,Few l)(start:List Str)(h6:start.length<=6)(ha:∀w∈start,abW w)(go:List Str)(st:Sto):∃o st',Z8 [Zk ls,pl start,pl go] st = .ok (ZL o) st'/\StoK st st'/\ShO (Zm ls) start go o:=by
 obtain⟨s',st',g,b,e,h,k⟩:=Zhy hl hls start h6 ha (some go) st;have e':ZaS [Zk ls,pl start,pl go] st = .ok (.res st.length) st':=e;have e2:=ZeC h go;have e3:Zb9 st' (.res st.length)=true:=by simp[Zb9,h]
 refine⟨_,st',?_,k,ShO.of g b⟩;unfold Z8 Zhm;by_cases c:go∈s'.ks
 ·rw[Yg c] at e2 ⊢;simp[Zhb,e',e2,e3,ZL]
 ·rw[Yh c] at e2 ⊢;simp[Zhb,e',e2,e3,ZL]
theorem ZeR{α:Type}(g:α->D)(p:α->Bool)(h:α->D){chk:Sto->Prop}{t:TgD}{cond:DT}{fe:DE}(st0:Sto)(IE:Ev->Prop)(hc:∀st,StoK st0 st->chk st):∀(xs:List α) (ρ:Ev) (st:Sto) (acc:List D),StoK st0 st->IE ρ->acc.length+xs.length<=small ->
  (∀x∈xs,∀ρ st,IE ρ->StoK st0 st->∃ρ1 st1,t (g x) ρ=some ρ1/\IE ρ1/\cond ρ1 st = .ok (p x) st1/\StoK st st1/\(p x=true->∃st2,fe ρ1 st1 = .ok (h x) st2/\StoK st1 st2))->∃st',Z1 chk t cond fe (xs.map g) ρ st acc = .ok (acc++(xs.filter p).map h) st'/\StoK st st'
 | [],ρ,st,acc,k,_,_,_=>⟨st,by simp[Z1,hc st k],StoK.refl st⟩
 | x :: xs,ρ,st,acc,k,hI,hl,hx=>by
  obtain⟨ρ1,st1,e1,h1,e2,k1,e3⟩:=hx x Yt ρ st hI k;rw[YF];unfold Z1;rw[Yg ⟨hc st k,by simp at hl; omega⟩,e1];dsimp only;rw[e2];cases hp:p x with
  | true =>
   obtain⟨st2,e4,k2⟩:=e3 hp;dsimp only;rw[e4];dsimp only;obtain⟨st',e5,k5⟩:=ZeR g p h st0 IE hc xs ρ1 st2 (acc++[h x]) ((k.trans k1).trans k2) h1 (by simp at hl ⊢; omega) fun y hy=>hx y (Yl _ hy);refine⟨st',?_,(k1.trans k2).trans k5⟩;rw[e5,List.filter_cons_of_pos hp];simp
  | false =>
   dsimp only;obtain⟨st',e5,k5⟩:=ZeR g p h st0 IE hc xs ρ1 st1 acc (k.trans k1) h1 (by simp at hl ⊢; omega) fun y hy=>hx y (Yl _ hy);refine⟨st',?_,k1.trans k5⟩;rw[e5,List.filter_cons_of_neg (by simp[hp])]
theorem wordsV_mem{ls:List Lk}{p:List Str}{w:Str}:w∈ZaL ls p ↔ ∃l∈ls,Zaw p l=true/\l.wd=w:=by
 unfold ZaL;rw[(SO.srtS_perm _).mem_iff,ZcP,Y9];constructor
 ·rintro⟨l,h,e⟩;obtain⟨h1,h2⟩:=Wf.mp h;exact⟨l,h1,h2,e⟩
 ·rintro⟨l,h1,h2,e⟩;exact⟨l,Wf.mpr ⟨h1,h2⟩,e⟩
theorem Zrt{ls:List Lk}{p:List Str}{w:Str}{l:Lk}(h:ZG ls p w=some l):l∈ls/\l.wd=w/\Zaw p l=true:=by
 have:=Wf.mp (List.mem_of_mem_head? h);refine⟨this.1,?_⟩;simpa using this.2
theorem mem_step{ls:List Lk}{p:List Str}{w:Str}{x:Str×List Str}:x∈ZbA ls p w ↔ x.1=w/\∃l,ZG ls p w=some l/\ZZ l p=some x.2:=by
 unfold ZbA;cases hl:ZG ls p w with
 | none=>simp
 | some l =>
  dsimp only;cases hg:ZZ l p with
  | none =>
   constructor
   ·intro h; cases h
   ·rintro⟨_,l',e,h⟩;cases e;rw[hg] at h;cases h
  | some g =>
   rw[Ys];constructor
   ·rintro rfl;exact⟨rfl,l,rfl,hg⟩
   ·rintro⟨h1,l',e,h⟩;cases e;rw[hg] at h;cases h;exact Prod.ext h1 rfl
theorem mem_next{ls:List Lk}{p:List Str}{w:Str}{g:List Str}:(w,g)∈Zm ls p ↔ ∃l,ZG ls p w=some l/\ZZ l p=some g:=by
 unfold Zm;rw[List.mem_flatMap];constructor
 ·rintro⟨w',_,h⟩;obtain⟨h1,h2⟩:=mem_step.mp h;obtain rfl:w=w':=h1;exact h2
 ·rintro⟨l,h1,h2⟩;obtain⟨a,b,c⟩:=Zrt h1;exact⟨w,wordsV_mem.mpr ⟨l,a,c,b⟩,mem_step.mpr ⟨rfl,l,h1,h2⟩⟩
theorem Zpy(ns:List Int)(hl:ns.length<=63)(st:Sto):∃p:List Str,p.length<=3/\(∀w∈p,abW w)/\Z1 (fun _=>True) (ZH 0) Zbw ZeQ ((List.range (Zac ns 100 4).toNat).map (fun (i:Nat)=>D.int (0+i))) [none,some (.scr (ns.map .int))] st [] = .ok (p.map D.str) st:=by
 have r1:=Za7 ns 100 4 (by decide);have r2:=Zbf ns 100 4 (by decide);have hch:∀i:Nat,∃w,ixD (.str "ab") (.int (Zac ns (101+(i:Int)) 2)) st = .ok (.str w) st/\abW w:=fun i=>Zek _ st (Za7 ns (101+(i:Int)) 2 (by decide)) (Zbf ns (101+(i:Int)) 2 (by decide));obtain⟨f,hf⟩:∃f:Nat->Str,∀i:Nat,ixD (.str "ab") (.int (Zac ns (101+(i:Int)) 2)) st = .ok (.str (f i)) st/\abW (f i):=⟨fun i=>Classical.choose (hch i),fun i=>Q1 (hch i)⟩;refine⟨(List.range (Zac ns 100 4).toNat).map f,by simp; omega,fun w hw => ?_,?_⟩
 ·obtain⟨i,_,rfl⟩:=Y9.mp hw;exact (hf i).2
 ·rw[ZfK (fun (i:Nat)=>D.int (0+i)) (fun i=>D.str (f i)) (fun ρ => ∃a,ρ=[a,some (.scr (ns.map .int))]) trivial _ _ _ ⟨_,rfl⟩ (by simp only[WH,Ws,Wv]; exact ZaV (by omega))]
  ·rw[Ql]; rfl
  ·rintro i _ ρ ⟨a,rfl⟩;refine⟨_,rfl,⟨_,rfl⟩,?_⟩;have e3:=Zbp ns hl (101+(i:Int)) 2 (by decide) st;have e4:=(hf i).1;unfold ZeQ;simp[ZdX,e3,e4]
theorem Zqp(ns:List Int)(hl:ns.length<=63)(st:Sto){ρ:Ev}(hρ:ρ[0]?=some (some (.scr (ns.map .int)))):∃p:List Str,p.length<=3/\(∀w∈p,abW w)/\Zj ZaW (Zc (dF (Za5 [0] 1 (Zbv (Zc (Zj Zah (Zc (Za 0) (Zc (dC (.int 100)) (Zc (dC (.int 4)) Ze)))) Ze)) (ZH 0) Zbw ZeQ)) Ze) ρ st = .ok (pl p) st:=by
 obtain⟨p,h1,h2,e⟩:=Zpy ns hl st;have r1:=Za7 ns 100 4 (by decide);have r2:=Zbf ns 100 4 (by decide);have g1:ZbJ (Zac ns 100 4)=true:=ZgA (by omega) (by omega);have d4:=Zbp ns hl 100 4 (by decide) st;have tl:ZaW [.lst (p.map D.str)] st = .ok (pl p) st:=rfl;simp only[UB] at e;refine⟨p,h1,h2,?_⟩;simp[hρ,d4,g1,Zbv,Zat,e,tl]
theorem ZjG:∀bs:List Bool,Zbz (bs.map D.bl)=some bs
 | []=>rfl
 | b :: bs=>by
  show (Zbz (bs.map D.bl)).map (b :: ·)=_;rw[ZjG bs];rfl
def onV(ls:List Lk)(p:List Str):Bool:=(Zm ls p).any fun x => !decide (x.2=p)
theorem ZsN(ls:List Lk)(hl:ls.length<=8)(p:List Str)(hp:p.length<=6)(st:Sto):∃st',ZdB [Zk ls,pl p] st = .ok (.bl (onV ls p)) st'/\StoK st st':=by
 obtain⟨st1,e1,h1,k1⟩:=Zg0 ls hl p hp st;have hn:=Zi9 ls p;have i1:=getL h1;have e:Z1 (fun st2=>itemsOf st2 (.res st.length)=some ((Zm ls p).map fun x=>D.tup [.str x.1,pl x.2])) (Za2 [0,1]) Zbw Zfm ((Zm ls p).map fun x=>D.tup [.str x.1,pl x.2]) [none,none,some (pl p)] st1 [] = .ok (((Zm ls p).map fun x => !decide (x.2=p)).map D.bl) st1:=by
  rw[ZfK (fun x:Str×List Str=>D.tup [.str x.1,pl x.2]) (fun x=>D.bl (!decide (x.2=p))) (fun ρ => ∃a b,ρ=[a,b,some (pl p)]) i1 _ _ [] ⟨_,_,rfl⟩ (by simp; exact ZaV (by omega))]
  ·simp
  ·rintro x _ ρ ⟨a,b,rfl⟩;refine⟨[some (.str x.1),some (pl x.2),some (pl p)],rfl,⟨_,_,rfl⟩,?_⟩;have q:=Zi5 x.2 p st1;unfold Zfm;simp[q]
 have e2:Zes [.lst (((Zm ls p).map fun x => !decide (x.2=p)).map D.bl)] st1 = .ok (.bl (onV ls p)) st1:=by
  show (match Zbz (((Zm ls p).map fun x => !decide (x.2=p)).map D.bl) with | some bs=>Out.ok (D.bl (bs.any id)) st1 | none => .bad)=_;rw[ZjG];unfold onV;dsimp only;rw[List.any_map];rfl
 refine⟨st1,?_,k1⟩;unfold ZdB Zh6;generalize onV ls p=b at *;generalize ((Zm ls p).map fun x => !decide (x.2=p)).map D.bl=xs at *;generalize ((Zm ls p).map fun x=>D.tup [.str x.1,pl x.2])=ys at *;simp[e1,i1,Zat,e,e2]
theorem Zne{ls:List Lk}(hl:ls.length<=8)(hls:∀l∈ls,Few l)(a:List Str)(h6:a.length<=6)(ha:∀w∈a,abW w)(st:Sto):∃E st',Zb7 [Zk ls,pl a] st = .ok (.lst ((E.filter fun p => !onV ls p).map pl)) st'/\StoK st st'/\Rd (Zm ls) a E:=by
 obtain⟨E,st1,e1,k1,r⟩:=Ze6 hl hls a h6 ha st;obtain⟨st2,e2,k2⟩:=ZeR (chk:=fun st2=>itemsOf st2 (.lst (E.map pl))=some (E.map pl)) (t:=ZH 0) (cond:=Zga) (fe:=ZgD) pl (fun p => !onV ls p) pl st1 (fun ρ => ∃x,ρ=[x,some (Zk ls)]) (fun _ _=>rfl) E [none,some (Zk ls)] st1 [] (StoK.refl _) ⟨_,rfl⟩ (by have:=r.len; simp; exact ZaV (by omega)) (by
  rintro p hp ρ st3 ⟨x,rfl⟩ k3;obtain⟨st4,e4,k4⟩:=ZsN ls hl p (r.ab p hp).1 st3;refine⟨_,st4,rfl,⟨_,rfl⟩,?_,k4,fun _=>⟨st4,?_,StoK.refl _⟩⟩
  ·unfold Zga;generalize onV ls p=b at *;simp[e4]
  ·unfold ZgD;simp)
 refine⟨E,st2,?_,k1.trans k2,r⟩;have i1:itemsOf st1 (.lst (E.map pl))=some (E.map pl):=rfl;rw[VY] at e2;unfold Zb7 Zik;generalize (E.filter fun p => !onV ls p).map pl=xs at *;generalize E.map pl=ys at *;simp[e1,i1,Zat,e2]
theorem Zig{a b:List (List Str)}(ha:a.Nodup)(hb:b.Nodup)(h:∀x,x∈a ↔ x∈b):Z7 a=Z7 b:=by
 refine (ZfU (ps:=b) (qs:=Z7 a) ((ZaX a).trans ((WX ha hb).mpr h)) ?_);refine Ud (R:=fun a b=>Za9 a b=true) (S:=fun a b=>a≠b) (fun a b h1 h2 => ?_) (Zgg _) ((ZaX a).nodup_iff.mpr ha);have h3:plB b a=false:=by
  have:(!plB b a)=true:=h1;simpa using this
 exact ZcJ (Y7 h2) h3
theorem Chg.rfl{st:Sto}{b i:Nat}:Chg st st b i i:=⟨fun _ _ h _ _=>h,.inl _root_.rfl,Yi _⟩
theorem StoK.chg{st st':Sto}{b i:Nat}(k:StoK st st'):Chg st st' b i i:=⟨fun j x h _ _=>k.fr j x h,.inl _root_.rfl,k.le⟩
theorem StoK.then{st st1 st2:Sto}{b i i':Nat}(k:StoK st st1)(c:Chg st1 st2 b i i'):Chg st st2 b i i':=⟨fun j x h h1 h2=>c.fr j x (k.fr j x h) h1 h2,c.nw.imp_right fun h=>YI k.le h,YI k.le c.le⟩
def prF(b:Nat)(ls:List Lk):List (Str×D):=[(("book" : Str),D.res b),(("links" : Str),Zk ls)]
theorem Zd7(b:Nat)(ls:List Lk):(prF b ls).lookup ("book" : Str)=some (.res b):=rfl
theorem Zgk(b:Nat)(ls:List Lk):(prF b ls).lookup ("links" : Str)=some (Zk ls):=rfl
theorem Zcu(b:Nat)(ls:List Lk):(prF b ls).lookup ("now" : Str)=none:=rfl
theorem ZsZ(b:Nat)(ls:List Lk):(prF b ls).lookup ("press" : Str)=none:=rfl
theorem Zoh(b:Nat)(ls:List Lk):(prF b ls).lookup ("try_go" : Str)=none:=rfl
theorem Zrx(b:Nat)(ls:List Lk):(prF b ls).lookup ("try_lead" : Str)=none:=rfl
structure PrAt(cv:Nat->Addr)(st:Sto)(q b i:Nat)(ls:List Lk)(m:Int)(rows:List Row)(s:Nat):Prop where
 ob:st[q]?=some (.ins (cv 4) (prF b ls))
 bk:BookAt cv st b i m rows s
 qb:q≠b
def prV(m:Int)(rows:List Row)(s:Nat)(p:List Str)(o:Option Lk):Bool×List Row×Nat:=match o with
 | none=>(false,rows,s)
 | some l=>match l.pt with
  | .way k=>if 0<=(s:Int)+k/\(s:Int)+k<rows.length then (true,rows,((s:Int)+k).toNat) else (false,rows,s)
  | .steps xs=>match ZX p xs with
   | none=>(false,rows,s)
   | some g=>if l.op then (true,Zar m rows s g,(Zar m rows s g).length - 1) else (true,rows.set s (g,0),s)
section
variable{cv:Nat->Addr}{st st':Sto}{q b i:Nat}{ls:List Lk}{m:Int}{rows:List Row}{s:Nat}
theorem PrAt.qi(A:PrAt cv st q b i ls m rows s):q≠i:=by
 intro e;have h1:=A.ob;rw[e,A.bk.rw] at h1;cases h1
theorem PrAt.ins(A:PrAt cv st q b i ls m rows s):ZD (cv 4) st (.res q)=some (q,prF b ls):=by
 simp[ZD,A.ob]
theorem PrAt.kept(A:PrAt cv st q b i ls m rows s)(k:StoK st st'):PrAt cv st' q b i ls m rows s :=
 ⟨k.fr _ _ A.ob,⟨k.fr _ _ A.bk.ob,k.fr _ _ A.bk.rw,A.bk.lt,A.bk.le⟩,A.qb⟩
theorem PrAt.chg(A:PrAt cv st q b i ls m rows s){i':Nat}{rows':List Row}{s':Nat}(B:BookAt cv st' b i' m rows' s')(C:Chg st st' b i i'):PrAt cv st' q b i' ls m rows' s' :=
 ⟨C.fr _ _ A.ob A.qb A.qi,B,A.qb⟩
theorem PrAt.now(A:PrAt cv st q b i ls m rows s){r:Row}(hr:rows[s]?=some r):Zae cv [.res q] st = .ok (pl r.1) st:=by
 have e1:=A.bk.now hr;unfold Zae ZjD;simp[Zav,Zal,A.ins,Zd7,A.bk.ins,ZsC,e1]
theorem PrAt.try_go(A:PrAt cv st q b i ls m rows s)(k:Int):∃st',Zcg cv [.res q,.int k] st = .ok (.bl (decide (0<=(s:Int)+k/\(s:Int)+k<rows.length))) st'/\PrAt cv st' q b i ls m rows (if 0<=(s:Int)+k/\(s:Int)+k<rows.length then ((s:Int)+k).toNat else s)/\Chg st st' b i i:=by
 have e1:=A.bk.can_go k;by_cases h:0<=(s:Int)+k/\(s:Int)+k<rows.length
 ·rw[Yv h] at e1 ⊢;rw[Yg h];have hj:((s:Int)+k).toNat<rows.length:=by omega
  obtain⟨st',e2,B,C⟩:=A.bk.go (k:=k) (j:=((s:Int)+k).toNat) (by omega) (Yj hj);refine⟨st',?_,A.chg B C,C⟩;unfold Zcg ZfY;simp[Zav,Zal,A.ins,Zd7,A.bk.ins,Zf7,ZrE,e1,e2]
 ·rw[YA h] at e1 ⊢;rw[Yh h];refine⟨st,?_,A,Chg.rfl⟩;unfold Zcg ZfY;simp[Zav,Zal,A.ins,Zd7,A.bk.ins,Zf7,e1]
theorem Zl9{l:Lk}{k:Int}(h:l.pt = .way k):l.kind = "go":=by unfold Lk.kind; rw[h]
theorem Zrw{l:Lk}{xs:List Str}(h:l.pt = .steps xs):l.kind≠"go":=by
 unfold Lk.kind;rw[h];cases l.op <;> simp <;> decide
theorem ZlM{l:Lk}{xs:List Str}(h:l.pt = .steps xs):decide (l.kind = "open")=l.op:=by
 unfold Lk.kind;rw[h];cases l.op <;> simp <;> decide
theorem PrAt.press(A:PrAt cv st q b i ls m rows s){r:Row}(hr:rows[s]?=some r)(h6:r.1.length<=6)(hm:1<=m)(hl:rows.length<=99)(w:Str):∃st' i',ZaR cv [.res q,.str w] st = .ok (.bl (prV m rows s r.1 (ZG ls r.1 w)).1) st'/\PrAt cv st' q b i' ls m (prV m rows s r.1 (ZG ls r.1 w)).2.1 (prV m rows s r.1 (ZG ls r.1 w)).2.2/\Chg st st' b i i':=by
 have e1:=A.now hr;have e2:=Zku ls r.1 w st;cases ho:ZG ls r.1 w with
 | none =>
  rw[ho] at e2;have e3:isD .non .non st = .ok (.bl true) st:=rfl;refine⟨st,i,?_,A,Chg.rfl⟩;unfold ZaR ZeT;simp[Zav,Zal,A.ins,Zcu,Zgk,e1,e2,ZbK,e3,prV]
 | some l =>
  rw[ho] at e2;have e3:isD (lkD l) .non st = .ok (.bl false) st:=rfl;have q2:=lk2 l st;have q3:=lk3 l st;have q4:=ZbQ l.kind "go" st;cases hp:l.pt with
  | way k =>
   rw[Yv (Zl9 hp)] at q4;rw[hp] at q3;obtain⟨st',e4,A',C'⟩:=A.try_go k;have hv:prV m rows s r.1 (some l)=(decide (0<=(s:Int)+k/\(s:Int)+k<rows.length),rows,if 0<=(s:Int)+k/\(s:Int)+k<rows.length then ((s:Int)+k).toNat else s):=by
    unfold prV;simp only[hp];split
    ·rename_i h; rw[Yv h]
    ·rename_i h; rw[YA h]
   rw[hv];refine⟨st',i,?_,A',C'⟩;unfold ZaR ZeT;simp only[Prt.d] at q3;simp[Zav,Zal,A.ins,Zcu,Zgk,Zoh,e1,e2,ZbK,e3,q2,q3,q4,e4]
  | steps xs =>
   rw[YA (Zrw hp)] at q4;obtain⟨st1,e4,k1⟩:=Zjw l r.1 h6 st;have hg:ZZ l r.1=ZX r.1 xs:=by unfold ZZ; rw[hp]
   rw[hg] at e4;have A1:=A.kept k1;have q5:=lk2 l st1;have q6:=ZbQ l.kind "open" st1;rw[ZlM hp] at q6;have e5:=ZqG (ZX r.1 xs) st1;have tl:∃st' i',Zb5 cv [.res q,lkD l] st = .ok (.bl (prV m rows s r.1 (some l)).1) st'/\PrAt cv st' q b i' ls m (prV m rows s r.1 (some l)).2.1 (prV m rows s r.1 (some l)).2.2/\Chg st st' b i i':=by
    cases hv:ZX r.1 xs with
    | none =>
     rw[hv] at e4 e5;have hp':prV m rows s r.1 (some l)=(false,rows,s):=by unfold prV; simp only[hp,hv]
     rw[hp'];have e5':isD .non .non st1 = .ok (.bl true) st1:=rfl;refine⟨st1,i,?_,A1,k1.chg⟩;unfold Zb5 ZeS;simp[Zav,A.ins,Zcu,e1,e4,ZL,e5']
    | some g =>
     rw[hv] at e4 e5;have e5':isD (pl g) .non st1 = .ok (.bl false) st1:=rfl;cases hop:l.op with
     | true =>
      rw[hop] at q6;have hp':prV m rows s r.1 (some l)=(true,Zar m rows s g,(Zar m rows s g).length - 1):=by unfold prV; simp only[hp,hv,hop,Qb]
      rw[hp'];obtain⟨st2,i2,e6,B2,C2⟩:=A1.bk.visit g hm hl;refine⟨st2,i2,?_,A1.chg B2 C2,k1.then C2⟩;unfold Zb5 ZeS;simp[Zav,Zal,A.ins,A1.ins,Zcu,Zd7,A1.bk.ins,Zot,e1,e4,ZL,e5',q5,q6,e6]
     | false =>
      rw[hop] at q6;have hp':prV m rows s r.1 (some l)=(true,rows.set s (g,0),s):=by unfold prV; simp only[hp,hv,hop,YQ,Wz]
      rw[hp'];obtain⟨st2,e6,B2,C2⟩:=A1.bk.replace g;refine⟨st2,i,?_,A1.chg B2 C2,k1.then C2⟩;unfold Zb5 ZeS;simp[Zav,Zal,A.ins,A1.ins,Zcu,Zd7,A1.bk.ins,Zqr,e1,e4,ZL,e5',q5,q6,e6]
   obtain⟨st',i',e6,A',C'⟩:=tl;refine⟨st',i',?_,A',C'⟩;unfold ZaR ZeT;simp[Zav,Zal,A.ins,Zcu,Zgk,Zrx,e1,e2,ZbK,e3,q2,q4,e6]
theorem Zsr(p:List Str)(m:Int)(ls:List Lk)(st:Sto):Zcs cv [.res st.length,Zk ls,pl p,.int m] (st++[.ins (cv 4) []]) = .ok .non (st++[.ins (cv 4) (prF (st.length+1) ls),.ins (cv 0) (bk m (st.length+2) 0),.lst [ZU (p,0)]]):=by
 have i1:∀fs x,ZD (cv 4) (st ++ .ins (cv 4) fs :: x) (.res st.length)=some (st.length,fs):=fun fs x=>by simp[ZD]
 have e1:=ZsP (cv:=cv) p m (st++[.ins (cv 4) []]);simp only[Yy,List.length_singleton,Wi,List.cons_append,VY] at e1;have p1:Zap ("book" : Str) (.res (st.length+1)) []=[(("book" : Str),D.res (st.length+1))]:=rfl;have p2:Zap ("links" : Str) (Zk ls) [(("book" : Str),D.res (st.length+1))]=prF (st.length+1) ls:=rfl;have e2:ZcT cv [.res st.length,pl p,.int m] (st++[.ins (cv 4) []]) = .ok .non (st++[.ins (cv 4) [(("book" : Str),D.res (st.length+1))],.ins (cv 0) (bk m (st.length+2) 0),.lst [ZU (p,0)]]):=by
  unfold ZcT ZkD;simp[Zfc,Zh2,e1,Zeq,i1,p1]
 unfold Zcs ZhD;simp[e2,Zfc,i1,p2]
theorem ZqL(p:List Str)(m:Int)(ls:List Lk)(st:Sto):PrAt cv (st++[.ins (cv 4) (prF (st.length+1) ls),.ins (cv 0) (bk m (st.length+2) 0),.lst [ZU (p,0)]]) st.length (st.length+1) (st.length+2) ls m [(p,0)] 0 :=
 ⟨by simp,⟨by simp,by simp,Nat.zero_lt_one,by show 1<=100; decide⟩,by omega⟩
end
inductive Wc(N:List Str->List (Str×List Str))(g:List Str):List Str->List Str->Prop
 | nil:Wc N g g []
 | cons {p w q ws}:(w,q)∈N p->Wc N g q ws->Wc N g p (w :: ws)
theorem Wk.cat{N:List Str->List (Str×List Str)}{a g p ws:List Str}(h:Wc N g p ws):∀{us:List Str},Wk N a us p->Wk N a (us++ws) g:=by
 induction h with
 | nil=>intro us w; rw[Wo]; exact w
 | cons h1 _ ih =>
  intro us w;have:=ih (Wk.snoc w h1);rw[Wi] at this;exact this
theorem Wc.snoc{N:List Str->List (Str×List Str)}{g p ws:List Str}(h:Wc N g p ws){w:Str}{q:List Str}(hq:(w,q)∈N g):Wc N q p (ws++[w]):=by
 induction h with
 | nil=>exact Wc.cons hq Wc.nil
 | cons h1 _ ih=>exact Wc.cons h1 ih
theorem Wc.of{N:List Str->List (Str×List Str)}{a g ws:List Str}(h:Wk N a ws g):Wc N g a ws:=by
 induction h with
 | nil=>exact Wc.nil
 | snoc _ h2 ih=>exact ih.snoc h2
theorem Wc.wk{N:List Str->List (Str×List Str)}{p g ws:List Str}(h:Wc N g p ws):Wk N p ws g:=by
 have:=Wk.cat h (Wk.nil (N:=N) (a:=p));simpa using this
theorem Wk.join{N:List Str->List (Str×List Str)}{a p g us ws:List Str}(h1:Wk N a us p)(h2:Wk N p ws g):Wk N a (us++ws) g:=Wk.cat (Wc.of h2) h1
theorem ZnW{N:List Str->List (Str×List Str)}{a:List Str}{E F:List (List Str)}(h1:Rd N a E)(h2:Rd N a F):E=F:=by
 obtain⟨ks,e1,n1⟩:=h1.srt;obtain⟨ls,e2,n2⟩:=h2.srt;rw[e1,e2];refine Zig n1 n2 fun x => ?_;have a1:=h1.mem x;have a2:=h2.mem x;rw[e1,(ZaX ks).mem_iff] at a1;rw[e2,(ZaX ls).mem_iff] at a2;rw[a1,a2]
theorem Zqi{N:List Str->List (Str×List Str)}{a:List Str}{E:List (List Str)}(h:Rd N a E):Z7 (ddP E)=E:=by
 obtain⟨ks,e1,n1⟩:=h.srt;have:Z7 (ddP E)=Z7 ks:=Zig (Zb8 E) n1 fun x=>by
  rw[Zcv,e1,(ZaX ks).mem_iff]
 rw[this,<-e1]
theorem Zlh{E:List (List Str)}{p:List Str}(hn:E.Nodup)(h:∀x,x∈E ↔ x=p):E=[p]:=by
 match E,hn,h with
 | [],_,h=>exact absurd ((h p).2 rfl) (by simp)
 | [x],_,h=>rw[(h x).1 (Ys.mpr rfl)]
 | x :: y :: r,hn,h =>
  have h1:=(h x).1 (by simp);have h2:=(h y).1 (by simp);rw[h1,h2] at hn;simp at hn
theorem on_next{ls:List Lk}{p:List Str}:onV ls p=true ↔ ∃w q,(w,q)∈Zm ls p/\q≠p:=by
 unfold onV;rw[QF];constructor
 ·rintro⟨x,h1,h2⟩;exact⟨x.1,x.2,h1,by simpa using h2⟩
 ·rintro⟨w,q,h1,h2⟩;exact⟨(w,q),h1,by simpa using h2⟩
theorem ZiP{ls:List Lk}{p:List Str}{E:List (List Str)}(r:Rd (Zm ls) p E):decide (E=[p]) = !onV ls p:=by
 cases ho:onV ls p with
 | false =>
  refine Yv (Zlh r.nd fun x => ?_);rw[r.mem x];constructor
  ·rintro⟨ws,w⟩
   induction w with
   | nil=>rfl
   | snoc _ h2 ih =>
    rename_i ws p' w q _;rw[ih] at h2;refine WI fun hne => ?_;have:=on_next.mpr ⟨w,q,h2,hne⟩;rw[ho] at this;cases this
  ·rintro rfl;exact⟨[],Wk.nil⟩
 | true =>
  obtain⟨w,q,h1,h2⟩:=on_next.mp ho;refine YA fun e=>h2 ?_;have:=(r.mem q).2 ⟨[]++[w],Wk.snoc Wk.nil h1⟩;rw[e] at this;exact Ys.mp this
theorem ZqX{S:List (List Str)}(h:S.Nodup):(ddP S).length=S.length :=
 ((WX (Zb8 S) h).mpr fun y=>Zcv S y).length_eq
theorem Zsh{st:Sto}(r:List Str)(E:List (List Str)):inD (pl r) (.lst (E.map pl)) st = .ok (.bl (decide (r∈E))) st:=by
 unfold inD;show (match inN st depth (pl r) (E.map pl) with | some b=>_ | none=>_)=_;rw[ZfM]
theorem ZeI(ps:List (List Str)):nice depth (.lst (ps.map pl))=true:=by
 have h:∀ps:List (List Str),Zbx 49 (ps.map pl)=true:=by
  intro ps
  induction ps with
  | nil=>rfl
  | cons p ps ih =>
   rw[YF];unfold Zbx;rw[ih,show nice (47+2) (pl p)=true from Zh3 47 p];rfl
 exact h ps
theorem pls_inj{E F:List (List Str)}:E.map pl=F.map pl ↔ E=F:=by
 constructor
 ·intro h
  induction E generalizing F with
  | nil =>
   cases F with
   | nil=>rfl
   | cons _ _=>cases h
  | cons x E ih =>
   cases F with
   | nil=>cases h
   | cons y F =>
    rw[YF,YF] at h;injection h with h1 h2;rw[pl_inj.mp h1,ih h2]
 ·intro h; rw[h]
theorem ZpW(E F:List (List Str))(st:Sto):eqD (.lst (E.map pl)) (.lst (F.map pl)) st = .ok (.bl (decide (E=F))) st:=by
 rw[Zeu (ZeI E) (ZeI F)];congr 2;refine WY.mpr ⟨fun h => ?_,fun h=>by rw[h]⟩;injection h with h;exact pls_inj.mp h
theorem ZkF(E F:List (List Str))(st:Sto):neD (.lst (E.map pl)) (.lst (F.map pl)) st = .ok (.bl (!decide (E=F))) st:=by
 rw[Zd5 (ZeI E) (ZeI F)];congr 3;refine WY.mpr ⟨fun h => ?_,fun h=>by rw[h]⟩;injection h with h;exact pls_inj.mp h
theorem ZrW{ls:List Lk}{p g:List Str}{w:Str}(h:(w,g)∈Zm ls p){rows:List Row}{s:Nat}{r:Row}(hr:rows[s]?=some r)(hrp:r.1=p)(hl:rows.length<=99) :
  (prV 99 rows s r.1 (ZG ls r.1 w)).1=true/\(prV 99 rows s r.1 (ZG ls r.1 w)).2.1.length<=99/\∃r',(prV 99 rows s r.1 (ZG ls r.1 w)).2.1[(prV 99 rows s r.1 (ZG ls r.1 w)).2.2]?=some r'/\r'.1=g:=by
 have hs:s<rows.length:=(Yc.mp hr).1;obtain⟨l,h1,h2⟩:=mem_next.mp h;obtain⟨xs,hx⟩:∃xs,l.pt = .steps xs:=by
  cases hh:l.pt with
  | way z=>unfold ZZ at h2; rw[hh] at h2; cases h2
  | steps xs=>exact⟨xs,rfl⟩
 have hg2:ZX p xs=some g:=by unfold ZZ at h2; rw[hx] at h2; exact h2
 rw[hrp,h1];unfold prV;simp only[hx,hg2];by_cases hop:l.op=true
 ·rw[Yg hop];refine⟨rfl,?_,_,Zsq 99 rows s g hs,rfl⟩;show (Zar 99 rows s g).length<=99;rw[Zj8 99 rows s g hs];split <;> omega
 ·rw[Yh hop];refine⟨rfl,by simpa using hl,(g,0),?_,rfl⟩;show (rows.set s (g,0))[s]?=some (g,0);rw[YT hs]
structure Pr(cv:Nat->Addr)(st:Sto)(q u:Nat)(ls:List Lk)(p:List Str)(S:List (List Str)):Prop where
 ex:∃b i rows s r,PrAt cv st q b i ls 99 rows s/\rows[s]?=some r/\r.1=p/\rows.length<=99/\u≠b/\u≠i
 l:st[u]?=some (.lst (S.map pl))
section
variable{cv:Nat->Addr}{st st':Sto}{q u:Nat}{ls:List Lk}{p:List Str}{S:List (List Str)}
theorem Pr.kept(A:Pr cv st q u ls p S)(k:StoK st st'):Pr cv st' q u ls p S:=by
 obtain⟨b,i,rows,s,r,P,h1,h2,h3,h4,h5⟩:=A.ex;exact⟨⟨b,i,rows,s,r,P.kept k,h1,h2,h3,h4,h5⟩,k.fr _ _ A.l⟩
theorem Pr.now(A:Pr cv st q u ls p S):Zae cv [.res q] st = .ok (pl p) st/\∃fs,ZD (cv 4) st (.res q)=some (q,fs)/\fs.lookup ("now" : Str)=none/\fs.lookup ("press" : Str)=none:=by
 obtain⟨b,i,rows,s,r,P,h1,h2,h3,h4,h5⟩:=A.ex;have:=P.now h1;rw[h2] at this;exact⟨this,prF b ls,P.ins,Zcu b ls,ZsZ b ls⟩
theorem Pr.press(A:Pr cv st q u ls p S)(h6:p.length<=6){w:Str}{g:List Str}(h:(w,g)∈Zm ls p):∃st',ZaR cv [.res q,.str w] st = .ok (.bl true) st'/\Pr cv st' q u ls g S:=by
 obtain⟨b,i,rows,s,r,P,h1,h2,h3,h4,h5⟩:=A.ex;obtain⟨st',i',e,P',C⟩:=P.press h1 (by rw[h2]; exact h6) (by decide) h3 w;obtain⟨x1,x2,r',x3,x4⟩:=ZrW h h1 h2 h3;rw[x1] at e;have hu:u<st.length:=(Yc.mp A.l).1;refine⟨st',e,⟨b,i',_,_,r',P',x3,x4,x2,h4,?_⟩,C.fr _ _ A.l h4 h5⟩;rcases C.nw with e | e
 ·rw[e]; exact h5
 ·omega
theorem Pr.add(A:Pr cv st q u ls p S)(g:List Str):Pr cv (st.set u (.lst (S.map pl++[pl g]))) q u ls p (S++[g]):=by
 obtain⟨b,i,rows,s,r,P,h1,h2,h3,h4,h5⟩:=A.ex;have hq:u≠q:=fun e=>by
  have h1:=P.ob;have h2:=A.l;rw[e,h1] at h2;cases h2
 refine⟨⟨b,i,rows,s,r,⟨?_,⟨?_,?_,P.bk.lt,P.bk.le⟩,P.qb⟩,h1,h2,h3,h4,h5⟩,?_⟩
 ·rw[YC hq]; exact P.ob
 ·rw[YC h4]; exact P.bk.ob
 ·rw[YC h5]; exact P.bk.rw
 ·rw[Zff A.l]; simp
end
def EV3(ns:List Int)(ls:List Lk)(a:List Str)(c3 c4 c5 c6 c7 c8 c9 c10 c11 c12:Option D):Ev:=[some (.scr (ns.map .int)),some (Zk ls),some (pl a),c3,c4,c5,c6,c7,c8,c9,c10,c11,c12]
section
variable{cv:Nat->Addr}{ns:List Int}{ls:List Lk}{a:List Str}
theorem ZpK(hl:ls.length<=8)(hls:∀l∈ls,Few l)(h6:a.length<=6)(ha:∀w∈a,abW w){E:List (List Str)}(rE:Rd (Zm ls) a E)(c4 c5 c6 c7 c8 c9 c10 c11 c12:Option D)(st:Sto) :
  ∃st',Ze5 (EV3 ns ls a (some (.lst (E.map pl))) c4 c5 c6 c7 c8 c9 c10 c11 c12) st = .nx (EV3 ns ls a (some (.lst (E.map pl))) c4 c5 c6 c7 c8 c9 c10 c11 c12) st':=by
 obtain⟨o,st1,e1,k1,sh⟩:=ZdM hl hls a h6 ha a st;obtain rfl:o=some []:=by
  cases o with
  | none=>exact absurd Wk.nil (sh [])
  | some ws =>
   have:=sh.2.1 [] Wk.nil;simp only[WH,Nat.le_zero] at this;rw[Wm.mp this]
 have q1:=ZfG (st:=st) a E;rw[Yv ((rE.mem a).2 ⟨[],Wk.nil⟩)] at q1;have hlen:=rE.len;have q2:ZdO [.lst (E.map pl)] st = .ok (E.map pl) st:=by
  unfold ZdO;have h1:ZN st (.lst (E.map pl))=some (E.map pl):=rfl;have h2:Za1 (E.map pl)=some E:=ZeY E;simp only[h1,h2];rw[Yg (by omega),Zqi rE];rfl
 have q3:=ZkF E E st;rw[Yv rfl] at q3;have e1':Z8 [Zk ls,pl a,pl a] st = .ok (.tup []) st1:=e1;have q4:neD (.tup []) (.tup []) st1 = .ok (.bl false) st1:=ZhT rfl st1;have q0:(0:Nat)<=small:=by decide
 refine⟨st1,?_⟩;unfold Ze5 EV3;generalize E.map pl=X at *;simp[q1,q2,q3,e1',q4,q0]
theorem Zm6(hl:ls.length<=8)(hls:∀l∈ls,Few l)(h6:a.length<=6)(ha:∀w∈a,abW w){E:List (List Str)}(rE:Rd (Zm ls) a E)(T:List Str)(c3 c4 c6 c7 c8 c9 c10 c11 c12:Option D)(st:Sto) :
  ∃st',Zeb (EV3 ns ls a c3 c4 (some (pl T)) c6 c7 c8 c9 c10 c11 c12) st = .nx (EV3 ns ls a c3 c4 (some (pl T)) c6 c7 c8 c9 c10 c11 c12) st':=by
 obtain⟨o,st1,e1,k1,sh⟩:=ZdM hl hls a h6 ha [("zz" : Str)] st;obtain rfl:o=none:=by
  cases o with
  | none=>rfl
  | some ws =>
   have:=(rE.ab _ ((rE.mem _).2 ⟨ws,sh.1⟩)).2 ("zz" : Str) (Ys.mpr rfl);exact absurd this (by unfold abW; decide)
 have e1':Z8 [Zk ls,pl a,.tup [.str "zz"]] st = .ok .non st1:=e1;have q1:isD (pl T) .non st = .ok (.bl false) st:=rfl;have q2:Zcw .non .non st1 = .ok (.bl false) st1:=rfl;have q:(1:Nat)<=small:=by decide
 refine⟨st1,?_⟩;unfold Zeb EV3;simp[q1,e1',q2,q]
theorem ZmB(hl:ls.length<=8)(hls:∀l∈ls,Few l){E:List (List Str)}(rE:Rd (Zm ls) a E){g T us ws p p':List Str}{w:Str}{S:List (List Str)}{q u:Nat}(hT:T=us++w :: ws)(hS:S.length<=200)(wus:Wk (Zm ls) a us p)(hn:(w,p')∈Zm ls p)(wc:Wc (Zm ls) g p' ws)(best:∀vs,Wk (Zm ls) a vs g->T.length<=vs.length)(c10 c11 c12:Option D)(st:Sto)(A:Pr cv st q u ls p S) :
  ∃c10' st',ZeB cv (EV3 ns ls a (some (.lst (E.map pl))) (some (pl g)) (some (pl T)) (some (.res q)) (some (.res u)) (some (.int us.length)) (some (.str w)) c10 c11 c12) st = .nx (EV3 ns ls a (some (.lst (E.map pl))) (some (pl g)) (some (pl T)) (some (.res q)) (some (.res u)) (some (.int us.length)) (some (.str w)) c10' c11 c12) st'/\Pr cv st' q u ls p' (S++[p']):=by
 have hp:p∈E:=(rE.mem p).2 ⟨us,wus⟩;have wk':Wk (Zm ls) a (us++[w]) p':=Wk.snoc wus hn;have hp':p'∈E:=(rE.mem p').2 ⟨_,wk'⟩;obtain⟨ab1,ab2⟩:=rE.ab p' hp';obtain⟨st1,e1,A1⟩:=A.press (rE.ab p hp).1 hn;obtain⟨fs,i1,l1,l2⟩:=A.now.2;obtain⟨n1,fs1,i2,l3,l4⟩:=A1.now;have q1:=ZfG (st:=st1) p' E;rw[Yv hp'] at q1;have A2:=A1.add p';have hSs:S.length<small:=Qo hS (by decide);have hAl:=A1.l;generalize hst2:st1.set u (.lst (S.map pl++[pl p']))=st2 at *;obtain⟨n2,fs2,i3,l5,l6⟩:=A2.now;obtain⟨o,st3,e3,k3,sh⟩:=ZdM hl hls p' ab1 ab2 g st2;obtain⟨vs,rfl,hv⟩:∃vs,o=some vs/\vs.length=ws.length:=by
  cases o with
  | none=>exact absurd wc.wk (sh ws)
  | some vs =>
   refine⟨vs,rfl,?_⟩;have h1:=sh.2.1 ws wc.wk;have h2:=best _ (wk'.join sh.1);rw[hT] at h2;simp only[Yy,YB,WH] at h2;omega
 have e3':Z8 [Zk ls,pl p',pl g] st2 = .ok (pl vs) st3:=e3;have q3:isD (pl vs) .non st3 = .ok (.bl false) st3:=rfl;have m1:=ZcU vs st3;have m2:=ZcU T st3;have m3:ZbF (.int (T.length:Int)) (.int (us.length:Int)) st3 = .ok (.int ((T.length:Int) - us.length)) st3:=rfl;have m4:ZbF (.int ((T.length:Int) - us.length)) (.int 1) st3 = .ok (.int (vs.length:Int)) st3:=by
  show Out.ok (D.int ((T.length:Int) - us.length - 1)) st3=_;congr 2;rw[hT,hv];simp only[Yy,YB];omega
 have m5:=ZiE (vs.length:Int) (vs.length:Int) st3;rw[Yv rfl] at m5;refine⟨some (pl vs),st3,?_,A2.kept k3⟩;have s1:sIf (dOr (Zcf (dB (ZQ (cv 4) "press" (ZaR cv) (Za 6) (Zc (Za 9) Ze)))) (dB (Zg ZbS (ZQ (cv 4) "now" (Zae cv) (Za 6) Ze) (Za 3)))) (Zv (dC (.bl false))) ZV (EV3 ns ls a (some (.lst (E.map pl))) (some (pl g)) (some (pl T)) (some (.res q)) (some (.res u)) (some (.int us.length)) (some (.str w)) c10 c11 c12) st = .nx (EV3 ns ls a (some (.lst (E.map pl))) (some (pl g)) (some (pl T)) (some (.res q)) (some (.res u)) (some (.int us.length)) (some (.str w)) c10 c11 c12) st1:=by
  unfold EV3;generalize E.map pl=X at *;simp[Zav,i1,l2,e1,i2,l3,n1,q1]
 have s2:ZaK (ZaZ (Za 7) (ZQ (cv 4) "now" (Zae cv) (Za 6) Ze)) (EV3 ns ls a (some (.lst (E.map pl))) (some (pl g)) (some (pl T)) (some (.res q)) (some (.res u)) (some (.int us.length)) (some (.str w)) c10 c11 c12) st1 = .nx (EV3 ns ls a (some (.lst (E.map pl))) (some (pl g)) (some (pl T)) (some (.res q)) (some (.res u)) (some (.int us.length)) (some (.str w)) c10 c11 c12) st2:=by
  rw[<-hst2];unfold EV3 ZaZ;generalize E.map pl=X at *;simp[Zav,i2,l3,n1,hAl,hSs]
 have s3:ZF 10 (Zj Z8 (Zc (Za 1) (Zc (ZQ (cv 4) "now" (Zae cv) (Za 6) Ze) (Zc (Za 4) Ze)))) (EV3 ns ls a (some (.lst (E.map pl))) (some (pl g)) (some (pl T)) (some (.res q)) (some (.res u)) (some (.int us.length)) (some (.str w)) c10 c11 c12) st2 = .nx (EV3 ns ls a (some (.lst (E.map pl))) (some (pl g)) (some (pl T)) (some (.res q)) (some (.res u)) (some (.int us.length)) (some (.str w)) (some (pl vs)) c11 c12) st3:=by
  unfold EV3;generalize E.map pl=X at *;simp[Zav,i3,l5,n2,e3']
 unfold ZeB;rw[ZaE s1,ZaE s2,ZaE s3];unfold EV3;generalize E.map pl=X at *;generalize (vs.length:Int)=nv at *;generalize (T.length:Int)=nt at *;generalize (us.length:Int)=nu at *;simp[q3,m1,m2,m3,m4,m5]
theorem Zkm{chk:Sto->Prop}(hchk:∀st,chk st)(hl:ls.length<=8)(hls:∀l∈ls,Few l){E:List (List Str)}(rE:Rd (Zm ls) a E){g T:List Str}{q u:Nat}(best:∀vs,Wk (Zm ls) a vs g->T.length<=vs.length)(hT126:T.length<=126)(c11 c12:Option D):∀(ws us p:List Str) (S:List (List Str)) (c8 c9 c10:Option D) (st:Sto),T=us++ws->Wk (Zm ls) a us p->Wc (Zm ls) g p ws->Pr cv st q u ls p S->S.Nodup->(∀x∈S,∃vs,Wk (Zm ls) a vs x/\vs.length<=us.length)->S.length=us.length+1 ->
  ∃c8' c9' c10' st' S',ZO chk (Za2 [8,9]) (ZeB cv) (ZaO us.length (ws.map D.str)) (EV3 ns ls a (some (.lst (E.map pl))) (some (pl g)) (some (pl T)) (some (.res q)) (some (.res u)) c8 c9 c10 c11 c12) st = .nx (EV3 ns ls a (some (.lst (E.map pl))) (some (pl g)) (some (pl T)) (some (.res q)) (some (.res u)) c8' c9' c10' c11 c12) st'/\Pr cv st' q u ls g S'/\S'.Nodup/\S'.length<=127
 | [],us,p,S,c8,c9,c10,st,hT,w,wc,A,hn,hx,hs=>by
  cases wc;exact⟨c8,c9,c10,st,S,ZbN (hchk st),A,hn,by rw[hT,Wo] at hT126; omega⟩
 | w :: ws,us,p,S,c8,c9,c10,st,hT,wk,wc,A,hn,hx,hs=>by
  cases wc with
  | cons hnx wc' =>
  rename_i p';have wk':Wk (Zm ls) a (us++[w]) p':=Wk.snoc wk hnx;obtain⟨d10,st1,e1,A1⟩:=ZmB (ns:=ns) hl hls rE hT (by have:=congrArg List.length hT; simp at this; omega) wk hnx wc' best c10 c11 c12 st A;have hnew:p' ∉ S:=fun hm=>by
   obtain⟨vs,v1,v2⟩:=hx p' hm;have h1:=best _ (v1.join wc'.wk);rw[hT] at h1;simp only[Yy,YB] at h1;omega
  obtain⟨f8,f9,f10,st2,S',e2,A2,n2,l2⟩:=Zkm hchk hl hls rE best hT126 c11 c12 ws (us++[w]) p' (S++[p']) (some (.int us.length)) (some (.str w)) d10 st1 (by rw[hT]; simp) wk' wc' A1 (by
   rw[Qy];exact⟨hn,by simp,fun x hx y hy e=>hnew (by rw[<-Ys.mp hy,<-e]; exact hx)⟩) (fun x hm=>by
   rcases YJ.mp hm with h1 | h1
   ·obtain⟨vs,v1,v2⟩:=hx x h1;exact⟨vs,v1,by simp; omega⟩
   ·rw[Ys.mp h1];exact⟨_,wk',Yi _⟩) (by simp[hs])
  refine⟨f8,f9,f10,st2,S',?_,A2,n2,l2⟩;have hen:ZaO us.length ((w :: ws).map D.str)=D.tup [.int (us.length:Int),.str w] :: ZaO (us.length+1) (ws.map D.str):=rfl;rw[hen,Zbg (hchk st) (ρ1:=EV3 ns ls a (some (.lst (E.map pl))) (some (pl g)) (some (pl T)) (some (.res q)) (some (.res u)) (some (.int us.length)) (some (.str w)) c10 c11 c12) rfl e1];have hlen:(us++[w]).length=us.length+1:=by simp
  rw[hlen] at e2;exact e2
theorem Zms{g:List Str}{S:List (List Str)}(hn:S.Nodup)(hs:S.length<=127){q u:Nat}(c3 c5 c8 c9 c10 c11 c12:Option D)(st:Sto)(A:Pr cv st q u ls g S) :
  Zfa cv (EV3 ns ls a c3 (some (pl g)) c5 (some (.res q)) (some (.res u)) c8 c9 c10 c11 c12) st = .nx (EV3 ns ls a c3 (some (pl g)) c5 (some (.res q)) (some (.res u)) c8 c9 c10 c11 c12) st:=by
 obtain⟨n1,fs1,i2,l3,l4⟩:=A.now;have q1:=Zi5 g g st;rw[Yv rfl] at q1;have q2:ZdN [.res u] st = .ok (.int (S.length:Int)) st:=by
  unfold ZdN;have h1:ZN st (.res u)=some (S.map pl):=by simp[ZN,A.l]
  have h2:Za1 (S.map pl)=some S:=ZeY S;simp only[h1,h2];rw[Yg (by omega),ZqX hn]
 have q3:=Zdi A.l;rw[Yr] at q3;have m5:=ZiE (S.length:Int) (S.length:Int) st;rw[Yv rfl] at m5;unfold Zfa EV3;generalize (S.length:Int)=n at *;simp[Zav,i2,l3,n1,q1,q2,q3,m5]
theorem Zn6(hl:ls.length<=8)(hls:∀l∈ls,Few l)(h6:a.length<=6)(ha:∀w∈a,abW w){E:List (List Str)}(rE:Rd (Zm ls) a E){g T:List Str}(wT:Wk (Zm ls) a T g){w:Str}{t:List Str}(hn:(w,t)∈Zm ls g)(c4 c6 c7 c8 c10 c12:Option D)(st:Sto) :
  ∃st',ZeN (EV3 ns ls a (some (.lst (E.map pl))) c4 (some (pl T)) c6 c7 c8 (some (.str w)) c10 (some (pl t)) c12) st = .nx (EV3 ns ls a (some (.lst (E.map pl))) c4 (some (pl T)) c6 c7 c8 (some (.str w)) c10 (some (pl t)) c12) st'/\StoK st st':=by
 have wk':=Wk.snoc wT hn;obtain⟨o,st1,e1,k1,sh⟩:=ZdM hl hls a h6 ha t st;obtain⟨vs,rfl,hv⟩:∃vs,o=some vs/\vs.length<=T.length+1:=by
  cases o with
  | none=>exact absurd wk' (sh _)
  | some vs=>exact⟨vs,rfl,by have:=sh.2.1 _ wk'; simpa using this⟩
 have q1:=ZfG (st:=st) t E;rw[Yv ((rE.mem t).2 ⟨_,wk'⟩)] at q1;have e1':Z8 [Zk ls,pl a,pl t] st = .ok (pl vs) st1:=e1;have m1:=ZcU vs st1;have m2:=ZcU T st1;have m3:=ZdX (T.length:Int) 1 st1;have m4:gtD (.int (vs.length:Int)) (.int ((T.length:Int)+1)) st1 = .ok (.bl false) st1:=by
  show Out.ok (D.bl (decide ((T.length:Int)+1<(vs.length:Int)))) st1=_;rw[YA (by omega)]
 refine⟨st1,?_,k1⟩;unfold ZeN EV3;generalize E.map pl=X at *;generalize (vs.length:Int)=nv at *;generalize (T.length:Int)=nt at *;simp[q1,e1',m1,m2,m3,m4]
theorem Zjs(hl:ls.length<=8)(hls:∀l∈ls,Few l)(h6:a.length<=6)(ha:∀w∈a,abW w){E:List (List Str)}(rE:Rd (Zm ls) a E){g T:List Str}(wT:Wk (Zm ls) a T g)(c4 c6 c7 c8 c10 c12:Option D){chk:Sto->Prop}(st0:Sto)(hchk:∀st,StoK st0 st->chk st):∀(xs:List (Str×List Str)) (c9 c11:Option D) (st:Sto),(∀x∈xs,x∈Zm ls g)->StoK st0 st ->
  ∃c9' c11' st',ZO chk (Za2 [9,11]) ZeN (xs.map fun x=>D.tup [.str x.1,pl x.2]) (EV3 ns ls a (some (.lst (E.map pl))) c4 (some (pl T)) c6 c7 c8 c9 c10 c11 c12) st = .nx (EV3 ns ls a (some (.lst (E.map pl))) c4 (some (pl T)) c6 c7 c8 c9' c10 c11' c12) st'
 | [],c9,c11,st,_,k=>⟨c9,c11,st,ZbN (hchk st k)⟩
 | x :: xs,c9,c11,st,h,k=>by
  obtain⟨st1,e1,k1⟩:=Zn6 (ns:=ns) hl hls h6 ha rE wT (w:=x.1) (t:=x.2) (h x (Yt ..)) c4 c6 c7 c8 c10 c12 st;obtain⟨f9,f11,st2,e2⟩:=Zjs hl hls h6 ha rE wT c4 c6 c7 c8 c10 c12 st0 hchk xs (some (.str x.1)) (some (pl x.2)) st1 (fun y hy=>h y (Yl _ hy)) (k.trans k1);refine⟨f9,f11,st2,?_⟩;rw[YF,Zbg (hchk st k) (ρ1:=EV3 ns ls a (some (.lst (E.map pl))) c4 (some (pl T)) c6 c7 c8 (some (.str x.1)) c10 (some (pl x.2)) c12) rfl e1];exact e2
theorem Zk1(hl:ls.length<=8)(hls:∀l∈ls,Few l)(h6:a.length<=6)(ha:∀w∈a,abW w){E:List (List Str)}(rE:Rd (Zm ls) a E){g T:List Str}(wT:Wk (Zm ls) a T g)(c6 c7 c8 c9 c10 c11 c12:Option D)(st:Sto) :
  ∃c9' c11' st',Zfb (EV3 ns ls a (some (.lst (E.map pl))) (some (pl g)) (some (pl T)) c6 c7 c8 c9 c10 c11 c12) st = .nx (EV3 ns ls a (some (.lst (E.map pl))) (some (pl g)) (some (pl T)) c6 c7 c8 c9' c10 c11' c12) st':=by
 have hg:=rE.ab g ((rE.mem g).2 ⟨T,wT⟩);obtain⟨st1,e1,h1,k1⟩:=Zg0 ls hl g hg.1 st;have hit:∀st2,StoK st1 st2->itemsOf st2 (.res st.length)=some ((Zm ls g).map fun x=>D.tup [.str x.1,pl x.2]):=fun st2 k=>getL (k.fr _ _ h1);obtain⟨f9,f11,st2,e2⟩:=Zjs (ns:=ns) hl hls h6 ha rE wT (some (pl g)) c6 c7 c8 c10 c12 (chk:=fun st2=>itemsOf st2 (.res st.length)=some ((Zm ls g).map fun x=>D.tup [.str x.1,pl x.2])) st1 hit (Zm ls g) c9 c11 st1 (fun x hx=>hx) (StoK.refl _);refine⟨f9,f11,st2,?_⟩;have i1:=hit st1 (StoK.refl _);have hd:Zam (Zj ZaG (Zc (Za 1) (Zc (Za 4) Ze))) (EV3 ns ls a (some (.lst (E.map pl))) (some (pl g)) (some (pl T)) c6 c7 c8 c9 c10 c11 c12) st = .ok ((Zm ls g).map (fun x=>D.tup [.str x.1,pl x.2]),fun st2=>itemsOf st2 (.res st.length)=some ((Zm ls g).map fun x=>D.tup [.str x.1,pl x.2])) st1:=by
  unfold EV3;generalize E.map pl=X at *;simp[-List.map_map,e1,i1]
 unfold Zfb;rw[Zeg,hd];exact e2
theorem ZlU(hl:ls.length<=8)(hls:∀l∈ls,Few l){F:List (List Str)}(hF:F.length<=127)(hab:∀p∈F,(p.length<=6/\∀w∈p,abW w)/\onV ls p=false)(c3 c4 c5 c6 c7 c8 c9 c10 c11:Option D)(st:Sto) :
  ∃st',Zev (EV3 ns ls a c3 c4 c5 c6 c7 c8 c9 c10 c11 (some (.lst (F.map pl)))) st = .nx (EV3 ns ls a c3 c4 c5 c6 c7 c8 c9 c10 c11 (some (.lst (F.map pl)))) st':=by
 have q1:(1:Nat)<=small:=by decide
 have q0:(0:Nat)<=small:=by decide
 obtain⟨st2,e2,k2⟩:=ZeR (chk:=fun _=>True) (t:=ZH 0) (cond:=ZeD) (fe:=ZfD) pl (fun _=>false) pl st (fun ρ => ∃x,ρ=[x,some (Zk ls)]) (fun _ _=>trivial) F [none,some (Zk ls)] st [] (StoK.refl _) ⟨_,rfl⟩ (by simp; exact ZaV (by omega)) (by
  rintro p hp ρ st3 ⟨x,rfl⟩ k3;obtain⟨⟨h6,ha⟩,ho⟩:=hab p hp;obtain⟨G,st4,e4,k4,rG⟩:=Ze6 hl hls p h6 ha st3;refine⟨_,st4,rfl,⟨_,rfl⟩,?_,k4,fun h=>by cases h⟩;have he:=ZiP rG;rw[ho] at he;have hG:G=[p]:=Qc he;rw[hG] at e4;have e4':ZaA [Zk ls,pl p] st3 = .ok (.lst [pl p]) st4:=e4;have e5:neD (.lst [pl p]) (.lst [pl p]) st4 = .ok (.bl false) st4:=by
   have:=ZkF [p] [p] st4;rw[Yv rfl] at this;exact this
  unfold ZeD;simp[e4',e5,q1])
 have e7:Z1 (fun _=>True) (ZH 0) ZeD ZfD (F.map pl) [none,some (Zk ls)] st [] = .ok [] st2:=by
  rw[e2]; simp
 refine⟨st2,?_⟩;have e6:neD (.lst []) (.lst []) st2 = .ok (.bl false) st2:=ZhT rfl st2;have i1:∀st2,itemsOf st2 (.lst (F.map pl))=some (F.map pl):=fun _=>rfl;unfold Zev EV3;generalize F.map pl=X at *;simp[i1,Zat,e7,e6,q0]
end
theorem law_true(cv:Nat->Addr)(ns:List Int)(hl:ns.length<=63):∃st,Zdt cv [.scr (ns.map .int)] [] = .ok (.bl true) st:=by
 have hg:∃st,Zft cv [some (.scr (ns.map .int)),none,none,none,none,none,none,none,none,none,none,none,none] [] = .rt (.bl true) st:=by
  unfold Zft;obtain⟨ms,e1,hm,hFm,_⟩:=Znp ns hl 0 [];have e2:ZbU (Zk ms) none (some 4) [] = .ok (Zk (ms.take 4)) []:=by
   have h1:ZbU (Zk ms) none (some ((4:Nat):Int)) [] = .ok (.tup (Zax (ms.map lkD) none (some ((4:Nat):Int)))) []:=rfl;rw[ZgX,<-UH] at h1;exact h1
  have hF:∀l∈ms.take 4,Few l:=fun l hl=>hFm l (VZ hl);have hl8:(ms.take 4).length<=8:=by rw[Y1]; omega
  generalize ms.take 4=ls at *;refine Zay (ρ':=[some (.scr (ns.map .int)),some (Zk ls),none,none,none,none,none,none,none,none,none,none,none]) (st':=[]) (by unfold ZfO; simp[e1,e2]) ?_;obtain⟨a,ha3,hab,e3⟩:=Zqp ns hl [] (ρ:=[some (.scr (ns.map .int)),some (Zk ls),none,none,none,none,none,none,none,none,none,none,none]) rfl;have h6:a.length<=6:=by omega
  refine Zay (ρ':=EV3 ns ls a none none none none none none none none none none) (st':=[]) (by unfold Zgn EV3; simp only[ZmF,e3]; rfl) ?_;obtain⟨E,st1,e4,k4,rE⟩:=Ze6 hl8 hF a h6 hab [];refine Zay (ρ':=EV3 ns ls a (some (.lst (E.map pl))) none none none none none none none none none) (st':=st1) (by unfold Zg3 EV3; simp[-List.map_map,e4]) ?_;obtain⟨st2,e5⟩:=ZpK (ns:=ns) hl8 hF h6 hab rE none none none none none none none none none st1;refine Zay e5 ?_;have h0:E≠[]:=fun e=>by
   have:=(rE.mem a).2 ⟨[],Wk.nil⟩;rw[e] at this;cases this
  have hk:(0:Int)<(E.length:Int):=by have:=QL.mpr h0; omega
  have d1:=Zbp ns hl 110 (E.length:Int) hk st2;obtain⟨d,hd,x1⟩:=Zen (xs:=E.map pl) (Za7 ns 110 (E.length:Int) hk) (by rw[Yr]; exact Zbf ns 110 (E.length:Int) hk) st2;obtain⟨g,hgE,rfl⟩:=Y9.mp hd;have l1:=ZrV (E.map pl) st2;rw[Yr] at l1;refine Zay (ρ':=EV3 ns ls a (some (.lst (E.map pl))) (some (pl g)) none none none none none none none none) (st':=st2) (by
   unfold ZfP EV3;generalize E.map pl=X at *;generalize (E.length:Int)=n at *;simp[d1,x1,l1]) ?_
  obtain⟨wg,hwg⟩:=(rE.mem g).1 hgE;obtain⟨o,st3,e6,k6,sh⟩:=ZdM hl8 hF a h6 hab g st2;cases o with
  | none=>exact absurd hwg (sh wg)
  | some T =>
  have e6':Z8 [Zk ls,pl a,pl g] st2 = .ok (pl T) st3:=e6;refine Zay (ρ':=EV3 ns ls a (some (.lst (E.map pl))) (some (pl g)) (some (pl T)) none none none none none none none) (st':=st3) (by
   unfold ZfW EV3;generalize E.map pl=X at *;simp[e6']) ?_
  obtain⟨st4,e7⟩:=Zm6 (ns:=ns) hl8 hF h6 hab rE T (some (.lst (E.map pl))) (some (pl g)) none none none none none none none st3;refine Zay e7 ?_;have m1:=Zsr (cv:=cv) a 99 ls st4;have A0:=ZqL (cv:=cv) a 99 ls st4;have hbig:(st4++[.ins (cv 4) (prF (st4.length+1) ls),.ins (cv 0) (bk 99 (st4.length+2) 0),.lst [ZU (a,0)]]:Sto).length=st4.length+3:=by simp
  generalize hst5:(st4++[.ins (cv 4) (prF (st4.length+1) ls),.ins (cv 0) (bk 99 (st4.length+2) 0),.lst [ZU (a,0)]]:Sto)=st5 at *;refine Zay (ρ':=EV3 ns ls a (some (.lst (E.map pl))) (some (pl g)) (some (pl T)) (some (.res st4.length)) none none none none none none) (st':=st5) (by
   unfold ZgV EV3;generalize E.map pl=X at *;simp[Zh2,m1,Zeq]) ?_
  have q1:(1:Nat)<=small:=by decide
  refine Zay (ρ':=EV3 ns ls a (some (.lst (E.map pl))) (some (pl g)) (some (pl T)) (some (.res st4.length)) (some (.res st5.length)) none none none none none) (st':=st5++[.lst [pl a]]) (by
   unfold Zge EV3;generalize E.map pl=X at *;simp[q1]) ?_
  have A1:Pr cv (st5++[.lst [pl a]]) st4.length st5.length ls a [a]:=⟨⟨st4.length+1,st4.length+2,[(a,0)],0,(a,0),A0.kept (StoK.app _ _),rfl,rfl,by simp,by omega,by omega⟩,Zd2 _ _⟩;obtain⟨f8,f9,f10,st6,S,e8,A2,hnS,hlS⟩:=Zkm (cv:=cv) (ns:=ns) (chk:=fun _=>True) (fun _=>trivial) hl8 hF rE (g:=g) (T:=T) sh.2.1 sh.2.2 none none T [] a [a] none none none _ rfl Wk.nil (Wc.of sh.1) A1 (by simp) (fun x hx=>⟨[],by rw[Ys.mp hx]; exact Wk.nil,Yi _⟩) rfl;refine Zay (ρ':=EV3 ns ls a (some (.lst (E.map pl))) (some (pl g)) (some (pl T)) (some (.res st4.length)) (some (.res st5.length)) f8 f9 f10 none none) (st':=st6) ?_ ?_
  ·have hd:Zf1 (Za 5) (EV3 ns ls a (some (.lst (E.map pl))) (some (pl g)) (some (pl T)) (some (.res st4.length)) (some (.res st5.length)) none none none none none) (st5++[.lst [pl a]]) = .ok (ZaO 0 (T.map D.str),fun _=>True) (st5++[.lst [pl a]]):=rfl;unfold Zgq;rw[Zeg,hd];exact e8
  refine Zay (Zms (ns:=ns) hnS hlS (some (.lst (E.map pl))) (some (pl T)) f8 f9 f10 none none st6 A2) ?_;obtain⟨h9,h11,st7,e9⟩:=Zk1 (ns:=ns) hl8 hF h6 hab rE sh.1 (some (.res st4.length)) (some (.res st5.length)) f8 f9 f10 none none st6;refine Zay e9 ?_;obtain⟨E2,st8,e10,k10,rE2⟩:=Zne hl8 hF a h6 hab st7;rw[ZnW rE2 rE] at e10;refine Zay (ρ':=EV3 ns ls a (some (.lst (E.map pl))) (some (pl g)) (some (pl T)) (some (.res st4.length)) (some (.res st5.length)) f8 h9 f10 h11 (some (.lst ((E.filter fun p => !onV ls p).map pl)))) (st':=st8) (by
   unfold Zfr EV3;generalize (E.filter fun p => !onV ls p).map pl=Y at *;generalize E.map pl=X at *;simp[e10]) ?_
  have hfl:(E.filter fun p => !onV ls p).length<=127:=YI (VS _ _) rE.len;obtain⟨st9,e11⟩:=ZlU (ns:=ns) (a:=a) hl8 hF (F:=E.filter fun p => !onV ls p) hfl (fun p hp=>by
   obtain⟨h1,h2⟩:=Wf.mp hp;exact⟨rE.ab p h1,by simpa using h2⟩) (some (.lst (E.map pl))) (some (pl g)) (some (pl T)) (some (.res st4.length)) (some (.res st5.length)) f8 h9 f10 h11 st8
  refine Zay e11 ?_;obtain⟨hg6,hga⟩:=rE.ab g hgE;obtain⟨G,st10,e12,k12,rG⟩:=Ze6 hl8 hF g hg6 hga st9;have i1:=Zsh (st:=st9) g (E.filter fun p => !onV ls p);have hin:decide (g∈E.filter fun p => !onV ls p) = !onV ls g:=by
   cases ho:onV ls g with
   | true =>
    refine YA fun h => ?_;have:=(Wf.mp h).2;rw[ho] at this;cases this
   | false=>exact Yv (Wf.mpr ⟨hgE,by rw[ho]; rfl⟩)
  rw[hin] at i1;have i2:=ZpW G [g] st10;rw[ZiP rG] at i2;have i2':eqD (.lst (G.map pl)) (.lst [pl g]) st10 = .ok (.bl (!onV ls g)) st10:=i2;have i3:eqD (.bl (!onV ls g)) (.bl (!onV ls g)) st10 = .ok (.bl true) st10:=by
   cases onV ls g <;> rfl
  refine⟨st10,?_⟩;unfold Zfy EV3;generalize (!onV ls g)=bb at *;generalize (E.filter fun p => !onV ls p).map pl=Y at *;generalize E.map pl=X at *;generalize G.map pl=Z at *;simp[i1,e12,i2',i3,q1]
 obtain⟨st,e⟩:=hg;exact⟨st,by unfold Zdt; simp[e]⟩
end K53
end
section
namespace K53
open PySem L2 DL
open PySem.W in
theorem all_mk{l:OpenLaw}{w:World}{K:Frag}{h:Heap}{mg:Str->Option P7}{fa f0 f1 f2 f3 f4 f5 f6 f7 f8 f9 f10 f11 f12 f13 f14 f15 f16 f17 f18 f19 f20 f21 f22 f23 f24 f25 f26 f27 f28 C_Book C_Presser C_BookHolder:Addr}(X:K.In h)(G:h.Ns mainGlobals mg)(hfa:mg "law" = some (.ref fa))
  {od0 an0 od1 an1 od2 an2 od3 an3 od4 an4 od5 an5 od6 an6 od7 an7 od8 an8 od9 an9 od10 an10 od11 an11 od12 an12 od13 an13 od14 an14 od15 an15 od16 an16 od17 an17 od18 an18 od19 an19 od20 an20 od21 an21 od22 an22 od23 an23 od24 an24 od25 an25 od26 an26 od27 an27 od28 an28:Option Addr} {sl0 sl1 sl2 sl3 sl4 sl5 sl6 sl7 sl8 sl9 sl10 sl11 sl12 sl13 sl14 sl15 sl16 sl17 sl18 sl19 sl20 sl21 sl22 sl23 sl24 sl25 sl26 sl27 sl28:Array (Option P7)} {oc0 kV0 dc0 pm0 cd0 ct0 oc1 kV1 dc1 pm1 cd1 ct1 oc2 kV2 dc2 pm2 cd2 ct2 oc3 kV3 dc3 pm3 cd3 ct3 oc4 kV4 dc4 pm4 cd4 ct4 oc5 kV5 dc5 pm5 cd5 ct5 oc6 kV6 dc6 pm6 cd6 ct6 oc7 kV7 dc7 pm7 cd7 ct7 oc8 kV8 dc8 pm8 cd8 ct8 oc9 kV9 dc9 pm9 cd9 ct9 oc10 kV10 dc10 pm10 cd10 ct10 oc11 kV11 dc11 pm11 cd11 ct11 oc12 kV12 dc12 pm12 cd12 ct12 oc13 kV13 dc13 pm13 cd13 ct13 oc14 kV14 dc14 pm14 cd14 ct14 oc15 kV15 dc15 pm15 cd15 ct15 oc16 kV16 dc16 pm16 cd16 ct16 oc17 kV17 dc17 pm17 cd17 ct17 oc18 kV18 dc18 pm18 cd18 ct18 oc19 kV19 dc19 pm19 cd19 ct19 oc20 kV20 dc20 pm20 cd20 ct20 oc21 kV21 dc21 pm21 cd21 ct21 oc22 kV22 dc22 pm22 cd22 ct22 oc23 kV23 dc23 pm23 cd23 ct23 oc24 kV24 dc24 pm24 cd24 ct24 oc25 kV25 dc25 pm25 cd25 ct25 oc26 kV26 dc26 pm26 cd26 ct26 oc27 kV27 dc27 pm27 cd27 ct27 oc28 kV28 dc28 pm28 cd28 ct28:P7}
  (a_Book:nsIn K mainGlobals "Book" = some (some (.ref C_Book)))
  (a_Presser:nsIn K mainGlobals "Presser" = some (some (.ref C_Presser)))
  (a_BookHolder:nsIn K mainGlobals "BookHolder" = some (some (.ref C_BookHolder)))
  (a0:nsIn K mainGlobals "_law_cell" = some (some (.ref f0))) (l0:K.lookup f0=some ⟨oc0,od0,.func (fnOf "_law_cell" "_law_cell" (ZC ZcX) (Zr ZcX) (Zf ZcX) .none kV0 dc0 pm0 an0 cd0 ct0),sl0⟩) (c0:codeIn K cd0 "_law_cell" = true) (k0:keepIn K (.ref f0)=true)
  (a1:nsIn K mainGlobals "_law_drawn" = some (some (.ref f1))) (l1:K.lookup f1=some ⟨oc1,od1,.func (fnOf "_law_drawn" "_law_drawn" (ZC Zdf) (Zr Zdf) (Zf Zdf) .none kV1 dc1 pm1 an1 cd1 ct1),sl1⟩) (c1:codeIn K cd1 "_law_drawn" = true) (k1:keepIn K (.ref f1)=true)
  (a2:nsIn K mainGlobals "_law_few" = some (some (.ref f2))) (l2:K.lookup f2=some ⟨oc2,od2,.func (fnOf "_law_few" "_law_few" (ZC Zce) (Zr Zce) (Zf Zce) .none kV2 dc2 pm2 an2 cd2 ct2),sl2⟩) (c2:codeIn K cd2 "_law_few" = true) (k2:keepIn K (.ref f2)=true)
  (a3:nsIn K mainGlobals "is_under" = some (some (.ref f3))) (l3:K.lookup f3=some ⟨oc3,od3,.func (fnOf "is_under" "is_under" (ZC ZcL) (Zr ZcL) (Zf ZcL) .none kV3 dc3 pm3 an3 cd3 ct3),sl3⟩) (c3:codeIn K cd3 "is_under" = true) (k3:keepIn K (.ref f3)=true)
  (a4:nsIn K mainGlobals "words_at" = some (some (.ref f4))) (l4:K.lookup f4=some ⟨oc4,od4,.func (fnOf "words_at" "words_at" (ZC ZcA) (Zr ZcA) (Zf ZcA) .none kV4 dc4 pm4 an4 cd4 ct4),sl4⟩) (c4:codeIn K cd4 "words_at" = true) (k4:keepIn K (.ref f4)=true)
  (a5:nsIn K mainGlobals "link_at" = some (some (.ref f5))) (l5:K.lookup f5=some ⟨oc5,od5,.func (fnOf "link_at" "link_at" (ZC Zdw) (Zr Zdw) (Zf Zdw) .none kV5 dc5 pm5 an5 cd5 ct5),sl5⟩) (c5:codeIn K cd5 "link_at" = true) (k5:keepIn K (.ref f5)=true)
  (a6:nsIn K mainGlobals "is_too_long" = some (some (.ref f6))) (l6:K.lookup f6=some ⟨oc6,od6,.func (fnOf "is_too_long" "is_too_long" (ZC Zdz) (Zr Zdz) (Zf Zdz) .none kV6 dc6 pm6 an6 cd6 ct6),sl6⟩) (c6:codeIn K cd6 "is_too_long" = true) (k6:keepIn K (.ref f6)=true)
  (a7:nsIn K mainGlobals "led" = some (some (.ref f7))) (l7:K.lookup f7=some ⟨oc7,od7,.func (fnOf "led" "led" (ZC Zdb) (Zr Zdb) (Zf Zdb) .none kV7 dc7 pm7 an7 cd7 ct7),sl7⟩) (c7:codeIn K cd7 "led" = true) (k7:keepIn K (.ref f7)=true)
  (a8:nsIn K mainGlobals "goal_of" = some (some (.ref f8))) (l8:K.lookup f8=some ⟨oc8,od8,.func (fnOf "goal_of" "goal_of" (ZC ZcQ) (Zr ZcQ) (Zf ZcQ) .none kV8 dc8 pm8 an8 cd8 ct8),sl8⟩) (c8:codeIn K cd8 "goal_of" = true) (k8:keepIn K (.ref f8)=true)
  (a9:nsIn K mainGlobals "next_places" = some (some (.ref f9))) (l9:K.lookup f9=some ⟨oc9,od9,.func (fnOf "next_places" "next_places" (ZC Zda) (Zr Zda) (Zf Zda) .none kV9 dc9 pm9 an9 cd9 ct9),sl9⟩) (c9:codeIn K cd9 "next_places" = true) (k9:keepIn K (.ref f9)=true)
  (a10:nsIn K mainGlobals "ways_from" = some (some (.ref f10))) (l10:K.lookup f10=some ⟨oc10,od10,.func (fnOf "ways_from" "ways_from" (ZC Zc0) (Zr Zc0) (Zf Zc0) .none kV10 dc10 pm10 an10 cd10 ct10),sl10⟩) (c10:codeIn K cd10 "ways_from" = true) (k10:keepIn K (.ref f10)=true)
  (a11:nsIn K mainGlobals "reached" = some (some (.ref f11))) (l11:K.lookup f11=some ⟨oc11,od11,.func (fnOf "reached" "reached" (ZC ZcK) (Zr ZcK) (Zf ZcK) .none kV11 dc11 pm11 an11 cd11 ct11),sl11⟩) (c11:codeIn K cd11 "reached" = true) (k11:keepIn K (.ref f11)=true)
  (a12:nsIn K mainGlobals "shortest" = some (some (.ref f12))) (l12:K.lookup f12=some ⟨oc12,od12,.func (fnOf "shortest" "shortest" (ZC ZdA) (Zr ZdA) (Zf ZdA) .none kV12 dc12 pm12 an12 cd12 ct12),sl12⟩) (c12:codeIn K cd12 "shortest" = true) (k12:keepIn K (.ref f12)=true)
  (a13:findIn K (.ref C_Book) "__init__" = some (some (.ref f13))) (i13:isFn K (.ref f13)=true) (l13:K.lookup f13=some ⟨oc13,od13,.func (fnOf "__init__" "Book.__init__" (ZC ZcE) (Zr ZcE) (Zf ZcE) .none kV13 dc13 pm13 an13 cd13 ct13),sl13⟩) (c13:codeIn K cd13 "Book.__init__" = true) (k13:keepIn K (.ref f13)=true)
  (a14:findCls K (.ref C_BookHolder) (.type "type") "__init__" = some (.val (.ref f14))) (l14:K.lookup f14=some ⟨oc14,od14,.func (fnOf "__init__" "BookHolder.__init__" (ZC Zc1) (Zr Zc1) (Zf Zc1) .none kV14 dc14 pm14 an14 cd14 ct14),sl14⟩) (c14:codeIn K cd14 "BookHolder.__init__" = true) (k14:keepIn K (.ref f14)=true)
  (a15:findIn K (.ref C_Presser) "__init__" = some (some (.ref f15))) (i15:isFn K (.ref f15)=true) (l15:K.lookup f15=some ⟨oc15,od15,.func (fnOf "__init__" "Presser.__init__" (ZC Zds) (Zr Zds) (Zf Zds) .none kV15 dc15 pm15 an15 cd15 ct15),sl15⟩) (c15:codeIn K cd15 "Presser.__init__" = true) (k15:keepIn K (.ref f15)=true)
  (a16:findIn K (.ref C_Book) "now" = some (some (.ref f16))) (i16:isFn K (.ref f16)=true) (l16:K.lookup f16=some ⟨oc16,od16,.func (fnOf "now" "Book.now" (ZC Zdc) (Zr Zdc) (Zf Zdc) .none kV16 dc16 pm16 an16 cd16 ct16),sl16⟩) (c16:codeIn K cd16 "Book.now" = true) (k16:keepIn K (.ref f16)=true)
  (a17:findIn K (.ref C_Presser) "now" = some (some (.ref f17))) (i17:isFn K (.ref f17)=true) (l17:K.lookup f17=some ⟨oc17,od17,.func (fnOf "now" "BookHolder.now" (ZC Zc4) (Zr Zc4) (Zf Zc4) .none kV17 dc17 pm17 an17 cd17 ct17),sl17⟩) (c17:codeIn K cd17 "BookHolder.now" = true) (k17:keepIn K (.ref f17)=true)
  (a18:findIn K (.ref C_Book) "can_go" = some (some (.ref f18))) (i18:isFn K (.ref f18)=true) (l18:K.lookup f18=some ⟨oc18,od18,.func (fnOf "can_go" "Book.can_go" (ZC ZcB) (Zr ZcB) (Zf ZcB) .none kV18 dc18 pm18 an18 cd18 ct18),sl18⟩) (c18:codeIn K cd18 "Book.can_go" = true) (k18:keepIn K (.ref f18)=true)
  (a19:findIn K (.ref C_Book) "place_at" = some (some (.ref f19))) (i19:isFn K (.ref f19)=true) (l19:K.lookup f19=some ⟨oc19,od19,.func (fnOf "place_at" "Book.place_at" (ZC ZcR) (Zr ZcR) (Zf ZcR) .none kV19 dc19 pm19 an19 cd19 ct19),sl19⟩) (c19:codeIn K cd19 "Book.place_at" = true) (k19:keepIn K (.ref f19)=true)
  (a20:findIn K (.ref C_Book) "go" = some (some (.ref f20))) (i20:isFn K (.ref f20)=true) (l20:K.lookup f20=some ⟨oc20,od20,.func (fnOf "go" "Book.go" (ZC Zc6) (Zr Zc6) (Zf Zc6) .none kV20 dc20 pm20 an20 cd20 ct20),sl20⟩) (c20:codeIn K cd20 "Book.go" = true) (k20:keepIn K (.ref f20)=true)
  (a21:findIn K (.ref C_Presser) "try_go" = some (some (.ref f21))) (i21:isFn K (.ref f21)=true) (l21:K.lookup f21=some ⟨oc21,od21,.func (fnOf "try_go" "Presser.try_go" (ZC Zdu) (Zr Zdu) (Zf Zdu) .none kV21 dc21 pm21 an21 cd21 ct21),sl21⟩) (c21:codeIn K cd21 "Presser.try_go" = true) (k21:keepIn K (.ref f21)=true)
  (a22:findIn K (.ref C_Book) "visit" = some (some (.ref f22))) (i22:isFn K (.ref f22)=true) (l22:K.lookup f22=some ⟨oc22,od22,.func (fnOf "visit" "Book.visit" (ZC Zdh) (Zr Zdh) (Zf Zdh) .none kV22 dc22 pm22 an22 cd22 ct22),sl22⟩) (c22:codeIn K cd22 "Book.visit" = true) (k22:keepIn K (.ref f22)=true)
  (a23:findIn K (.ref C_Book) "replace" = some (some (.ref f23))) (i23:isFn K (.ref f23)=true) (l23:K.lookup f23=some ⟨oc23,od23,.func (fnOf "replace" "Book.replace" (ZC ZcH) (Zr ZcH) (Zf ZcH) .none kV23 dc23 pm23 an23 cd23 ct23),sl23⟩) (c23:codeIn K cd23 "Book.replace" = true) (k23:keepIn K (.ref f23)=true)
  (a24:findIn K (.ref C_Presser) "try_lead" = some (some (.ref f24))) (i24:isFn K (.ref f24)=true) (l24:K.lookup f24=some ⟨oc24,od24,.func (fnOf "try_lead" "Presser.try_lead" (ZC ZcY) (Zr ZcY) (Zf ZcY) .none kV24 dc24 pm24 an24 cd24 ct24),sl24⟩) (c24:codeIn K cd24 "Presser.try_lead" = true) (k24:keepIn K (.ref f24)=true)
  (a25:findIn K (.ref C_Presser) "press" = some (some (.ref f25))) (i25:isFn K (.ref f25)=true) (l25:K.lookup f25=some ⟨oc25,od25,.func (fnOf "press" "Presser.press" (ZC ZcM) (Zr ZcM) (Zf ZcM) .none kV25 dc25 pm25 an25 cd25 ct25),sl25⟩) (c25:codeIn K cd25 "Presser.press" = true) (k25:keepIn K (.ref f25)=true)
  (a26:nsIn K mainGlobals "leads_on" = some (some (.ref f26))) (l26:K.lookup f26=some ⟨oc26,od26,.func (fnOf "leads_on" "leads_on" (ZC Zcn) (Zr Zcn) (Zf Zcn) .none kV26 dc26 pm26 an26 cd26 ct26),sl26⟩) (c26:codeIn K cd26 "leads_on" = true) (k26:keepIn K (.ref f26)=true)
  (a27:nsIn K mainGlobals "dead_ends" = some (some (.ref f27))) (l27:K.lookup f27=some ⟨oc27,od27,.func (fnOf "dead_ends" "dead_ends" (ZC Zct) (Zr Zct) (Zf Zct) .none kV27 dc27 pm27 an27 cd27 ct27),sl27⟩) (c27:codeIn K cd27 "dead_ends" = true) (k27:keepIn K (.ref f27)=true)
  (a28:nsIn K mainGlobals "law" = some (some (.ref f28))) (l28:K.lookup f28=some ⟨oc28,od28,.func (fnOf "law" "law" (ZC Zq) (Zr Zq) (Zf Zq) .none kV28 dc28 pm28 an28 cd28 ct28),sl28⟩) (c28:codeIn K cd28 "law" = true) (k28:keepIn K (.ref f28)=true)
  (pg_Book:plainGet K C_Book Str.empty=true) (hd_Book:hasDictIn K C_Book=true) (po_Book:plainOver K C_Book=true) (sa_Book:findIn K (.ref C_Book) "__setattr__" = some (some (.builtin "object.__setattr__")))
  (pg_Presser:plainGet K C_Presser Str.empty=true) (hd_Presser:hasDictIn K C_Presser=true) (po_Presser:plainOver K C_Presser=true) (sa_Presser:findIn K (.ref C_Presser) "__setattr__" = some (some (.builtin "object.__setattr__")))
  (sg_BookHolder:specialIn K (.ref C_BookHolder) "__getattribute__" = some (some (.builtin "type.__getattribute__"))) (rd_BookHolder:readsIn K C_BookHolder (.type "type")=true)
  (mk_Book:makesIn K C_Book=true) (kc_Book:keepIn K (.ref C_Book)=true)
  (mk_Presser:makesIn K C_Presser=true) (kc_Presser:keepIn K (.ref C_Presser)=true)
  (na_Book_most:findIn K (.ref C_Book) "most" = some none)
  (na_Book_rows:findIn K (.ref C_Book) "rows" = some none)
  (na_Book_spot:findIn K (.ref C_Book) "spot" = some none)
  (na_Presser_book:findIn K (.ref C_Presser) "book" = some none)
  (na_Presser_links:findIn K (.ref C_Presser) "links" = some none)
  (z_any:nsIn K mainGlobals "any" = some none)    (z_enumerate:nsIn K mainGlobals "enumerate" = some none)    (z_int:nsIn K mainGlobals "int" = some none)    (z_len:nsIn K mainGlobals "len" = some none)    (z_list:nsIn K mainGlobals "list" = some none)    (z_range:nsIn K mainGlobals "range" = some none)    (z_set:nsIn K mainGlobals "set" = some none)    (z_sorted:nsIn K mainGlobals "sorted" = some none)    (z_tuple:nsIn K mainGlobals "tuple" = some none)    {t_MOST_WORDS:Tok} (v_MOST_WORDS:nsIn K mainGlobals "MOST_WORDS" = some (some (.int 6 t_MOST_WORDS)))    {t_NO_MARK:Tok} (v_NO_MARK:nsIn K mainGlobals "NO_MARK" = some (some (.int 0 t_NO_MARK))) :
  ∃fd:P6,(∀(s:P1) (v:P7),BindsTo s fd ⟨[v],[]⟩ [("_law_script",v)])/\∀base:Heap,K.In base->base.Ns mainGlobals mg->FnOk l.prog w K mg base CX0 8 fa fd ["_law_script"] (spA K Zdt):=by
 have e:=hfa.symm.trans (Qi X G a28);cases e;obtain⟨cv,rfl,rfl,rfl⟩:∃cv:Nat->Addr,cv 0=C_Book/\cv 4=C_Presser/\cv 6=C_BookHolder:=⟨fun n=>match n with | 0=>C_Book | 4=>C_Presser | 6=>C_BookHolder | _=>0,rfl,rfl,rfl⟩;have b_any:=QS X G z_any;have b_enumerate:=QS X G z_enumerate;have b_int:=QS X G z_int;have b_len:=QS X G z_len;have b_list:=QS X G z_list;have b_range:=QS X G z_range;have b_set:=QS X G z_set;have b_sorted:=QS X G z_sorted;have b_tuple:=QS X G z_tuple;have c_MOST_WORDS:=Qi X G v_MOST_WORDS;have c_NO_MARK:=Qi X G v_NO_MARK;have cl_Book:Cls K (cv 0):=⟨pg_Book,hd_Book,po_Book,sa_Book⟩;have m_Book:=Qi X G a_Book;have cl_Presser:Cls K (cv 4):=⟨pg_Presser,hd_Presser,po_Presser,sa_Presser⟩;have m_Presser:=Qi X G a_Presser;have m_BookHolder:=Qi X G a_BookHolder;have na_Book_most:NoAttr K (cv 0) "most":=na_Book_most;have na_Book_rows:NoAttr K (cv 0) "rows":=na_Book_rows;have na_Book_spot:NoAttr K (cv 0) "spot":=na_Book_spot;have na_Presser_book:NoAttr K (cv 4) "book":=na_Presser_book;have na_Presser_links:NoAttr K (cv 4) "links":=na_Presser_links;have F0:=ZJ (st:=ZcX) l0 c0 k0;have b0:=F0.binds (ps:=["_law_script", "_law_k"]) fun _ _ _ _ _ _=>by refine us2 ?_; intros; rfl
 have m0:=Qi X G a0;have F1:=ZJ (st:=Zdf) l1 c1 k1;have b1:=F1.binds (ps:=["_law_script", "_law_k", "_law_many"]) fun _ _ _ _ _ _=>by refine us3 ?_; intros; rfl
 have m1:=Qi X G a1;have F2:=ZJ (st:=Zce) l2 c2 k2;have b2:=F2.binds (ps:=["_law_script", "_law_at"]) fun _ _ _ _ _ _=>by refine us2 ?_; intros; rfl
 have m2:=Qi X G a2;have F3:=ZJ (st:=ZcL) l3 c3 k3;have b3:=F3.binds (ps:=["place", "other"]) fun _ _ _ _ _ _=>by refine us2 ?_; intros; rfl
 have m3:=Qi X G a3;have F4:=ZJ (st:=ZcA) l4 c4 k4;have b4:=F4.binds (ps:=["links", "place"]) fun _ _ _ _ _ _=>by refine us2 ?_; intros; rfl
 have m4:=Qi X G a4;have F5:=ZJ (st:=Zdw) l5 c5 k5;have b5:=F5.binds (ps:=["links", "place", "word"]) fun _ _ _ _ _ _=>by refine us3 ?_; intros; rfl
 have m5:=Qi X G a5;have F6:=ZJ (st:=Zdz) l6 c6 k6;have b6:=F6.binds (ps:=["words"]) fun _ _ _ _ _ _=>by refine us1 ?_; intros; rfl
 have m6:=Qi X G a6;have F7:=ZJ (st:=Zdb) l7 c7 k7;have b7:=F7.binds (ps:=["place", "steps"]) fun _ _ _ _ _ _=>by refine us2 ?_; intros; rfl
 have m7:=Qi X G a7;have F8:=ZJ (st:=ZcQ) l8 c8 k8;have b8:=F8.binds (ps:=["link", "place"]) fun _ _ _ _ _ _=>by refine us2 ?_; intros; rfl
 have m8:=Qi X G a8;have F9:=ZJ (st:=Zda) l9 c9 k9;have b9:=F9.binds (ps:=["links", "place"]) fun _ _ _ _ _ _=>by refine us2 ?_; intros; rfl
 have m9:=Qi X G a9;have F10:=ZJ (st:=Zc0) l10 c10 k10;have b10:=F10.binds (ps:=["links", "start", "goal"]) fun _ _ _ _ _ _=>by refine us3 ?_; intros; rfl
 have m10:=Qi X G a10;have F11:=ZJ (st:=ZcK) l11 c11 k11;have b11:=F11.binds (ps:=["links", "start"]) fun _ _ _ _ _ _=>by refine us2 ?_; intros; rfl
 have m11:=Qi X G a11;have F12:=ZJ (st:=ZdA) l12 c12 k12;have b12:=F12.binds (ps:=["links", "start", "goal"]) fun _ _ _ _ _ _=>by refine us3 ?_; intros; rfl
 have m12:=Qi X G a12;have F13:=ZJ (st:=ZcE) l13 c13 k13;have b13:=F13.binds (ps:=["self", "place", "most"]) fun _ _ _ _ _ _=>by refine us3 ?_; intros; rfl
 have F14:=ZJ (st:=Zc1) l14 c14 k14;have b14:=F14.binds (ps:=["self", "place", "most"]) fun _ _ _ _ _ _=>by refine us3 ?_; intros; rfl
 have F15:=ZJ (st:=Zds) l15 c15 k15;have b15:=F15.binds (ps:=["self", "links", "place", "most"]) fun _ _ _ _ _ _=>by refine us4 ?_; intros; rfl
 have F16:=ZJ (st:=Zdc) l16 c16 k16;have b16:=F16.binds (ps:=["self"]) fun _ _ _ _ _ _=>by refine us1 ?_; intros; rfl
 have F17:=ZJ (st:=Zc4) l17 c17 k17;have b17:=F17.binds (ps:=["self"]) fun _ _ _ _ _ _=>by refine us1 ?_; intros; rfl
 have F18:=ZJ (st:=ZcB) l18 c18 k18;have b18:=F18.binds (ps:=["self", "by"]) fun _ _ _ _ _ _=>by refine us2 ?_; intros; rfl
 have F19:=ZJ (st:=ZcR) l19 c19 k19;have b19:=F19.binds (ps:=["self", "by"]) fun _ _ _ _ _ _=>by refine us2 ?_; intros; rfl
 have F20:=ZJ (st:=Zc6) l20 c20 k20;have b20:=F20.binds (ps:=["self", "by"]) fun _ _ _ _ _ _=>by refine us2 ?_; intros; rfl
 have F21:=ZJ (st:=Zdu) l21 c21 k21;have b21:=F21.binds (ps:=["self", "by"]) fun _ _ _ _ _ _=>by refine us2 ?_; intros; rfl
 have F22:=ZJ (st:=Zdh) l22 c22 k22;have b22:=F22.binds (ps:=["self", "place"]) fun _ _ _ _ _ _=>by refine us2 ?_; intros; rfl
 have F23:=ZJ (st:=ZcH) l23 c23 k23;have b23:=F23.binds (ps:=["self", "place"]) fun _ _ _ _ _ _=>by refine us2 ?_; intros; rfl
 have F24:=ZJ (st:=ZcY) l24 c24 k24;have b24:=F24.binds (ps:=["self", "link"]) fun _ _ _ _ _ _=>by refine us2 ?_; intros; rfl
 have F25:=ZJ (st:=ZcM) l25 c25 k25;have b25:=F25.binds (ps:=["self", "word"]) fun _ _ _ _ _ _=>by refine us2 ?_; intros; rfl
 have F26:=ZJ (st:=Zcn) l26 c26 k26;have b26:=F26.binds (ps:=["links", "place"]) fun _ _ _ _ _ _=>by refine us2 ?_; intros; rfl
 have m26:=Qi X G a26;have F27:=ZJ (st:=Zct) l27 c27 k27;have b27:=F27.binds (ps:=["links", "start"]) fun _ _ _ _ _ _=>by refine us2 ?_; intros; rfl
 have m27:=Qi X G a27;have F28:=ZJ (st:=Zq) l28 c28 k28;have b28:=F28.binds (ps:=["_law_script"]) fun _ _ _ _ _ _=>by refine us1 ?_; intros; rfl
 have m28:=Qi X G a28;refine⟨fnOf "law" "law" (ZC Zq) (Zr Zq) (Zf Zq) .none kV28 dc28 pm28 an28 cd28 ct28,fun s v => .of_eq rfl,fun base _ _ => ?_⟩;have h0:FnAt l.prog w K mg base "_law_cell" 1 ZcV:=Zod F0 m0 b0 b_len;have h1:FnAt l.prog w K mg base "_law_drawn" 2 Zah:=Zq6 F1 m1 b1    h0;have h2:FnAt l.prog w K mg base "_law_few" 3 Zb6:=ZqU F2 m2 b2 b_int b_len b_range b_tuple   h1;have h3:FnAt l.prog w K mg base "is_under" 1 Zb2:=Zo3 F3 m3 b3 b_len;have h4:FnAt l.prog w K mg base "words_at" 2 Zdo:=Zqs F4 m4 b4 b_set b_sorted   h3;have h5:FnAt l.prog w K mg base "link_at" 2 ZbV:=Zsg F5 m5 b5    h3;have h6:FnAt l.prog w K mg base "is_too_long" 1 Zdg:=Zsf F6 m6 b6 b_len c_MOST_WORDS;have h7:FnAt l.prog w K mg base "led" 2 Zcp:=Zl5 F7 m7 b7 b_len b_list b_tuple   h6;have h8:FnAt l.prog w K mg base "goal_of" 3 Zbj:=Zn4 F8 m8 b8    h7;have h9:FnAt l.prog w K mg base "next_places" 4 ZaG:=Zmq F9 m9 b9    h8 h5 h4;have h10:FnAt l.prog w K mg base "ways_from" 5 ZaS:=ZrS F10 m10 b10 b_len   h9;have h11:FnAt l.prog w K mg base "reached" 6 ZaA:=Zqz F11 m11 b11 b_sorted   h10;have h12:FnAt l.prog w K mg base "shortest" 6 Z8:=ZoS F12 m12 b12    h10;have h13:MkAt l.prog w K mg base "Book" (cv 0) 1 (Zdm cv):=Zmn F13 ⟨mk_Book,a13,i13,kc_Book⟩ b13 m_Book  c_NO_MARK cl_Book na_Book_most na_Book_rows na_Book_spot;have h14:CfAt l.prog w K mg base "BookHolder" (cv 6) "__init__" 3 (ZcT cv):=ZoQ F14 ⟨sg_BookHolder,rd_BookHolder,a14,k14⟩ b14 m_BookHolder   cl_Presser na_Presser_book h13;have h15:MkAt l.prog w K mg base "Presser" (cv 4) 4 (Zcs cv):=Zoc F15 ⟨mk_Presser,a15,i15,kc_Presser⟩ b15 m_Presser   cl_Presser na_Presser_links h14;have h16:MtAt l.prog w K mg base (cv 0) "now" 1 (ZcC cv):=ZrQ F16 ⟨a16,i16,k16⟩ b16   cl_Book na_Book_rows na_Book_spot;have h17:MtAt l.prog w K mg base (cv 4) "now" 2 (Zae cv):=ZsJ F17 ⟨a17,i17,k17⟩ b17   cl_Book cl_Presser na_Presser_book h16;have h18:MtAt l.prog w K mg base (cv 0) "can_go" 1 (Zb4 cv):=Zm5 F18 ⟨a18,i18,k18⟩ b18 b_len  cl_Book na_Book_rows na_Book_spot;have h19:MtAt l.prog w K mg base (cv 0) "place_at" 2 (ZcG cv):=Zmy F19 ⟨a19,i19,k19⟩ b19   cl_Book na_Book_rows na_Book_spot h18;have h20:MtAt l.prog w K mg base (cv 0) "go" 3 (Zc5 cv):=Zqv F20 ⟨a20,i20,k20⟩ b20   cl_Book na_Book_spot h19;have h21:MtAt l.prog w K mg base (cv 4) "try_go" 4 (Zcg cv):=ZqS F21 ⟨a21,i21,k21⟩ b21   cl_Book cl_Presser na_Presser_book h18 h20;have h22:MtAt l.prog w K mg base (cv 0) "visit" 1 (Zd1 cv):=Zpp F22 ⟨a22,i22,k22⟩ b22 b_len c_NO_MARK cl_Book na_Book_most na_Book_rows na_Book_spot;have h23:MtAt l.prog w K mg base (cv 0) "replace" 1 (Zc3 cv):=Zlr F23 ⟨a23,i23,k23⟩ b23  c_NO_MARK cl_Book na_Book_rows na_Book_spot;have h24:MtAt l.prog w K mg base (cv 4) "try_lead" 4 (Zb5 cv):=ZqC F24 ⟨a24,i24,k24⟩ b24   cl_Book cl_Presser na_Presser_book h23 h22 h17 h8;have h25:MtAt l.prog w K mg base (cv 4) "press" 5 (ZaR cv):=Zoa F25 ⟨a25,i25,k25⟩ b25   cl_Presser na_Presser_links h17 h21 h24 h5;have h26:FnAt l.prog w K mg base "leads_on" 5 ZdB:=Zqd F26 m26 b26 b_any   h9;have h27:FnAt l.prog w K mg base "dead_ends" 7 Zb7:=Zq0 F27 m27 b27    h26 h11;exact ZoO (cv:=cv) (ZlB F28 b_enumerate b_len b_range b_set b_sorted b_tuple  cl_Presser h15 h17 h25 h1 h2 h27 h9 h11 h12)
theorem walk{l:PySem.W.OpenLaw}{q:P5}{loose:List Str}{XP:(Str->Option P7)->Heap->Prop}{YP:World->Heap->Prop}{d:DefRec}{K:Params->P3}(hn:l.most=some 63)(hdf:d.params.defaults=[])
  (hY:∀(w:World) (h:Heap),YP w h->(K w.params).In h)
  (F:∀(w:World) (mg:Str->Option P7) (fa:Addr) (h:Heap),(K w.params).In h->h.Ns mainGlobals mg->mg d.name=some (.ref fa) ->
   ∃fd:P6,(∀(s:P1) (u:P7),BindsTo s fd ⟨[u],[]⟩ [("_law_script",u)])/\∀base:Heap,(K w.params).In base->base.Ns mainGlobals mg->FnOk l.prog w (K w.params) mg base CX0 8 fa fd ["_law_script"] (spA (K w.params) Zdt)) :
  PySem.W.WalkO q loose XP YP l.row.toRowW d [] (fun f vs=>PySem.call f vs) :=
 L2.walk_of (n:=63) (k:=8) (x:="_law_script") (CX:=fun _=>CX0) (sp:=fun w=>spA (K w.params) Zdt) hn (by decide) hdf ⟨rfl,by decide,by decide⟩ hY F (fun _ H a ns hl ho hS cv=>DL.law_sp (law_true cv) H a ns hl ho hS) fun _ _ _ _ _ z=>z
end K53
def PySem.W.Fast.tw14133788633963359269:Nat:=0
def PySem.W.Fast.tw7970753398140278972:Nat:=0
def PySem.W.Fast.tw1922157984580058403:Nat:=0
def PySem.W.Fast.tw1253127297229968123:Nat:=0
def PySem.W.Fast.tw861502493610598483:Nat:=0
def PySem.W.Fast.tw4483904966330829159:Nat:=0
def PySem.W.Fast.tw16385029962790360990:Nat:=0
def PySem.W.Fast.tw1607123104830579860:Nat:=0
def PySem.W.Fast.tw4984031363067030590:Nat:=0
def PySem.W.Fast.tw1660798551392318424:Nat:=0
def PySem.W.Fast.tw6861777633991150784:Nat:=0
def PySem.W.Fast.tw6703304554741867743:Nat:=0
def PySem.W.Fast.tw12556318885030336296:Nat:=0
def PySem.W.Fast.tw264932986702033461:Nat:=0
def PySem.W.Fast.tw10223898402276761379:Nat:=0
def PySem.W.Fast.tw7774113678449685934:Nat:=0
def PySem.W.Fast.tw5771433454967703170:Nat:=0
def PySem.W.Fast.tw1158361714356455011:Nat:=0
def PySem.W.Fast.tw11481637867367846703:Nat:=0
def PySem.W.Fast.tw11738243743197964597:Nat:=0
def PySem.W.Fast.tw2399617604181995578:Nat:=0
def PySem.W.Fast.tw2474200967059427378:Nat:=0
def PySem.W.Fast.tw13034982811429478159:Nat:=0
def PySem.W.Fast.tw15254633091992210921:Nat:=0
def PySem.W.Fast.tw6557801498797044033:Nat:=0
def PySem.W.Fast.tw9461873434466728008:Nat:=0
def PySem.W.Fast.tw4075453323654395381:Nat:=0
def PySem.W.Fast.tw11384182702204212275:Nat:=0
def PySem.W.Fast.tw4746397151530518368:Nat:=0
def PySem.W.Fast.tw13946496683202179788:Nat:=0
def PySem.W.Fast.tw1207101557538958131:Nat:=0
def PySem.W.Fast.tw5552296727619142977:Nat:=0
def PySem.W.Fast.tw3215387988796971590:Nat:=0
def PySem.W.Fast.tw896878414759379649:Nat:=0
def PySem.W.Fast.tw14022695629967993375:Nat:=0
def PySem.W.Fast.tw16873086082458093902:Nat:=0
def PySem.W.Fast.tw13135312941875745310:Nat:=0
def PySem.W.Fast.tw1142673529048489019:Nat:=0
def PySem.W.Fast.tw140001813534094272:Nat:=0
def PySem.W.Fast.tw7478123994339007903:Nat:=0
def PySem.W.Fast.tw8157277791214410489:Nat:=0
def PySem.W.Fast.tw6702445572142316249:Nat:=0
def PySem.W.Fast.tw15805137534098808535:Nat:=0
def PySem.W.Fast.tw11421057715548341654:Nat:=0
def PySem.W.Fast.tw2931988195819169919:Nat:=0
def PySem.W.Fast.tw18157406047293677543:Nat:=0
def PySem.W.Fast.tw14800370929953404514:Nat:=0
def PySem.W.Fast.tw4884199854448574:Nat:=0
def PySem.W.Fast.tw8865387616306378214:Nat:=0
def PySem.W.Fast.tw991626836265849350:Nat:=0
def PySem.W.Fast.tw9950792792127014553:Nat:=0
def PySem.W.Fast.tw1972164579936704799:Nat:=0
def PySem.W.Fast.tw14611616552423853409:Nat:=0
def PySem.W.Fast.tw18293242582946804979:Nat:=0
def PySem.W.Fast.tw16248296213531012650:Nat:=0
def PySem.W.Fast.tw1293241653719404408:Nat:=0
def PySem.W.Fast.tw17339309145561079191:Nat:=0
def PySem.W.Fast.tw977512076041815475:Nat:=0
def PySem.W.Fast.tw3099597729799864441:Nat:=0
def PySem.W.Fast.tw4171853373547519906:Nat:=0
def PySem.W.Fast.tw9495317472360511255:Nat:=0
def PySem.W.Fast.tw17013487888433625170:Nat:=0
def PySem.W.Fast.tw2595585439558603231:Nat:=0
def PySem.W.Fast.tw15127105006835628225:Nat:=0
def PySem.W.Fast.tw13160504802963445071:Nat:=0
def PySem.W.Fast.tw4309217394794523951:Nat:=0
def PySem.W.Fast.tw14537775516033599862:Nat:=0
def PySem.W.Fast.tw10295913840692754127:Nat:=0
def PySem.W.Fast.tw11662115353561507501:Nat:=0
def PySem.W.Fast.tw8331849164307833061:Nat:=0
def PySem.W.Fast.tw9456574344343218679:Nat:=0
def PySem.W.Fast.tw209982475168477708:Nat:=0
def PySem.W.Fast.tw17334828202450815106:Nat:=0
def PySem.W.Fast.tw9860861378791804195:Nat:=0
def PySem.W.Fast.tw12772213712371865176:Nat:=0
def PySem.W.Fast.tw8186657734068701312:Nat:=0
def PySem.W.Fast.tw16226643914720891334:Nat:=0
open PySem PySem.W PyProof.Rows
open_top hd for PySem.Challenge.rw_cardplaces_k53_whole_ways
theorem PySem.Challenge.cw_cardplaces_k53_whole_ways_holds : PySem.Challenge.rw_cardplaces_k53_whole_ways.Holds := by
 refine hd ?_
 k_fill
 refine K53.walk (l:=PySem.Challenge.rw_cardplaces_k53_whole_ways) rfl rfl (fun w h Y=>PySem.W.kIn_of Y) ?F
 case F =>
  intro w mg fa h KX G hmg;apply K53.all_mk KX G hmg
  all_goals k_is
end
