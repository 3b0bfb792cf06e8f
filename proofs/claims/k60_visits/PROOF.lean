import PyProof.Rows.All
import Wide.All
import OpenK.AllK
import Wide.FinOn
import Lean
import PyProof.EqAt
import PyProof.EqKinds
import PyProof.TupleCall
import PyProof.NeKinds
import PyProof.CompFree
import PyProof.CompUse
import PyProof.ZipIter
import PyProof.StrWalks
import PyProof.ListRange
import PyProof.ListMulRoad
import KE.KMinBuiltin
import PyProof.Rows.CallKw2
import KE.KSortTup
import PyProof.StrCalls2
import PyProof.StrLawsChain
import PyProof.StrLawsTight
import PyProof.Rows.StrItems
import KE.KxAffix
import KE.KRevSl
import PyProof.Rows.SetFrom
import PyProof.FactsAll.set_1
import PyProof.FactsAll.set_2
import PyProof.CollectWalk
import PyProof.AttrMissHeap
import KE.KDictOf
import PyProof.Rows.TupMore
import KE.KRevIter
import PyProof.Cells
import PyProof.StrBlock
import PyProof.PureStr
import PyProof.CallStr
import PyProof.AutoIntOps
import KE.KLam
import KE.KNestM
import PySem.Challenge.RW_cardplaces_k60_visits
set_option maxHeartbeats 0
set_option Elab.async false
set_option linter.all false
set_option maxRecDepth 100000
abbrev P0:=PySem.Shared
abbrev P1:=PySem.W.Frag
abbrev P3:=PySem.Around
abbrev P4:=PySem.Program
abbrev P5:=PySem.FuncData
abbrev P6:=PySem.Value
abbrev Ya:=@PySem.wpAny_bind
abbrev Yb:=@PySem.wpAny_pure
abbrev Yc:=@PySem.Heap.get?_push_of_some
abbrev Yd:=@List.getElem?_eq_getElem
abbrev Ye:=@List.getD_eq_getElem?_getD
abbrev Yf:=@PyProof.Rows.wpS_bind
abbrev Yg:=@PyProof.Rows.wpS_pure
abbrev Yh:=@if_neg
abbrev Yi:=@if_pos
abbrev Yj:=@Nat.le_refl
abbrev Yk:=@PySem.Heap.lt_size
abbrev Yl:=@List.mem_cons
abbrev Ym:=@PySem.Heap.get?_push_size
abbrev Yn:=@List.size_toArray
abbrev Yo:=@List.getElem?_eq_some_iff
abbrev Yp:=@List.length_map
abbrev Yq:=@Nat.lt_of_lt_of_le
abbrev Yr:=@Nat.ne_of_lt
abbrev Ys:=@List.map_cons
abbrev Yt:=@Array.getElem?_eq_getElem
abbrev Yu:=@Option.some.injEq
abbrev Yv:=@List.mem_cons_of_mem
abbrev Yw:=@List.getElem?_map
abbrev Yx:=@List.length_cons
abbrev Yy:=@PySem.Heap.SameBut.update
abbrev Yz:=@List.mem_cons_self
abbrev YA:=@List.mem_singleton
abbrev YB:=@List.all_eq_true
abbrev YC:=@List.not_mem_nil
abbrev YD:=@decide_eq_true_eq
abbrev YE:=@Bool.and_eq_true
abbrev YF:=@List.getElem?_cons_zero
abbrev YG:=@Bool.false_eq_true
abbrev YH:=@Nat.le_trans
abbrev YI:=@PySem.wpAny_call_entry
abbrev YJ:=@PySem.Heap.get?_update_self
abbrev YK:=@Array.toList_append
abbrev YL:=@List.getElem?_cons_succ
abbrev YM:=@PySem.wpAny_mono
abbrev YN:=@PySem.sizeLine_eq
abbrev YO:=@Array.length_toList
abbrev YQ:=@decide_eq_false
abbrev YR:=@List.mem_append
abbrev YS:=@decide_eq_true
abbrev YT:=@Nat.zero_le
abbrev YU:=@List.mem_append_right
abbrev YV:=@List.length_range
abbrev YW:=@Ne.symm
abbrev YX:=@List.mem_map
abbrev YY:=@Nat.lt_irrefl
abbrev YZ:=@PySem.wpAny_newObj_type
abbrev Y0:=@List.map_map
abbrev Y1:=@PySem.wpAny_holding
abbrev Y2:=@PySem.W.mg_of
abbrev Y3:=@Array.getElem?_toList
abbrev Y4:=@PySem.wpAny_callSpecial?_slot
abbrev Y5:=@PyProof.Rows.wpS_forRange
abbrev Y6:=@List.getElem?_append_left
abbrev Y7:=@Int.toNat_natCast
abbrev Y8:=@List.pairwise_append
abbrev Y9:=@PySem.Heap.size_push
abbrev Wa:=@List.mem_of_getElem?
abbrev Wc:=@if_false
abbrev Wd:=@List.pairwise_iff_getElem
abbrev Wf:=@PySem.wpAny_ite_split
abbrev Wg:=@or_false
abbrev Wh:=@PyProof.Rows.slot_tuple_getitem
abbrev Wi:=@List.getElem?_append_right
abbrev Wj:=@PySem.boot_len
abbrev Wl:=@Nat.zero_add
abbrev Wm:=@List.map_append
abbrev Wn:=@PySem.Around.under_plainId
abbrev Wo:=@PySem.Obj.data_mapFields
abbrev Wp:=@PySem.W.mg_none_of
abbrev Wq:=@if_true
abbrev Wr:=@List.map_congr_left
abbrev Ws:=@List.append_assoc
abbrev Wt:=@PySem.F.slot_dict_keyiterator_next
abbrev Wu:=@List.take_append_drop
abbrev Wv:=@dif_pos
abbrev Ww:=@PyProof.Rows.callWith_type1
abbrev Wx:=@List.mem_append_left
abbrev Wz:=@PySem.wpAny_rule
abbrev WA:=@PyProof.Rows.wpS_modify
abbrev WB:=@List.filter_cons
abbrev WC:=@Option.map_eq_some_iff
abbrev WD:=@PySem.wpAny_setState_of
abbrev WE:=@PySem.wpAny_dictEntries
abbrev WG:=@PyProof.Rows.wpS_mono
abbrev WH:=@List.nodup_cons
abbrev WI:=@PySem.codeAny_builtin
abbrev WJ:=@PySem.F.plain_extend_loop
abbrev WK:=@Nat.ne_of_gt
abbrev WL:=@List.length_take
abbrev WM:=@List.length_append
abbrev WN:=@PySem.F.called_set
abbrev WO:=@PySem.wpAny_isInstance
abbrev WQ:=@PySem.wpAny_field
abbrev WS:=@List.getElem?_set_ne
abbrev WT:=@PySem.F.slot_dict_itemiterator_next
abbrev WU:=@List.length_eq_zero_iff
abbrev WV:=@of_decide_eq_true
abbrev WW:=@List.drop_sublist
abbrev WX:=@Array.toList_push
abbrev WY:=@List.pairwise_map
abbrev WZ:=@PySem.PassesOwn.never
abbrev W0:=@List.getElem?_set_self
abbrev W5:=@PySem.Heap.get?_update_other
abbrev W6:=@PySem.wpAny_attempt
abbrev W7:=@List.mem_range
abbrev W8:=@PySem.wpAny_Call_Name_kw
abbrev W9:=@PySem.wpAny_setField
abbrev Qa:=@List.getElem?_eq_none
abbrev Qb:=@PySem.wpAny_setField_rec
abbrev Qc:=@Nat.le_succ
abbrev Qd:=@PySem.wpAny_updateSeq
abbrev Qe:=@Array.toList_extract
abbrev Qf:=@List.mem_iff_getElem
abbrev Qg:=@PySem.wpAny_typeNameOfWhole_itemiter
abbrev Qh:=@Nat.lt_succ_of_lt
abbrev Qi:=@PySem.wpAny_typeNameOfWhole_keyiter
abbrev Qj:=@List.getElem_inj
abbrev Qk:=@List.getElem_mem
abbrev Ql:=@List.take_of_length_le
abbrev Qm:=@Array.getElem?_eq_none
abbrev Qn:=@PySem.Calls.spliced_cons
abbrev Qo:=@Nat.zero_max
abbrev Qp:=@PySem.tupleKind_room_in1
abbrev Qq:=@PyProof.Rows.F.plain_set_update_loop
abbrev Qr:=@Int.emod_lt_of_pos
abbrev Qs:=@Bool.false_ne_true
abbrev Qt:=@List.append_nil
abbrev Qu:=@PyProof.Rows.get?_update_seq
abbrev Qv:=@PyProof.Rows.wpS_get
abbrev Qw:=@PySem.Obj.isFreed_of_fields
abbrev Qx:=@PySem.wpAny_dictEpoch
abbrev Qy:=@PySem.wpAny_isOneOf_keyiter
abbrev Qz:=@PyProof.Rows.listUpdate_at
abbrev QA:=@PySem.plainId_quiet
abbrev QB:=@List.take_sublist
abbrev QC:=@Function.comp_def
abbrev QD:=@List.reverse_perm
abbrev QE:=@List.reverse_cons
abbrev QF:=@PySem.fits_of_scanBound
abbrev QG:=@List.drop_eq_getElem_cons
abbrev QH:=@Array.toList_reverse
abbrev QI:=@Classical.byContradiction
abbrev QJ:=@PySem.wpAny_typeNameOf_itemiter
abbrev QK:=@List.nodup_nil
abbrev QL:=@List.length_drop
abbrev QM:=@beq_self_eq_true
abbrev QN:=@List.take_length
abbrev QO:=@List.mem_reverse
abbrev QP:=@PyProof.Rows.boot_sorted
abbrev QQ:=@List.filterMap_cons
abbrev QR:=@PySem.mem_of_lookup
abbrev QS:=@List.getElem?_replicate
abbrev QT:=@decide_eq_false_iff_not
abbrev QU:=@PySem.F.plain_list_iadd
abbrev QV:=@List.all_cons
abbrev QW:=@List.any_cons
abbrev QX:=@PySem.wpAny_newList
abbrev QY:=@PyProof.Rows.callWith_builtin1
abbrev QZ:=@List.length_set
abbrev Q0:=@Bool.or_eq_true
abbrev Q3:=@List.find?_cons
abbrev Q4:=@Int.emod_nonneg
abbrev Q5:=@PyProof.Rows.boot_list
abbrev Q6:=@PySem.wpAny_pyIter_list
abbrev Q7:=@PySem.Calls.spliced_nil
abbrev Q8:=@List.nodup_append
abbrev Q9:=@PySem.wpAny_typeOf
abbrev Va:=@List.drop_zero
abbrev Vb:=@List.mem_iff_getElem?
abbrev Vc:=@PySem.wpAny_newTuple
abbrev Vd:=@PySem.wpAny_fieldsOf
abbrev Ve:=@PySem.wpAny_notOrdered_dict
abbrev Vf:=@PySem.wpAny_seqItems
abbrev Vg:=@PySem.F.slot_zip_next
abbrev Vh:=@List.ext_getElem
abbrev Vi:=@Nat.le_add_right
abbrev Vj:=@Array.toList_setIfInBounds
abbrev Vk:=@Array.getElem?_eq_some_iff
abbrev Vl:=@List.map_take
abbrev Vm:=@Iff.rfl
abbrev Vn:=@beq_eq_false_iff_ne
abbrev Vo:=@PySem.wpAny_passesOwn
abbrev Vp:=@Option.map_some
abbrev Vq:=@List.range_succ
abbrev Vr:=@PySem.Calls.call_function_entry
abbrev Vs:=@List.nil_append
abbrev Vt:=@List.Perm.of_eq
abbrev Vu:=@PySem.F.args_tuple_add_2
abbrev Vv:=@not_or
abbrev Vw:=@PySem.putSet_of
abbrev Vx:=@PyProof.Rows.F.entry_set_update_loop
abbrev Vy:=@PySem.F.args_dict_keyiterator_next_1
abbrev Vz:=@PySem.F.entry_dict_itemiterator_next
abbrev VA:=@List.take_zero
abbrev VB:=@List.drop_drop
abbrev VC:=@PySem.isSubtype_stop
abbrev VD:=@PySem.F.entry_dict_keyiterator_next
abbrev VE:=@PySem.F.entry_tuple_add
abbrev VF:=@PySem.F.slot_list_index
abbrev VG:=@List.pairwise_singleton
abbrev VH:=@PySem.Heap.get?_push_ne
abbrev VI:=@PySem.wpAny_storeSet_of
abbrev VJ:=@PySem.Obj.cls_mapFields
abbrev VL:=@PySem.wpAny_pyIter_slot
abbrev VM:=@PySem.F.slot_tuple_add
abbrev VN:=@PySem.Calls.callWith_builtin
abbrev VO:=@PyProof.Rows.seqEpoch_at
abbrev VP:=@List.drop_eq_nil_of_le
abbrev VQ:=@List.findIdx?_eq_some_iff_getElem
abbrev VR:=@PySem.wpAny_nextOf_list_item
abbrev VS:=@PySem.wpAny_isOneOf_itemiter
abbrev VT:=@PySem.wpAny_eqBool_int
abbrev VU:=@List.lookup_cons
abbrev VV:=@Nat.lt_succ_self
abbrev VW:=@PyProof.Rows.wpS_lift
abbrev VX:=@List.take_succ_eq_append_getElem
abbrev VY:=@Nat.max_eq_right
abbrev VZ:=@List.le_antisymm
abbrev V0:=@List.length_replicate
abbrev V1:=@List.perm_append_comm
abbrev V2:=@List.pairwise_reverse
abbrev V3:=@PySem.F.slot_dict_get
abbrev V4:=@List.length_filter_le
abbrev V5:=@PySem.F.args_dict_itemiterator_next_1
abbrev V6:=@Nat.le_of_lt
abbrev V7:=@PySem.Heap.get?_none_of_le
abbrev V8:=@PySem.codeAny_mono
abbrev V9:=@List.forIn_cons
abbrev Ua:=@List.length_nil
abbrev Ub:=@Nat.mod_lt
abbrev Uc:=@decide_false
abbrev Ud:=@List.length_reverse
abbrev Ue:=@List.getElem_of_mem
abbrev Ug:=@PySem.wpAny_setEntries_of
abbrev Uh:=@Bool.false_and
abbrev Ui:=@PySem.isSubtype_type
abbrev Uj:=@Array.getElem?_setIfInBounds
abbrev Uk:=@List.not_lt
abbrev Ul:=@PySem.wpAny_of_eq
abbrev Um:=@decide_true
abbrev Uo:=@PySem.F.plain_proto_collect
abbrev Up:=@List.length_eraseIdx_of_lt
abbrev Uq:=@List.perm_ext_iff_of_nodup
abbrev Ur:=@PySem.wpAny_onRaise
abbrev Ut:=@PySem.wpAny_truthy_bool
abbrev Uu:=@Nat.le_of_succ_le
abbrev Uv:=@bne_self_eq_false
abbrev Uw:=@List.ext_getElem?
abbrev Ux:=@PySem.wpAny_Name
abbrev Uy:=@PySem.wpAny_load
abbrev Uz:=@PySem.F.slot_dict_getitem
abbrev UA:=@List.findIdx?_eq_none_iff
abbrev UB:=@PySem.F.entry_extend_loop
abbrev UC:=@PySem.noFill_tuple_add
abbrev UD:=@Nat.lt_trans
abbrev UE:=@List.nodup_range
abbrev UF:=@PySem.Heap.size_update
abbrev UG:=@Bool.not_not
abbrev UH:=@List.zipIdx_cons
abbrev UI:=@Array.toList_inj
abbrev UJ:=@Array.toList_map
abbrev UK:=@List.Perm.eq_of_pairwise
abbrev UL:=@PySem.wpAny_askSetting
abbrev UM:=@List.length_erase_of_mem
abbrev UN:=@List.of_mem_zip
abbrev UO:=@List.zip_append
abbrev UP:=@Nat.min_eq_left
abbrev UQ:=@Array.size_push
abbrev UR:=@List.forIn_nil
abbrev US:=@List.lt_trans
abbrev UT:=@List.map_drop
noncomputable section
namespace L2
open PySem PySem.Spec PyProof.Rows
noncomputable abbrev Key:=Sum Int Str
def ZcM:Key->P6->Bool
 | .inl k,v=>Value.isInt k v
 | .inr x,v=>Value.isStrOf x v
def Zqw(w:World):Key->Int
 | .inl k=>hashInt k
 | .inr x=>hashStr w x
theorem Zbn:∀{k:Key} {v:P6},ZcM k v=true->(∃i t,k=Sum.inl i/\v=Value.int i t)\/(∃x t,k=Sum.inr x/\v=Value.str x t)
 | .inl i,v,h=>by
  obtain⟨t,e⟩:=Value.isInt_shape (k:=i) (v:=v) h;exact .inl ⟨i,t,rfl,e⟩
 | .inr x,v,h=>by
  obtain⟨t,e⟩:=Value.isStrOf_shape (x:=x) (v:=v) h;exact .inr ⟨x,t,rfl,e⟩
theorem ZoL(i:Int)(t:Tok):ZcM (.inl i) (.int i t)=true:=by simp[ZcM,Value.isInt]
theorem ZpY(x:Str)(t:Tok):ZcM (.inr x) (.str x t)=true:=by simp[ZcM,Value.isStrOf]
theorem Zj2(a b:Int):decide ((Sum.inl a:Key)=Sum.inl b)=(a == b):=by
 by_cases e:a=b
 ·subst e; simp
 ·have h:¬ (Sum.inl a:Key)=Sum.inl b:=fun q=>e (Sum.inl.inj q);rw[YQ h];exact (Vn.mpr e).symm
theorem Zot(a b:Str):decide ((Sum.inr a:Key)=Sum.inr b)=decide (a=b):=by
 by_cases e:a=b
 ·subst e; simp
 ·have h:¬ (Sum.inr a:Key)=Sum.inr b:=fun q=>e (Sum.inr.inj q);rw[YQ h,YQ e]
theorem Zkm(a:Int)(b:Str):decide ((Sum.inl a:Key)=Sum.inr b)=false:=YQ (fun q=>nomatch q)
theorem Zqg(a:Str)(b:Int):decide ((Sum.inr a:Key)=Sum.inl b)=false:=YQ (fun q=>nomatch q)
def mixKind(prog:P4)(w:World):PySem.KeyKind prog w Key where
 is:=ZcM
 hash:=Zqw w
 inj:=fun v a b ha hb=>by
  rcases Zbn ha with⟨i,t,rfl,rfl⟩ | ⟨x,t,rfl,rfl⟩
  ·rcases Zbn hb with⟨j,u,rfl,e⟩ | ⟨y,u,rfl,e⟩
   ·injection e with e1 _; rw[e1]
   ·exact nomatch e
  ·rcases Zbn hb with⟨j,u,rfl,e⟩ | ⟨y,u,rfl,e⟩
   ·exact nomatch e
   ·injection e with e1 _; rw[e1]
 byValue:=fun k v h=>by
  rcases Zbn h with⟨i,t,rfl,rfl⟩ | ⟨x,t,rfl,rfl⟩ <;> rfl
 pyHash:=fun hv h=>by
  rcases Zbn hv with⟨i,t,rfl,rfl⟩ | ⟨x,t,rfl,rfl⟩
  ·exact wpAny_pyHash_int h
  ·exact wpAny_pyHash_str h
 eqBool:=fun hu hv h=>by
  rcases Zbn hu with⟨i,t,rfl,rfl⟩ | ⟨x,t,rfl,rfl⟩
  ·rcases Zbn hv with⟨j,u,rfl,rfl⟩ | ⟨y,u,rfl,rfl⟩
   ·rw[Zj2] at h; exact VT h
   ·rw[Zkm] at h; exact SeqAt.EqAt.int_str i t y u _ _ _ _ h
  ·rcases Zbn hv with⟨j,u,rfl,rfl⟩ | ⟨y,u,rfl,rfl⟩
   ·rw[Zqg] at h; exact SeqAt.EqAt.str_int x t j u _ _ _ _ h
   ·rw[Zot] at h; exact wpAny_eqBool_str h
 «strs»:=fun k x t v h=>by
  rcases Zbn h with⟨i,u,rfl,e⟩ | ⟨y,u,rfl,e⟩
  ·exact nomatch e
  ·injection e with e1 _;subst e1;cases v <;> rfl
theorem Zmn(prog:P4)(w:World)(i:Int)(t:Tok):(mixKind prog w).is (.inl i) (.int i t)=true:=ZoL i t
theorem Zlv(prog:P4)(w:World)(x:Str)(t:Tok):(mixKind prog w).is (.inr x) (.str x t)=true:=ZpY x t
inductive V where
 | non | bl (b:Bool) | int (i:Int) | str (x:Str) | byt (b:Array UInt8) | flt (b:UInt64) | ref (a:Addr) | ty (n:String)
 deriving DecidableEq
def RelV:V->P6->Prop
 | .non,u=>u=Value.none
 | .bl b,u=>u=Value.bool b
 | .int i,u => ∃t,u=Value.int i t
 | .str x,u => ∃t,u=Value.str x t
 | .byt b,u => ∃t,u=Value.bytes b t
 | .flt b,u => ∃t,u=Value.float b t
 | .ref a,u=>u=Value.ref a
 | .ty n,u=>u=Value.type n
noncomputable abbrev Vals:List V->List P6->Prop:=Paired RelV
theorem Vals.length{xs:List V}{us:List P6}(r:Vals xs us):xs.length=us.length:=Paired.length r
theorem Vals.get:∀{xs:List V} {us:List P6} {i:Nat} {x:V},Vals xs us->xs[i]?=some x->∃u,us[i]?=some u/\RelV x u
 | _,_,_,_,.nil,e=>by simp at e
 | _,_,0,_,.cons r _,e=>by simp at e; subst e; exact⟨_,rfl,r⟩
 | _,_,i+1,x,.cons _ t,e=>by
  obtain⟨u,h1,h2⟩:=Vals.get (i:=i) (x:=x) t (by simpa using e);exact⟨u,by simpa using h1,h2⟩
theorem Vals.append:∀{xs ys:List V} {us ws:List P6},Vals xs us->Vals ys ws->Vals (xs++ys) (us++ws)
 | _,_,_,_,.nil,s=>s
 | _,_,_,_,.cons r t,s => .cons r (Vals.append t s)
theorem Vals.take:∀{xs:List V} {us:List P6} (n:Nat),Vals xs us->Vals (xs.take n) (us.take n)
 | _,_,0,_ => .nil
 | _,_,_+1,.nil => .nil
 | _,_,n+1,.cons r t => .cons r (Vals.take n t)
theorem Vals.drop:∀{xs:List V} {us:List P6} (n:Nat),Vals xs us->Vals (xs.drop n) (us.drop n)
 | _,_,0,r=>r
 | _,_,_+1,.nil => .nil
 | _,_,n+1,.cons _ t=>Vals.drop n t
def RelO:Option V->Option P6->Prop
 | some v,some u=>RelV v u
 | none,none=>True
 | _,_=>False
def KV{κ:Type}:List (κ×V)->List (κ×P6)->Prop:=Paired fun (p:κ×V) (q:κ×P6)=>p.1=q.1/\RelV p.2 q.2
def kV:Key->V
 | .inl i => .int i
 | .inr x => .str x
inductive HO where
 /-- a list -/
 | lst (xs:List V)
 /-- a tuple (never changes) -/
 | tup (xs:List V)
 /-- a dict whose keys are ints and texts; one whose keys are tuples of ints and texts (the empty one is both) -/
 | dK (kvs:List (Key×V)) | dT (kvs:List (List Key×V))
 /-- a set of ints: its members, its size -/
 | set (S:Int->Bool) (n:Nat)
 /-- an instance of the class at C, its dict at dx, its attributes -/
 | ins (C dx:Addr) (fs:List (Str×V))
 /-- the dict of the instance at x -/
 | own (x:Addr)
 /-- the dict of an exception -/
 | xd (fs:List (Str×V))
 /-- a bound method, f of x -/
 | met (f x:Addr)
 /-- a range object lo, lo + 1, .. below hi -/
 | rng (lo hi:Int)
 /-- a thing that is known to the object (the script; a dict while a loop walks it): read, never written while it is so -/
 | frz (o:Obj) (u:HO)
 /-- a code object's table -/
 | tbl (ps:Array P6)
 /-- any other thing, by what is true of its one object (a def of one's own: SetO a S n:=HO.ext fun h => ..) -/
 | ext (φ:Heap->Prop)
noncomputable abbrev Hp:=Addr->Option HO
def upd(H:Hp)(a:Addr)(o:HO):Hp:=fun b=>if b=a then some o else H b
theorem ZW{H:Hp}{a:Addr}{o:HO}:upd H a o a=some o:=by unfold upd; rw[Yi rfl]
theorem Zk{H:Hp}{a b:Addr}{o:HO}(h:b≠a):upd H a o b=H b:=by unfold upd; rw[Yh h]
theorem ne_of{H:Hp}{a b:Addr}{o u:HO}(h:H a=some o)(h':H b=some u)(d:o≠u):a≠b:=by
 intro e; subst e; rw[h] at h'; exact d (Option.some.inj h')
theorem Zy{H:Hp}{a b:Addr}{o:HO}(h:H a=some o)(h':H b=none):a≠b:=by
 intro e; subst e; rw[h] at h'; cases h'
section
variable(P:P4)(w:World)
def ObjOk(H:Hp)(h:Heap)(a:Addr):HO->Prop
 | .lst xs=>xs.length<=sizeLine/\∃(its:List P6) (n:Nat),Vals xs its/\h.get? a=some { cls:=.type "list",data:=.seq its.toArray n }
 | .tup xs=>xs.length<=sizeLine/\∃its:List P6,Vals xs its/\IsTup h a its.toArray/\∀o,h.get? a=some o->o.dict=none
 | .dK kvs=>kvs.length<=sizeLine/\(a == sysModules)=false/\∃vs,KV kvs vs/\h.DictOf (mixKind P w) a vs
 | .dT kvs=>kvs.length<=sizeLine/\(a == sysModules)=false/\∃xs:List (List Key×Addr×P6),
   Paired (fun (p:List Key×V) (q:List Key×Addr×P6)=>p.1=q.1/\H q.2.1=some (.tup (p.1.map kV))/\RelV p.2 q.2.2) kvs xs /\
   ∃o es ep,h.get? a=some o/\o.ExactDict/\o.data = .dict es ep/\es.toList=xs.map (entryOfKey (tupleKind (mixKind P w)))/\(xs.map (·.1)).Nodup
 | .set S n=>h.SetOf (intKind P w) a S n
 | .ins C dx fs=>H dx=some (.own a)/\fs.length<=1000/\dx≠a/\h.get? a=some (PySem.W.instObj C dx) /\
   ∃mA,h.Ns1 dx mA/\(∀f,RelO (fs.lookup f) (mA f))/\PySem.Within mA (fs.map (·.1))
 | .own _ => ∃o,h.get? a=some o
 | .xd fs => ∃mA,h.Ns1 a mA/\∀f,RelO (fs.lookup f) (mA f)
 | .rng lo hi => ∃t u v,h.get? a=some { cls:=.type "range",data:=.fields #[.int lo t,.int hi u,.int 1 v] }
 | .frz o u=>h.get? a=some o/\ObjOk H h a u
 | .tbl ps=>h.get? a=some { cls:=.none,data:=.fields ps }
 | .met f x=>h.get? a=some (PySem.W.methodObj (.ref f) (.ref x))
 | .ext φ=>φ h/\(∃o,h.get? a=some o)/\∀h1 h2:Heap,φ h1->(∀o,h1.get? a=some o->h2.get? a=some o)->φ h2
def HOk(H:Hp)(h:Heap):Prop:=∀a o,H a=some o->ObjOk P w H h a o
end
section
variable{P:P4}{w:World}{H H':Hp}{h h':Heap}{a:Addr}{o:HO}
theorem ObjOk.lt(x:ObjOk P w H h a o):a<h.objs.size:=by
 cases o with
 | lst xs=>obtain⟨_,_,_,_,e⟩:=x; exact Yk e
 | tup xs=>obtain⟨_,_,_,p,_⟩:=x; exact p.lt
 | dK kvs=>obtain⟨_,_,_,_,o,_,_,e,_⟩:=x; exact Yk e
 | dT kvs=>obtain⟨_,_,_,_,o,_,_,e,_⟩:=x; exact Yk e
 | set S n=>obtain⟨o,_,_,_,e,_⟩:=x; exact Yk e
 | ins C dx fs=>obtain⟨_,_,_,e,_⟩:=x; exact Yk e
 | own y=>obtain⟨_,e⟩:=x; exact Yk e
 | xd fs=>obtain⟨_,⟨_,_,_,e,_⟩,_⟩:=x; exact Yk e
 | rng lo hi=>obtain⟨_,_,_,e⟩:=x; exact Yk e
 | frz ob u=>obtain⟨e,_⟩:=x; exact Yk e
 | tbl ps=>exact Yk (show h.get? a=some _ from x)
 | met f y=>exact Yk (show h.get? a=some _ from x)
 | ext φ=>obtain⟨_,⟨_,e⟩,_⟩:=x; exact Yk e
theorem Paired.mapP{α β:Type}{F G:α->β->Prop}:∀{l₁:List α} {l₂:List β},Paired F l₁ l₂->(∀a b,F a b->G a b)->Paired G l₁ l₂
 | _,_,.nil,_ => .nil
 | _,_,.cons r t,f => .cons (f _ _ r) (Paired.mapP t f)
theorem ObjOk.stay(x:ObjOk P w H h a o)(k:∀b u,(b=a\/H b=some (.own a))->h.get? b=some u->h'.get? b=some u)
  (ho:∀b,H b=some (.own a)->H' b=some (.own a)) (ht:∀b xs,H b=some (.tup xs)->H' b=some (.tup xs)):ObjOk P w H' h' a o:=by
 induction o with
 | lst xs=>obtain⟨z,its,n,r,e⟩:=x; exact⟨z,its,n,r,k _ _ (.inl rfl) e⟩
 | tup xs=>obtain⟨z,its,r,⟨ob,e,c⟩,dn⟩:=x; exact⟨z,its,r,⟨ob,k _ _ (.inl rfl) e,c⟩,fun o2 e2=>by rw[k _ _ (.inl rfl) e] at e2; cases e2; exact dn _ e⟩
 | dK kvs=>obtain⟨z,y,vs,r,ob,es,ep,e,c⟩:=x; exact⟨z,y,vs,r,ob,es,ep,k _ _ (.inl rfl) e,c⟩
 | dT kvs =>
  obtain⟨z,y,xs,r,ob,es,ep,e,c⟩:=x;exact⟨z,y,xs,Paired.mapP r fun p q z=>⟨z.1,ht _ _ z.2.1,z.2.2⟩,ob,es,ep,k _ _ (.inl rfl) e,c⟩
 | set S n=>obtain⟨ob,es,ep,t,e,c⟩:=x; exact⟨ob,es,ep,t,k _ _ (.inl rfl) e,c⟩
 | ins C dx fs =>
  obtain⟨d,z,ne,e,mA,⟨od,es,ep,e2,c⟩,r⟩:=x;exact⟨ho _ d,z,ne,k _ _ (.inl rfl) e,mA,⟨od,es,ep,k _ _ (.inr d) e2,c⟩,r⟩
 | own y=>obtain⟨ob,e⟩:=x; exact⟨ob,k _ _ (.inl rfl) e⟩
 | xd fs=>obtain⟨mA,⟨od,es,ep,e,c⟩,r⟩:=x; exact⟨mA,⟨od,es,ep,k _ _ (.inl rfl) e,c⟩,r⟩
 | rng lo hi=>obtain⟨t,u,v,e⟩:=x; exact⟨t,u,v,k _ _ (.inl rfl) e⟩
 | frz ob u ih=>obtain⟨e,q⟩:=x; exact⟨k _ _ (.inl rfl) e,ih q⟩
 | tbl ps =>
  have e:h.get? a=some { cls:=.none,data:=.fields ps }:=x;show h'.get? a=some { cls:=.none,data:=.fields ps };exact k a _ (.inl rfl) e
 | met f y =>
  have e:h.get? a=some (PySem.W.methodObj (.ref f) (.ref y)):=x;show h'.get? a=some (PySem.W.methodObj (.ref f) (.ref y));exact k a _ (.inl rfl) e
 | ext φ=>obtain⟨p,⟨o,e⟩,st⟩:=x; exact⟨st _ _ p fun o q=>k _ _ (.inl rfl) q,⟨o,k _ _ (.inl rfl) e⟩,st⟩
theorem HOk.lt(x:HOk P w H h)(e:H a=some o):a<h.objs.size:=(x a o e).lt
theorem HOk.fresh(x:HOk P w H h)(e:h.objs.size<=a):H a=none:=by
 cases q:H a with
 | none=>rfl
 | some u=>exact absurd (Yq (x.lt q) e) (YY _)
theorem HOk.kept(x:HOk P w H h)(k:∀b u,h.get? b=some u->h'.get? b=some u):HOk P w H h':=fun a o e =>
 (x a o e).stay (fun b u _ q=>k b u q) (fun _ q=>q) fun _ _ q=>q
theorem HOk.laid(x:HOk P w H h)(k:∀b u,h.get? b=some u->h'.get? b=some u)(hp:h.objs.size<=a)(new:ObjOk P w (upd H a o) h' a o):HOk P w (upd H a o) h':=fun b u e=>by
 have hn:=x.fresh hp;by_cases hb:b=a
 ·subst hb; rw[ZW] at e; cases e; exact new
 ·rw[Zk hb] at e;exact (x b u e).stay (fun c v _ q=>k c v q) (fun c q=>by rw[Zk (Zy q hn)]; exact q) fun c xs q=>by rw[Zk (Zy q hn)]; exact q
end
def Rd(H:Hp)(a:Addr)(u:HO):Prop:=H a=some u\/∃o,H a=some (.frz o u)
theorem Rd.ok{P:P4}{w:World}{H:Hp}{h:Heap}{a:Addr}{u:HO}(r:Rd H a u)(x:HOk P w H h):ObjOk P w H h a u:=by
 rcases r with r | ⟨o,r⟩
 ·exact x a u r
 ·obtain⟨_,q⟩:=x a _ r;exact q
def Mut:Option HO->Prop
 | some (.lst _)=>True
 | some (.dK _)=>True
 | some (.dT _)=>True
 | some (.set _ _)=>True
 | some (.ins _ _ _)=>True
 | some (.ext _)=>True
 | _=>False
section
variable{P:P4}{w:World}{H:Hp}{h h':Heap}{x e:Addr}{o':HO}
theorem HOk.write(ok:HOk P w H h)(mu:Mut (H x))(he:e=x\/H e=some (.own x))(k:∀b u,b≠e->h.get? b=some u->h'.get? b=some u)(heo:∃u,h'.get? e=some u)
  (new:ObjOk P w (upd H x o') h' x o'):HOk P w (upd H x o') h':=fun b u q=>by
 have nown:∀c y,H c=some (.own y)->c≠x:=fun c y r z=>by subst z; rw[r] at mu; exact mu
 have ntup:∀c xs,H c=some (.tup xs)->c≠x:=fun c xs r z=>by subst z; rw[r] at mu; exact mu
 by_cases hb:b=x
 ·subst hb; rw[ZW] at q; cases q; exact new
 ·rw[Zk hb] at q;by_cases hbe:b=e
  ·have q':H b=some (.own x):=by
    rcases he with z | z
    ·exact absurd (hbe.trans z) hb
    ·rw[hbe]; exact z
   rw[q] at q'; cases q';obtain⟨v,hv⟩:=heo;exact⟨v,by rw[hbe]; exact hv⟩
  ·refine (ok b u q).stay (fun c v hc r=>k c v ?_ r) (fun c r=>by rw[Zk (nown c b r)]; exact r) fun c xs r=>by rw[Zk (ntup c xs r)]; exact r
   rcases hc with rfl | hc
   ·exact hbe
   ·rintro rfl;rcases he with z | z
    ·exact nown c b hc z
    ·rw[hc] at z; cases z; exact hb rfl
end
structure Un(fs ex:List Addr)(H H':Hp)(h h':Heap):Prop where
 keep:∀b o,h.get? b=some o->H b=none->b ∉ fs->b ∉ ex->h'.get? b=some o
 slot:∀b o,h.get? b=some o->H b=none->b∈fs->b ∉ ex->∃sl,h'.get? b=some { o with slots:=sl }
 free:∀b o,h.get? b=some o->H b=none->b ∉ ex->H' b=none
 there:∀b o,h.get? b=some o->b ∉ ex->∃o',h'.get? b=some o'
 tups:∀b xs,H b=some (.tup xs)->H' b=some (.tup xs)
 frzs:∀b o u,H b=some (.frz o u)->H' b=some (.frz o u)
 tbls:∀b ps,H b=some (.tbl ps)->∃more,H' b=some (.tbl (ps++more))
section
variable{fs fs' ex ex':List Addr}{H H1 H2:Hp}{h h1 h2 h':Heap}{a x e:Addr}{o:HO}
theorem Un.any(u:Un fs ex H H1 h h1){b:Addr}{ob:Obj}(q:h.get? b=some ob)(n:H b=none)(hx:b ∉ ex):∃sl,h1.get? b=some { ob with slots:=sl }:=by
 by_cases hb:b∈fs
 ·exact u.slot b ob q n hb hx
 ·exact⟨ob.slots,u.keep b ob q n hb hx⟩
theorem Un.kept(k:∀b u,h.get? b=some u->h'.get? b=some u):Un fs ex H H h h' :=
 ⟨fun b ob q _ _ _=>k b ob q,fun b ob q _ _ _=>⟨ob.slots,k b ob q⟩,fun _ _ _ n _=>n,fun b ob q _=>⟨ob,k b ob q⟩,fun _ _ q=>q,fun _ _ _ q=>q,fun _ ps q=>⟨#[],by rw[q]; simp⟩⟩
theorem Un.refl:Un fs ex H H h h:=Un.kept fun _ _ q=>q
theorem Un.laid(k:∀b u,h.get? b=some u->h'.get? b=some u)(hp:h.objs.size<=a)(hn:H a=none):Un fs ex H (upd H a o) h h' where
 keep:=fun b u q _ _ _=>k b u q
 slot:=fun b u q _ _ _=>⟨u.slots,k b u q⟩
 free:=fun b u q n _=>by rw[Zk (Yr (Yq (Yk q) hp))]; exact n
 there:=fun b u q _=>⟨u,k b u q⟩
 tups:=fun b xs q=>by rw[Zk (Zy q hn)]; exact q
 frzs:=fun b u xs q=>by rw[Zk (Zy q hn)]; exact q
 tbls:=fun b ps q=>⟨#[],by rw[Zk (Zy q hn),q]; simp⟩
theorem Un.write(mu:Mut (H x))(he:e=x\/H e=some (.own x))(k:∀b u,b≠e->h.get? b=some u->h'.get? b=some u)(heo:∃u,h'.get? e=some u):Un fs ex H (upd H x o) h h':=by
 have hx:∀b,H b=none->b≠x:=fun b n z=>by subst z; rw[n] at mu; exact mu
 have hb:∀b,H b=none->b≠e:=fun b n z=>by
  subst z;rcases he with r | r
  ·exact hx b n r
  ·rw[n] at r; cases r
 have hm:∀b u,H b=some u->¬ Mut (some u)->b≠x:=fun b u q nm z=>by subst z; rw[q] at mu; exact nm mu
 refine⟨fun b u q n _ _=>k b u (hb b n) q,fun b u q n _ _=>⟨u.slots,k b u (hb b n) q⟩,fun b u q n _=>by rw[Zk (hx b n)]; exact n,fun b u q _ => ?_,
  fun b xs q=>by rw[Zk (hm b _ q fun z=>z)]; exact q,fun b u xs q=>by rw[Zk (hm b _ q fun z=>z)]; exact q,fun b ps q=>⟨#[],by rw[Zk (hm b _ q fun z=>z),q]; simp⟩⟩
 by_cases hbe:b=e
 ·subst hbe; exact heo
 ·exact⟨u,k b u hbe q⟩
end
def trk(h:Heap)(H:Hp):List Addr:=(List.range h.objs.size).filter fun a=>(H a).isSome
def Za3(h:Heap)(H:Hp):Heap:=PySem.W.hideAll h (trk h H)
theorem Zni(h:Heap)(H:Hp):(Za3 h H).objs.size=h.objs.size:=PySem.W.hideAll_size _ _
theorem ZpA{h:Heap}{H:Hp}{b:Addr}{o:Obj}(e:h.get? b=some o)(n:H b=none):(Za3 h H).get? b=some o :=
 PySem.W.hideAll_get _ e fun hm=>by
  have q:(H b).isSome=true:=(List.mem_filter.mp hm).2;rw[n] at q; simp at q
theorem Zld{h:Heap}{H:Hp}{b:Addr}{o:Obj}(e:(Za3 h H).get? b=some o):h.get? b=some o/\H b=none:=by
 have e':h.get? b=some o:=PySem.W.of_hideAll (trk h H) e;refine⟨e',?_⟩;cases q:H b with
 | none=>rfl
 | some x =>
  have hm:b∈trk h H:=List.mem_filter.mpr ⟨W7.mpr (Yk e'),by simp[q]⟩;have z:(Za3 h H).get? b=none:=PySem.W.hideAll_none (trk h H) hm;rw[z] at e; cases e
def ZnG(g h:Heap)(L:Addr):List (Addr×Obj):=(List.range h.objs.size).filterMap fun a=>if a=L\/(g.get? a).isSome=true then none else (h.get? a).map fun o=>(a,o)
def rest(g h:Heap)(L d:Addr):List (Addr×Obj):=(ZnG g h L).filter fun p=>decide (p.1≠d)
structure Mod(K:P1)(mg:Str->Option P6)(base:Heap):Prop where
 kin:K.In base
 glob:base.Ns mainGlobals mg
 blt:∃mb,base.Ns builtinsNs mb/\∀x:Str,x≠"__name__"->mb x=bootBuiltins x
 nolimit:base.NoLimit
structure Cx where
 prog:P4
 w:World
 K:P1
 mg:Str->Option P6
 base:Heap
 A:P3
 N:List Str
 s₀:P0
 H₀:Hp
 env:Env
 outer:List Env
 stack:List Env
 ex:List Addr
 fn:Str->Bool
 calm:Bool
 pn:List (Addr×Obj)
 xe:P6->P0->Prop
def frs(l:List Env):List Addr:=l.filterMap (·.frame)
noncomputable abbrev Cx.fs(X:Cx):List Addr:=frs X.outer
def Vis(sc:Scope)(x:Str):Prop:=sc.names.lookup x=some .local\/sc.names.lookup x=some .cell\/sc.names.lookup x=some .free
def Loc(sc:Scope)(x:Str):Prop:=sc.names.lookup x=some .local\/sc.names.lookup x=some .cell
def Look(env:Env)(h:Heap)(m:Str->Option P6)(x:Str)(u:P6):Prop :=
 (env.kindOf x=some .local/\m x=some u)\/((env.kindOf x=some .cell\/env.kindOf x=some .free)/\∃c,env.cells.lookup x=some c/\h.IsCell c (some u))
structure Cx.Ok(X:Cx):Prop where
 mod:Mod X.K X.mg X.base
 kind:X.env.scope.kind = .function
 glob:X.env.globals=mainGlobals
 blt:X.env.builtins=builtinsNs
 above:X.s₀.heap.objs.size<=X.env.locals
 inj:∀x y c,X.env.cells.lookup x=some c->X.env.cells.lookup y=some c->x=y
 has:∀x,(X.env.kindOf x=some .cell\/X.env.kindOf x=some .free)->∃c,X.env.cells.lookup x=some c
 cab:∀x c,X.fn x=true->X.env.cells.lookup x=some c->X.s₀.heap.objs.size<=c
 hd:X.calm=true->X.A.handled=none
 frames:X.A.frames=some X.stack
 stk:X.stack=X.outer\/(X.stack=X.env :: X.outer/\X.env.frame=some X.env.locals)
 exf:∀b∈X.ex,b≠X.env.locals/\∀x c,X.env.cells.lookup x=some c->c≠b
 bs:∀b o,X.base.get? b=some o->X.s₀.heap.get? b=some o/\X.H₀ b=none
 bsz:X.base.objs.size<=X.s₀.heap.objs.size
 noex:∀b o,X.base.get? b=some o->b ∉ X.ex
 exfs:∀b∈X.ex,b ∉ X.fs
 funs:X.s₀.heap.FunFrames X.base X.outer
 frf:∀b∈X.fs,X.H₀ b=none
structure Inv(X:Cx)(pins:List (Addr×Obj))(σ:List (Option V))(H:Hp)(s:P0):Prop where
 ok:X.Ok
 os:s.os=X.s₀.os
 bare:AllBare s.gens
 base:Un X.fs X.ex X.H₀ H X.s₀.heap s.heap
 loc:∃m,s.heap.Ns X.env.locals m/\∀(i:Nat) (x:Str) (v:V),X.N[i]?=some x->σ[i]?=some (some v)->Vis X.env.scope x->∃u,RelV v u/\Look X.env s.heap m x u
 cell:∀x c,X.env.cells.lookup x=some c->∃v,s.heap.IsCell c v
 free:H X.env.locals=none
 freeC:∀x c,X.env.cells.lookup x=some c->H c=none
 pin:∀p∈X.pn++pins,s.heap.get? p.1=some p.2/\H p.1=none/\p.1≠X.env.locals/\p.1 ∉ X.fs/\∀v,p.2.data≠.cell v
 hok:HOk X.prog X.w H s.heap
 len:σ.length=X.N.length
section
variable{X:Cx}{pins:List (Addr×Obj)}{σ:List (Option V)}{H H':Hp}{s:P0}{h':Heap}
theorem Cx.Ok.nofr(ok:X.Ok){b:Addr}{o:Obj}(e:X.base.get? b=some o):b ∉ X.fs:=fun hb=>by
 have:=(ok.funs.mem hb).1;rw[e] at this; cases this
theorem Inv.bs(I:Inv X pins σ H s):∀b o,X.base.get? b=some o->s.heap.get? b=some o/\H b=none:=fun b o e =>
 ⟨I.base.keep b o (I.ok.bs b o e).1 (I.ok.bs b o e).2 (I.ok.nofr e) (I.ok.noex b o e),I.base.free b o (I.ok.bs b o e).1 (I.ok.bs b o e).2 (I.ok.noex b o e)⟩
theorem Inv.bk(I:Inv X pins σ H s):∀b o,X.base.get? b=some o->s.heap.get? b=some o:=fun b o e=>(I.bs b o e).1
theorem Inv.mod(I:Inv X pins σ H s):Mod X.K X.mg X.base:=I.ok.mod
theorem Inv.kIn(I:Inv X pins σ H s):X.K.In s.heap:=I.ok.mod.kin.keeps I.bk
theorem Inv.nolimit(I:Inv X pins σ H s):s.heap.NoLimit:=I.ok.mod.nolimit.keeps I.bk
theorem Inv.lt(I:Inv X pins σ H s):X.env.locals<s.heap.objs.size:=let ⟨_,hn,_⟩:=I.loc; hn.lt
theorem Inv.sz(I:Inv X pins σ H s):X.s₀.heap.objs.size<=s.heap.objs.size:=YH I.ok.above (V6 I.lt)
theorem Inv.nofs(I:Inv X pins σ H s){a:Addr}(h:s.heap.objs.size<=a):a ∉ X.fs:=fun hb=>by
 obtain⟨_,o,ho,_⟩:=I.ok.funs.mem hb;exact absurd (Yq (Yk ho) (YH I.sz h)) (YY _)
theorem Inv.cne(I:Inv X pins σ H s):∀x c,X.env.cells.lookup x=some c->c≠X.env.locals:=fun x c e z=>by
 obtain⟨v,o,ho,hd⟩:=I.cell x c e;obtain⟨m,⟨o',es,ep,ho',hd',_⟩,_⟩:=I.loc;rw[z,ho'] at ho; cases ho; rw[hd'] at hd; cases hd
theorem Inv.funs(I:Inv X pins σ H s):s.heap.FunFrames X.base X.outer:=by
 have all:∀(l:List Env),(∀b∈frs l,b∈X.fs)->X.s₀.heap.FunFrames X.base l->s.heap.FunFrames X.base l:=by
  intro l
  induction l with
  | nil=>intro _ _; trivial
  | cons env r ih =>
   intro hs hl;obtain⟨hk,⟨L,o,hf,hn,ho,hd⟩,hr⟩:=hl;have hL:L∈X.fs:=hs L (by unfold frs; rw[QQ,hf]; exact Yz);obtain⟨sl,e⟩:=I.base.slot L o ho (I.ok.frf L hL) hL fun z=>I.ok.exfs L z hL;exact⟨hk,⟨L,_,hf,hn,e,hd⟩,ih (fun b hb=>hs b (by unfold frs; rw[QQ,hf]; exact Yv _ hb)) hr⟩
 exact all X.outer (fun _ hb=>hb) I.ok.funs
theorem Inv.stack(I:Inv X pins σ H s):s.heap.FunFrames X.base X.stack:=by
 rcases I.ok.stk with e | ⟨e,hf⟩
 ·rw[e]; exact I.funs
 ·rw[e];obtain⟨m,hn,_⟩:=I.loc;refine .cons (by rw[I.ok.kind]; decide) hf hn ?_ I.funs;exact V7 (YH I.ok.bsz I.ok.above)
theorem Inv.stkSub(I:Inv X pins σ H s):∀b∈frs X.stack,b∈X.env.locals :: X.fs:=fun b hb=>by
 rcases I.ok.stk with e | ⟨e,hf⟩
 ·rw[e] at hb; exact Yv _ hb
 ·rw[e] at hb;unfold frs at hb;rw[QQ,hf] at hb;exact hb
theorem Inv.stkFree(I:Inv X pins σ H s):∀b∈frs X.stack,H b=none:=fun b hb=>by
 rcases Yl.mp (I.stkSub b hb) with e | hb
 ·rw[e]; exact I.free
 ·obtain⟨_,o,ho,_⟩:=I.ok.funs.mem hb;exact I.base.free b o ho (I.ok.frf b hb) fun z=>I.ok.exfs b z hb
theorem Inv.step{g':Array GenState}{t':Nat}{d':Drawn}{ch:List Addr}(I:Inv X pins σ H s)
  (hch:∀b∈ch,(b∈X.ex\/X.s₀.heap.objs.size<=b)/\b≠X.env.locals/\(∀x c,X.env.cells.lookup x=some c->c≠b)/\∀p∈X.pn++pins,p.1≠b)
  (keep:∀b o,b≠X.env.locals->b ∉ X.fs->b ∉ ch->s.heap.get? b=some o->H b=none->h'.get? b=some o)
  (slot:∀b o,b≠X.env.locals->b∈X.fs->b ∉ ch->s.heap.get? b=some o->H b=none->∃sl,h'.get? b=some { o with slots:=sl }) (free:∀b o,b ∉ ch->s.heap.get? b=some o->H b=none->H' b=none)
  (there:∀b o,b ∉ ch->s.heap.get? b=some o->∃o',h'.get? b=some o')
  (tups:∀b xs,H b=some (.tup xs)->H' b=some (.tup xs)) (frzs:∀b o u,H b=some (.frz o u)->H' b=some (.frz o u)) (tbls:∀b ps,H b=some (.tbl ps)->∃more,H' b=some (.tbl (ps++more)))
  (ns:∀m,s.heap.Ns X.env.locals m->h'.Ns X.env.locals m) (hok:HOk X.prog X.w H' h') (hg:AllBare g') :
  Inv X pins σ H' { s with heap:=h',gens:=g',drawn:=d',toks:=t' }:=by
 have neL:∀b o,X.s₀.heap.get? b=some o->b≠X.env.locals:=fun b o e=>Yr (Yq (Yk e) I.ok.above);have neC:∀b o,X.s₀.heap.get? b=some o->b ∉ X.ex->b ∉ ch:=fun b o e hx hb=>by
  rcases (hch b hb).1 with z | z
  ·exact hx z
  ·exact absurd (Yq (Yk e) z) (YY _)
 have cellK:∀x c,X.env.cells.lookup x=some c->∀v,s.heap.IsCell c v->h'.IsCell c v:=fun x c e v ⟨o,ho,hd⟩=>by
  have nch:c ∉ ch:=fun z=>(hch c z).2.2.1 x c e rfl;by_cases hc:c∈X.fs
  ·obtain⟨sl,q⟩:=slot c o (I.cne x c e) hc nch ho (I.freeC x c e);exact⟨_,q,hd⟩
  ·exact⟨o,keep c o (I.cne x c e) hc nch ho (I.freeC x c e),hd⟩
 refine⟨I.ok,I.os,hg,⟨fun b o e n hb hx => ?_,fun b o e n hb hx => ?_,fun b o e n hx => ?_,fun b o e hx => ?_,fun b xs e=>tups b xs (I.base.tups b xs e),fun b o xs e=>frzs b o xs (I.base.frzs b o xs e),fun b ps e => ?_⟩,?_,fun x c e => ?_,?_,fun x c e => ?_,fun p hp => ?_,hok,I.len⟩
 ·exact keep b o (neL b o e) hb (neC b o e hx) (I.base.keep b o e n hb hx) (I.base.free b o e n hx)
 ·obtain⟨sl,e1⟩:=I.base.slot b o e n hb hx;obtain⟨sl',e2⟩:=slot b _ (neL b o e) hb (neC b o e hx) e1 (I.base.free b o e n hx);exact⟨sl',e2⟩
 ·obtain⟨o',e1⟩:=I.base.there b o e hx;exact free b o' (neC b o e hx) e1 (I.base.free b o e n hx)
 ·obtain⟨o',e1⟩:=I.base.there b o e hx;exact there b o' (neC b o e hx) e1
 ·obtain⟨m1,e1⟩:=I.base.tbls b ps e;obtain⟨m2,e2⟩:=tbls b _ e1;exact⟨m1++m2,by rw[e2,Array.append_assoc]⟩
 ·obtain⟨m,hn,hl⟩:=I.loc;refine⟨m,ns m hn,fun i x v e1 e2 e3 => ?_⟩;obtain⟨u,r,l⟩:=hl i x v e1 e2 e3;refine⟨u,r,?_⟩;rcases l with l | ⟨k,c,e,z⟩
  ·exact .inl l
  ·exact .inr ⟨k,c,e,cellK x c e _ z⟩
 ·obtain⟨v,z⟩:=I.cell x c e;exact⟨v,cellK x c e v z⟩
 ·obtain⟨m,⟨o,_,_,ho,_⟩,_⟩:=I.loc;exact free _ o (fun z=>(hch _ z).2.1 rfl) ho I.free
 ·obtain⟨v,o,ho,hd⟩:=I.cell x c e;exact free c o (fun z=>(hch c z).2.2.1 x c e rfl) ho (I.freeC x c e)
 ·obtain⟨e,n,ne,nf,d⟩:=I.pin p hp;have nch:p.1 ∉ ch:=fun z=>(hch p.1 z).2.2.2 p hp rfl;exact⟨keep p.1 p.2 ne nf nch e n,free p.1 p.2 nch e n,ne,nf,d⟩
theorem Inv.un{t':Nat}(I:Inv X pins σ H s)(u:Un X.fs [] H H' s.heap h')(hok:HOk X.prog X.w H' h'):Inv X pins σ H' { s with heap:=h',toks:=t' }:=by
 obtain⟨m,⟨o,es,ep,ho,r⟩,_⟩:=id I.loc;obtain⟨sl,hL⟩:=u.any ho I.free (by simp);exact I.step (g':=s.gens) (d':=s.drawn) (ch:=[]) (fun _ z=>nomatch z) (fun b o _ hb _ e n=>u.keep b o e n hb (by simp)) (fun b o _ hb _ e n=>u.slot b o e n hb (by simp)) (fun b o _ e n=>u.free b o e n (by simp)) (fun b o _ e=>u.there b o e (by simp)) u.tups u.frzs u.tbls (fun m' hm=>by
  obtain⟨o',es',ep',ho',r'⟩:=hm;rw[ho] at ho'; cases ho';exact⟨_,es',ep',hL,r'⟩) hok I.bare
theorem Inv.call{g':Array GenState}{t':Nat}{d':Drawn}{ch:List Addr}(I:Inv X pins σ H s)(u:Un (frs X.stack) ch H H' s.heap h')(hok:HOk X.prog X.w H' h')(hg:AllBare g')
  (hch:∀b∈ch,(b∈X.ex\/X.s₀.heap.objs.size<=b)/\b≠X.env.locals/\(∀x c,X.env.cells.lookup x=some c->c≠b)/\∀p∈X.pn++pins,p.1≠b) :
  Inv X pins σ H' { s with heap:=h',gens:=g',drawn:=d',toks:=t' }:=by
 obtain⟨m,⟨o,es,ep,ho,r⟩,_⟩:=id I.loc;obtain⟨sl,hL⟩:=u.any ho I.free fun z=>(hch _ z).2.1 rfl;exact I.step (ch:=ch) hch (fun b o hL hb hc e n=>u.keep b o e n (fun z=>(Yl.mp (I.stkSub b z)).elim hL hb) hc) (fun b o _ _ hc e n=>u.any e n hc) (fun b o hc e n=>u.free b o e n hc) (fun b o hc e=>u.there b o e hc) u.tups u.frzs u.tbls (fun m' hm=>by
  obtain⟨o',es',ep',ho',r'⟩:=hm;rw[ho] at ho'; cases ho';exact⟨_,es',ep',hL,r'⟩) hok hg
theorem Inv.turned{t':Nat}{it:Addr}(I:Inv X pins σ H s)(k:∀b o,b≠it->s.heap.get? b=some o->h'.get? b=some o)(hn:H it=none)(hL:it≠X.env.locals)
  (h1:it∈X.ex\/X.s₀.heap.objs.size<=it) (h2:∀x c,X.env.cells.lookup x=some c->c≠it) (h3:∀p∈X.pn++pins,p.1≠it):Inv X pins σ H { s with heap:=h',toks:=t' }:=by
 have nit:∀b u,H b=some u->b≠it:=fun b u e z=>by rw[z,hn] at e; cases e
 refine I.step (g':=s.gens) (d':=s.drawn) (ch:=[it]) (fun b hb => ?_) (fun b o _ _ hc e _=>k b o (fun z=>hc (by simp[z])) e) (fun b o _ _ hc e _=>⟨o.slots,k b o (fun z=>hc (by simp[z])) e⟩) (fun _ _ _ _ n=>n)
  (fun b o hc e=>⟨o,k b o (fun z=>hc (by simp[z])) e⟩) (fun _ _ e=>e) (fun _ _ _ e=>e) (fun b ps e=>⟨#[],by rw[e]; simp⟩) (fun m hm => ?_) (fun b u e => ?_) I.bare
 ·have e:b=it:=by simpa using hb
  subst e;exact⟨h1,hL,h2,h3⟩
 ·obtain⟨o,es,ep,ho,r⟩:=hm;exact⟨o,es,ep,k _ o (YW hL) ho,r⟩
 ·refine (I.hok b u e).stay (fun c v hc q=>k c v ?_ q) (fun _ q=>q) fun _ _ q=>q;rcases hc with z | z
  ·rw[z]; exact nit b u e
  ·exact nit c _ z
theorem Inv.tok(I:Inv X pins σ H s)(t:Nat):Inv X pins σ H { s with toks:=t }:=I.un (h':=s.heap) (t':=t) Un.refl I.hok
theorem Inv.kept{t':Nat}(I:Inv X pins σ H s)(k:∀b u,s.heap.get? b=some u->h'.get? b=some u):Inv X pins σ H { s with heap:=h',toks:=t' }:=I.un (Un.kept k) (I.hok.kept k)
theorem Inv.laid{a:Addr}{o:HO}{t':Nat}(I:Inv X pins σ H s)(k:∀b u,s.heap.get? b=some u->h'.get? b=some u)(hp:s.heap.objs.size<=a)(new:ObjOk X.prog X.w (upd H a o) h' a o) :
  Inv X pins σ (upd H a o) { s with heap:=h',toks:=t' }:=I.un (Un.laid k hp (I.hok.fresh hp)) (I.hok.laid k hp new)
theorem Inv.write{x e:Addr}{o:HO}{t':Nat}(I:Inv X pins σ H s)(mu:Mut (H x))(he:e=x\/H e=some (.own x))(k:∀b u,b≠e->s.heap.get? b=some u->h'.get? b=some u)(heo:∃u,h'.get? e=some u)
  (new:ObjOk X.prog X.w (upd H x o) h' x o):Inv X pins σ (upd H x o) { s with heap:=h',toks:=t' }:=I.un (Un.write mu he k heo) (I.hok.write mu he k heo new)
theorem Inv.pins_of{pins':List (Addr×Obj)}(I:Inv X pins σ H s)(h:∀p∈pins',s.heap.get? p.1=some p.2/\H p.1=none/\p.1≠X.env.locals/\p.1 ∉ X.fs/\∀v,p.2.data≠.cell v):Inv X pins' σ H s :=
 ⟨I.ok,I.os,I.bare,I.base,I.loc,I.cell,I.free,I.freeC,fun p hp=>(YR.mp hp).elim (fun z=>I.pin p (Wx _ z)) (h p),I.hok,I.len⟩
theorem ZiP{N:List Str}(hN:N.Nodup){i j:Nat}{x:Str}(a:N[i]?=some x)(b:N[j]?=some x):i=j:=by
 obtain⟨h1,e1⟩:=Yo.mp a;obtain⟨h2,e2⟩:=Yo.mp b;exact (Qj hN).mp (e1.trans e2.symm)
theorem Zho{M:Model}{A:P3}{E:P6->P0->Prop}{i:Nat}{x:Str}{v:V}{u:P6}{Q:Unit->P0->Prop}(I:Inv X pins σ H s)(hN:X.N.Nodup)(hi:X.N[i]?=some x)(hx:Loc X.env.scope x)(r:RelV v u)
  (h:∀s',Inv X pins (σ.set i (some v)) H s'->(∃a,Heap.SameBut a s.heap s'.heap/\(a=X.env.locals\/X.env.cells.lookup x=some a))->Q () s') (hf:X.fn x=true\/X.env.scope.names.lookup x=some .local:=by first | exact .inl rfl | exact .inr rfl | assumption):wpAny M A (storeName X.env x u) Q E s:=by
 obtain⟨m,hn,hl⟩:=id I.loc;have hcls:(X.env.scope.kind == .class || (X.env.scope.kind == .module && X.env.locals != X.env.globals))=false:=by rw[I.ok.kind]; rfl
 have hiσ:i<σ.length:=by rw[I.len]; exact (Yo.mp hi).1
 have cne:=I.cne;have tracked:∀{a:Addr} {h':Heap},(∃o,s.heap.get? a=some o/\H a=none)->Heap.SameBut a s.heap h'->HOk X.prog X.w H h':=fun {a h'} ha hs b ob e=>by
  obtain⟨_,_,hfree⟩:=ha;refine (I.hok b ob e).stay (fun c w' hc q=>(hs.2 c ?_).trans q) (fun _ q=>q) fun _ _ q=>q;rintro rfl;rcases hc with rfl | hc
  ·rw[hfree] at e; cases e
  ·rw[hfree] at hc; cases hc
 rcases hx with hk | hk
 ·refine wpAny_storeName_local hk hn (fun h' hn' hs => ?_) hcls;obtain⟨oL,_,_,hoL,_⟩:=id hn;refine h _ ⟨I.ok,I.os,I.bare,⟨fun b o e n hb hx => ?_,fun b o e n hb hx => ?_,I.base.free,fun b o e hx => ?_,I.base.tups,I.base.frzs,I.base.tbls⟩,⟨_,hn',fun j y v' e1 e2 e3 => ?_⟩,fun y c e => ?_,I.free,I.freeC,fun p hp => ?_,tracked ⟨oL,hoL,I.free⟩ hs,by simpa using I.len⟩ ⟨_,hs,.inl rfl⟩
  ·exact (hs.2 b (Yr (Yq (Yk e) I.ok.above))).trans (I.base.keep b o e n hb hx)
  ·obtain⟨sl,e1⟩:=I.base.slot b o e n hb hx;exact⟨sl,(hs.2 b (Yr (Yq (Yk e) I.ok.above))).trans e1⟩
  ·obtain⟨o',e1⟩:=I.base.there b o e hx;exact⟨o',(hs.2 b (Yr (Yq (Yk e) I.ok.above))).trans e1⟩
  ·by_cases hj:j=i
   ·subst hj;rw[hi] at e1; cases e1;rw[W0 hiσ] at e2;cases e2;exact⟨u,r,.inl ⟨hk,by simp⟩⟩
   ·rw[WS (YW hj)] at e2;obtain⟨u',r',q⟩:=hl j y v' e1 e2 e3;refine⟨u',r',?_⟩;rcases q with⟨k,e⟩ | ⟨k,c,e,z⟩
    ·refine .inl ⟨k,?_⟩;have:y≠x:=fun e=>hj (ZiP hN e1 (e ▸ hi));simp[this,e]
    ·exact .inr ⟨k,c,e,z.sameBut hs (cne y c e)⟩
  ·obtain⟨w',z⟩:=I.cell y c e;exact⟨w',z.sameBut hs (cne y c e)⟩
  ·obtain⟨e,n,ne,nf,d⟩:=I.pin p hp;exact⟨(hs.2 p.1 ne).trans e,n,ne,nf,d⟩
 ·have hfn:X.fn x=true:=by
   rcases hf with z | z
   ·exact z
   ·rw[z] at hk; cases hk
  obtain⟨c,hc⟩:=I.ok.has x (.inl hk);obtain⟨w',z⟩:=I.cell x c hc;refine wpAny_storeName_cell I.ok.kind hk hc z (fun h' hc' hs => ?_);obtain⟨oc,hoc,hocd⟩:=id z;refine h { s with heap:=h' } ⟨I.ok,I.os,I.bare,⟨fun b o e n hb hx => ?_,fun b o e n hb hx => ?_,I.base.free,fun b o e hx => ?_,I.base.tups,I.base.frzs,I.base.tbls⟩,⟨m,hn.sameBut hs (YW (cne x c hc)),fun j y v' e1 e2 e3 => ?_⟩,fun y c' e => ?_,I.free,I.freeC,fun p hp => ?_,tracked ⟨oc,hoc,I.freeC x c hc⟩ hs,by simpa using I.len⟩ ⟨c,hs,.inr hc⟩
  ·exact (hs.2 b (Yr (Yq (Yk e) (I.ok.cab x c hfn hc)))).trans (I.base.keep b o e n hb hx)
  ·obtain⟨sl,e1⟩:=I.base.slot b o e n hb hx;exact⟨sl,(hs.2 b (Yr (Yq (Yk e) (I.ok.cab x c hfn hc)))).trans e1⟩
  ·obtain⟨o',e1⟩:=I.base.there b o e hx;exact⟨o',(hs.2 b (Yr (Yq (Yk e) (I.ok.cab x c hfn hc)))).trans e1⟩
  ·by_cases hj:j=i
   ·subst hj;rw[hi] at e1; cases e1;rw[W0 hiσ] at e2;cases e2;exact⟨u,r,.inr ⟨.inl hk,c,hc,hc'⟩⟩
   ·rw[WS (YW hj)] at e2;obtain⟨u',r',q⟩:=hl j y v' e1 e2 e3;refine⟨u',r',?_⟩;rcases q with q | ⟨k,c',e,z'⟩
    ·exact .inl q
    ·refine .inr ⟨k,c',e,z'.sameBut hs ?_⟩;rintro rfl;exact hj (ZiP hN e1 (I.ok.inj _ _ _ e hc ▸ hi))
  ·by_cases hcc:c'=c
   ·subst hcc; exact⟨_,hc'⟩
   ·obtain⟨w2,z2⟩:=I.cell y c' e;exact⟨w2,z2.sameBut hs hcc⟩
  ·obtain⟨e,n,ne,nf,d⟩:=I.pin p hp;refine⟨(hs.2 p.1 ?_).trans e,n,ne,nf,d⟩;intro q;rw[q,hoc] at e;have q':oc=p.2:=Option.some.inj e;exact d w' (by rw[<-q']; exact hocd)
theorem Zhl{M:Model}{A:P3}{E:P6->P0->Prop}{i:Nat}{x:Str}{v:V}{u:P6}{Q:Unit->P0->Prop}(I:Inv X pins σ H s)(hN:X.N.Nodup)(hi:X.N[i]?=some x)(hx:Loc X.env.scope x)(r:RelV v u)
  (h:∀s',Inv X pins (σ.set i (some v)) H s'->Q () s') (hf:X.fn x=true\/X.env.scope.names.lookup x=some .local:=by first | exact .inl rfl | exact .inr rfl | assumption):wpAny M A (storeName X.env x u) Q E s :=
 Zho I hN hi hx r (fun s' I' _=>h s' I') hf
theorem Inv.call'{s':P0}{ch:List Addr}(I:Inv X pins σ H s)(ho:s'.os=s.os)(u:Un (frs X.stack) ch H H' s.heap s'.heap)(hok:HOk X.prog X.w H' s'.heap)(hg:AllBare s'.gens)
  (hch:∀b∈ch,(b∈X.ex\/X.s₀.heap.objs.size<=b)/\b≠X.env.locals/\(∀x c,X.env.cells.lookup x=some c->c≠b)/\∀p∈X.pn++pins,p.1≠b):Inv X pins σ H' s':=by
 obtain⟨h',g',d',t',o'⟩:=s';have e:o'=s.os:=ho;subst e;exact I.call (g':=g') (t':=t') (d':=d') u hok hg hch
end
noncomputable abbrev XK:=P6->Option Addr->Hp->Prop
noncomputable abbrev St:=List (Option V)
noncomputable abbrev VK:=V->Hp->Prop
noncomputable abbrev TE:=St->Hp->VK->Prop
noncomputable abbrev TT:=St->Hp->(Bool->Hp->Prop)->Prop
noncomputable abbrev TA:=St->Hp->(List V->Hp->Prop)->Prop
structure Ends where
 nx:St->Hp->Prop
 rt:VK
 bk:St->Hp->Prop:=fun _ _=>False
 ct:St->Hp->Prop:=fun _ _=>False
noncomputable abbrev TS:=Ends->St->Hp->Prop
def EP(X:Cx)(pins:List (Addr×Obj))(σ:St)(Q:VK)(u:P6)(s':P0):Prop:=∃v H',Inv X pins σ H' s'/\RelV v u/\Q v H'
def TP(X:Cx)(pins:List (Addr×Obj))(σ:St)(Q:Bool->Hp->Prop)(b:Bool)(s':P0):Prop:=∃H',Inv X pins σ H' s'/\Q b H'
def AP(X:Cx)(pins:List (Addr×Obj))(σ:St)(Q:List V->Hp->Prop)(us:List P6)(s':P0):Prop:=∃vs H',Inv X pins σ H' s'/\Vals vs us/\Q vs H'
def SP(X:Cx)(pins:List (Addr×Obj))(D:Ends)(f:Flow)(s':P0):Prop :=
 match f with
 | .next => ∃σ' H',Inv X pins σ' H' s'/\D.nx σ' H'
 | .brk => ∃σ' H',Inv X pins σ' H' s'/\D.bk σ' H'
 | .cont => ∃σ' H',Inv X pins σ' H' s'/\D.ct σ' H'
 | .ret u => ∃v σ' H',Inv X pins σ' H' s'/\RelV v u/\D.rt v H'
def PE(X:Cx)(e:Expr)(t:TE):Prop :=
 ∀(pins:List (Addr×Obj)) (s:P0) (σ:St) (H:Hp) (Q:VK),Inv X pins σ H s->t σ H Q->wpAny (model X.prog X.w) X.A (eval e X.env) (EP X pins σ Q) X.xe s
def PT(X:Cx)(e:Expr)(t:TT):Prop :=
 ∀(pins:List (Addr×Obj)) (s:P0) (σ:St) (H:Hp) (Q:Bool->Hp->Prop),Inv X pins σ H s->t σ H Q->wpAny (model X.prog X.w) X.A (isTrue e X.env (eval e X.env)) (TP X pins σ Q) X.xe s
def PW(X:Cx)(e:Expr)(t:TT):Prop :=
 ∀(whole:Sem P6) (pins:List (Addr×Obj)) (s:P0) (σ:St) (H:Hp) (Q:Bool->Hp->Prop),Inv X pins σ H s->t σ H Q->wpAny (model X.prog X.w) X.A (isTrue e X.env whole) (TP X pins σ Q) X.xe s
theorem PW.pt{X:Cx}{e:Expr}{t:TT}(h:PW X e t):PT X e t:=h _
def PA(X:Cx)(es:List Expr)(t:TA):Prop :=
 ∀(pos:Pos) (pins:List (Addr×Obj)) (s:P0) (σ:St) (H:Hp) (Q:List V->Hp->Prop),Inv X pins σ H s->t σ H Q->wpAny (model X.prog X.w) X.A (spliced (backTo pos (starEach es X.env))) (AP X pins σ Q) X.xe s
def PS(X:Cx)(st:Stmt)(t:TS):Prop :=
 ∀(pins:List (Addr×Obj)) (s:P0) (σ:St) (H:Hp) (D:Ends),Inv X pins σ H s->t D σ H->wpAny (model X.prog X.w) X.A (exec st X.env) (SP X pins D) X.xe s
def PSs(X:Cx)(st:List Stmt)(t:TS):Prop :=
 ∀(pins:List (Addr×Obj)) (s:P0) (σ:St) (H:Hp) (D:Ends),Inv X pins σ H s->t D σ H->wpAny (model X.prog X.w) X.A (execs st X.env) (SP X pins D) X.xe s
theorem thn{α:Type}{t:Sem α}{Q Q':α->P0->Prop}{M:Model}{A:P3}{E:P6->P0->Prop}{s:P0}(h:wpAny M A t Q E s)(hQ:∀a s,Q a s->Q' a s):wpAny M A t Q' E s:=YM h hQ fun _ _ x=>x
section
variable{X:Cx}
def Zm6(i:Nat):TE:=fun σ H Q => ∃v,σ[i]?=some (some v)/\Q v H
def tC(v:V):TE:=fun _ H Q=>Q v H
theorem Zp0{i:Nat}{x:Str}{pos:Pos}(hN:X.N[i]?=some x)(hv:Vis X.env.scope x)(hd:(x == ("__debug__" : Str))=false:=by decide)(hcd:(x == ("__classdict__" : Str))=false:=by decide):PE X (.Name x pos) (Zm6 i):=by
 intro pins s σ H Q I h;obtain⟨v,e,h⟩:=h;obtain⟨m,hn,hl⟩:=I.loc;obtain⟨u,r,l⟩:=hl i x v hN e hv;have fin:EP X pins σ Q u s:=⟨v,H,I,r,h⟩;rcases l with⟨hk,hm⟩ | ⟨hk,c,hc,hcell⟩
 ·exact Ux (wpAny_loadName_local I.ok.kind hk hn hm fin) hd
 ·rcases hk with hk | hk
  ·exact Ux (wpAny_loadName_cell I.ok.kind hk hc hcell fin) hd
  ·exact Ux (wpAny_loadName_free I.ok.kind hk hc hcell fin hcd) hd
theorem Znf{i j pos}:PE X (.Constant (.int i) j pos) (tC (.int i)):=fun _ _ _ H _ I h=>wpAny_Constant_int ⟨.int i,H,I.tok _,⟨_,rfl⟩,h⟩
theorem ZlN{b j pos}:PE X (.Constant (.bool b) j pos) (tC (.bl b)):=fun _ _ _ H _ I h=>Constant_bool ⟨.bl b,H,I,rfl,h⟩
theorem ZlL{x j pos}:PE X (.Constant (.str x) j pos) (tC (.str x)):=fun _ _ _ H _ I h=>Calls.Constant_str ⟨.str x,H,I.tok _,⟨_,rfl⟩,h⟩
def Gl(X:Cx)(x:Str):Prop:=X.env.kindOf x=some .globalImplicit
theorem Zkr{E:P6->P0->Prop}{pins:List (Addr×Obj)}{s:P0}{σ:St}{H:Hp}{x:Str}{u:P6}{pos:Pos}{Q:P6->P0->Prop}(I:Inv X pins σ H s)(hg:Gl X x)(hm:X.mg x=some u)(h:Q u s)
  (hd:(x == ("__debug__" : Str))=false:=by decide):wpAny (model X.prog X.w) X.A (eval (.Name x pos) X.env) Q E s :=
 Calls.Name_function_global I.ok.kind hg (Calls.loadGlobal_global (by rw[I.ok.glob]; exact I.mod.glob.keeps I.bk) hm h) hd
theorem ZaY{E:P6->P0->Prop}{pins:List (Addr×Obj)}{s:P0}{σ:St}{H:Hp}{x:Str}{u:P6}{pos:Pos}{Q:P6->P0->Prop}(I:Inv X pins σ H s)(hg:Gl X x)(hm:X.mg x=none)(hv:bootBuiltins x=some u)(h:Q u s)
  (hn:x≠"__name__":=by decide) (hd:(x == ("__debug__" : Str))=false:=by decide):wpAny (model X.prog X.w) X.A (eval (.Name x pos) X.env) Q E s:=by
 obtain⟨mb,h1,h2⟩:=I.mod.blt;exact Calls.Name_function_global I.ok.kind hg (Calls.loadGlobal_builtin (by rw[I.ok.glob]; exact I.mod.glob.keeps I.bk) hm (by rw[I.ok.blt]; exact h1.keeps I.bk) ((h2 x hn).trans hv) h) hd
variable{a b:Expr}{ta tb:TE}{pos:Pos}
def tB(t:TE):TT:=fun σ H Q=>t σ H fun x H1 => ∃c,x = .bl c/\Q c H1
theorem Zki{e:Expr}{t:TE}(h:PE X e t)(he:∀whole,isTrue e X.env whole=(do let v <-whole; standAt e.pos; holding [v] (truthy v)):=by intro _; rfl):PT X e (tB t):=by
 intro pins s σ H Q I hw;refine isTrue_plain (thn (h pins s σ H _ I hw) fun v s1 ⟨x,H1,I1,r1,q1⟩ => ?_) (he _);obtain⟨d,rfl,q⟩:=q1;cases r1;exact Ut ⟨H1,I1,q⟩
variable{tA tB':TT}{rest:List Expr}
def ZlH(t u:TT):TT:=fun σ H Q=>t σ H fun c H1=>if c=true then u σ H1 Q else Q false H1
def ZlJ(t:TT):TT:=fun σ H Q=>t σ H fun c H1=>Q (!c) H1
theorem Zpm(ha:PT X a tA):PW X (.BoolOp .And [a] pos) tA:=by
 intro wh pins s σ H Q I h;refine isTrue_and (thn (ha pins s σ H Q I h) fun c s1 e => ?_);cases c with
 | true=>exact isTrue_and_nil e
 | false=>exact e
theorem ZnA(ha:PT X a tA)(hb:PW X (.BoolOp .And (b :: rest) pos) tB'):PW X (.BoolOp .And (a :: b :: rest) pos) (ZlH tA tB'):=by
 intro wh pins s σ H Q I h;refine isTrue_and (thn (ha pins s σ H _ I h) fun c s1 ⟨H1,I1,q1⟩ => ?_);cases c with
 | true=>exact hb wh pins s1 σ H1 Q I1 q1
 | false=>exact⟨H1,I1,q1⟩
theorem ZoF(ha:PT X a tA):PT X (.UnaryOp .Not a pos) (ZlJ tA):=by
 intro pins s σ H Q I h;exact isTrue_not (ha pins s σ H (fun c H1=>Q (!c) H1) I h)
def Zk2(ta tb:TE):TE:=fun σ H Q=>ta σ H fun x H1 => ∃c,x = .bl c/\if c=true then tb σ H1 Q else Q (.bl false) H1
theorem Zol{op}{t:TE}(h:PE X a t):PE X (.BoolOp op [a] pos) t:=fun pins s σ H Q I hw=>BoolOp_one (h pins s σ H Q I hw)
theorem ZkX(ha:PE X a ta)(hb:PE X (.BoolOp .And (b :: rest) pos) tb):PE X (.BoolOp .And (a :: b :: rest) pos) (Zk2 ta tb):=by
 intro pins s σ H Q I h;refine BoolOp_and (thn (ha pins s σ H _ I h) fun v s1 ⟨x,H1,I1,r1,q1⟩ => ?_);obtain⟨c,rfl,q1⟩:=q1;cases r1;refine Ut ?_;cases c with
 | true=>exact hb pins s1 σ H1 Q I1 q1
 | false=>exact⟨.bl false,H1,I1,rfl,q1⟩
end
def SqL(K:P1)(H:Hp)(a:Addr)(xs:List V):Prop :=
 Rd H a (.lst xs) \/
  ∃(o:Obj) (its:Array P6) (n:Nat),K.lookup a=some o/\o.cls = .type "list"/\o.dict=none/\o.data = .seq its n/\its.size<=sizeLine/\Vals xs its.toList
def SqT(K:P1)(H:Hp)(a:Addr)(xs:List V):Prop :=
 Rd H a (.tup xs) \/
  ∃(o:Obj) (its:Array P6) (n:Nat),K.lookup a=some o/\o.cls = .type "tuple"/\o.data = .seq its n/\its.size<=sizeLine/\Vals xs its.toList
def ZoA:P6->Option V
 | .none=>some .non
 | .bool b=>some (.bl b)
 | .int i _=>some (.int i)
 | .str x _=>some (.str x)
 | .bytes b _=>some (.byt b)
 | .float b _=>some (.flt b)
 | .ref a=>some (.ref a)
 | .type n=>some (.ty n)
 | _=>none
theorem RelV.abs{x:V}{u:P6}(r:RelV x u):ZoA u=some x:=by
 cases x with
 | non=>cases r; rfl
 | bl _=>cases r; rfl
 | int _=>obtain⟨t,rfl⟩:=r; rfl
 | str _=>obtain⟨t,rfl⟩:=r; rfl
 | byt _=>obtain⟨t,rfl⟩:=r; rfl
 | flt _=>obtain⟨t,rfl⟩:=r; rfl
 | ref _=>cases r; rfl
 | ty _=>cases r; rfl
theorem RelV.inj{x y:V}{u:P6}(r:RelV x u)(q:RelV y u):x=y:=Option.some.inj (r.abs.symm.trans q.abs)
theorem Vals.inj:∀{xs ys:List V} {us:List P6},Vals xs us->Vals ys us->xs=ys
 | _,_,_,.nil,.nil=>rfl
 | _,_,_,.cons r t,.cons r' t'=>by rw[r.inj r',Vals.inj t t']
section
variable{X:Cx}{pins:List (Addr×Obj)}{σ:St}{H:Hp}{s:P0}{a:Addr}{xs ys:List V}
theorem SqL.of{K:P1}(h:H a=some (.lst xs)):SqL K H a xs:=.inl (.inl h)
theorem SqT.of{K:P1}(h:H a=some (.tup xs)):SqT K H a xs:=.inl (.inl h)
theorem Inv.list(I:Inv X pins σ H s)(h:SqL X.K H a xs):∃its:List P6,Vals xs its/\PlainL s.heap a its.toArray/\xs.length<=sizeLine:=by
 rcases h with h | ⟨o,its,n,hk,hc,hd,hs,hz,r⟩
 ·obtain⟨z,its,n,r,e⟩:=h.ok I.hok;exact⟨its,r,⟨_,n,e,rfl,rfl,rfl⟩,z⟩
 ·refine⟨its.toList,r,⟨o,n,I.kIn a o hk,hc,hd,by simpa using hs⟩,?_⟩;have e:=r.length;simp only[YO] at e;omega
theorem Inv.tuple(I:Inv X pins σ H s)(h:SqT X.K H a xs):∃its:List P6,Vals xs its/\IsTup s.heap a its.toArray/\xs.length<=sizeLine:=by
 rcases h with h | ⟨o,its,n,hk,hc,hs,hz,r⟩
 ·obtain⟨z,its,r,p,_⟩:=h.ok I.hok;exact⟨its,r,p,z⟩
 ·refine⟨its.toList,r,⟨o,I.kIn a o hk,hc,n,by simpa using hs⟩,?_⟩;have e:=r.length;simp only[YO] at e;omega
theorem Inv.list_inj(I:Inv X pins σ H s)(h:SqL X.K H a xs)(h':SqL X.K H a ys):xs=ys:=by
 obtain⟨its,r,⟨o,n,e,_,_,d⟩,_⟩:=I.list h;obtain⟨its',r',⟨o',n',e',_,_,d'⟩,_⟩:=I.list h';rw[e] at e'; cases e';rw[d] at d';injection d' with d1 _;have:its=its':=by simpa using congrArg Array.toList d1
 subst this;exact r.inj r'
theorem Inv.tuple_inj(I:Inv X pins σ H s)(h:SqT X.K H a xs)(h':SqT X.K H a ys):xs=ys:=by
 obtain⟨its,r,⟨o,e,_,n,d⟩,_⟩:=I.tuple h;obtain⟨its',r',⟨o',e',_,n',d'⟩,_⟩:=I.tuple h';rw[e] at e'; cases e';rw[d] at d';injection d' with d1 _;have:its=its':=by simpa using congrArg Array.toList d1
 subst this;exact r.inj r'
end
noncomputable abbrev Cx.wish(X:Cx)(E:P6->P0->Prop):Cx:={ X with xe:=E }
noncomputable abbrev Cx.nox(X:Cx):Cx:=X.wish fun _ _=>False
theorem Cx.Ok.wish{X:Cx}(ok:X.Ok)(E:P6->P0->Prop):(X.wish E).Ok :=
 ⟨ok.mod,ok.kind,ok.glob,ok.blt,ok.above,ok.inj,ok.has,ok.cab,ok.hd,ok.frames,ok.stk,ok.exf,ok.bs,ok.bsz,ok.noex,ok.exfs,ok.funs,ok.frf⟩
theorem Cx.Ok.unwish{X:Cx}{E:P6->P0->Prop}(ok:(X.wish E).Ok):X.Ok :=
 ⟨ok.mod,ok.kind,ok.glob,ok.blt,ok.above,ok.inj,ok.has,ok.cab,ok.hd,ok.frames,ok.stk,ok.exf,ok.bs,ok.bsz,ok.noex,ok.exfs,ok.funs,ok.frf⟩
section
variable{X:Cx}{pins:List (Addr×Obj)}{σ:St}{H:Hp}{s:P0}{E:P6->P0->Prop}
theorem Inv.wish(I:Inv X pins σ H s)(E:P6->P0->Prop):Inv (X.wish E) pins σ H s:=⟨I.ok.wish E,I.os,I.bare,I.base,I.loc,I.cell,I.free,I.freeC,I.pin,I.hok,I.len⟩
theorem Inv.unwish(I:Inv (X.wish E) pins σ H s):Inv X pins σ H s:=⟨I.ok.unwish,I.os,I.bare,I.base,I.loc,I.cell,I.free,I.freeC,I.pin,I.hok,I.len⟩
theorem SP.unwish{D:Ends}{f:Flow}{s':P0}(h:SP (X.wish E) pins D f s'):SP X pins D f s':=by
 cases f with
 | next=>obtain⟨σ',H',I,q⟩:=h; exact⟨σ',H',I.unwish,q⟩
 | brk=>obtain⟨σ',H',I,q⟩:=h; exact⟨σ',H',I.unwish,q⟩
 | cont=>obtain⟨σ',H',I,q⟩:=h; exact⟨σ',H',I.unwish,q⟩
 | ret u=>obtain⟨v,σ',H',I,r,q⟩:=h; exact⟨v,σ',H',I.unwish,r,q⟩
theorem PSs.nox{st:List Stmt}{t:TS}(h:PSs X.nox st t):PSs X st t:=fun pins s σ H D I hw =>
 YM (h pins s σ H D (I.wish _) hw) (fun _ _ q=>q.unwish) fun _ _ z=>False.elim z
end
section
variable{X:Cx}{st:Stmt}{rest:List Stmt}{t u:TS}{e:Expr}{te:TE}{pos:Pos}
def ZlZ:TS:=fun D σ H=>D.nx σ H
def ZmU(t u:TS):TS:=fun D σ H=>t { D with nx:=u D } σ H
theorem Zqc:PSs X [] ZlZ:=fun _ _ σ H _ I h=>wpAny_execs_nil ⟨σ,H,I,h⟩
theorem Zms(h1:PS X st t)(h2:PSs X rest u):PSs X (st :: rest) (ZmU t u):=by
 intro pins s σ H D I h;refine wpAny_execs_cons (thn (h1 pins s σ H { D with nx:=u D } I h) fun f s1 q => ?_);cases f with
 | next =>
  obtain⟨σ',H',I',q⟩:=q;exact h2 pins s1 σ' H' D I' q
 | ret v=>exact q
 | brk=>exact q
 | cont=>exact q
theorem ZoE(h1:PS X st t):PSs X [st] t:=by
 intro pins s σ H D I h;refine wpAny_execs_cons (thn (h1 pins s σ H D I h) fun f s1 q => ?_);cases f with
 | next=>exact wpAny_execs_nil q
 | ret v=>exact q
 | brk=>exact q
 | cont=>exact q
theorem Inv.quiet{pins:List (Addr×Obj)}{σ:St}{H:Hp}{s:P0}(I:Inv X pins σ H s):interactive X.env=false:=by simp[interactive,I.ok.kind]
def Zob(te:TE):TS:=fun D σ H=>te σ H fun _ H1=>D.nx σ H1
theorem Zk4(he:PE X e te)(hs:swapsWith e none pos.line X.env=pure false:=by rfl):PS X (.Expr e pos) (Zob te):=by
 intro pins s σ H D I h;exact wpAny_Expr_any (thn (he pins s σ H _ I h) fun v s1 ⟨x,H1,I1,r1,q1⟩=>⟨σ,H1,I1,q1⟩) I.quiet hs
def Zqm(te:TE):TS:=fun D σ H=>te σ H D.rt
theorem Zop(he:PE X e te):PS X (.Return (some e) pos) (Zqm te):=by
 intro pins s σ H D I h;exact wpAny_Return_some (thn (he pins s σ H _ I h) fun v s1 ⟨x,H1,I1,r1,q1⟩=>⟨x,σ,H1,I1,r1,q1⟩)
def ZnY(c:TT)(t u:TS):TS:=fun D σ H=>c σ H fun b H1=>if b=true then t D σ H1 else u D σ H1
theorem ZkQ{c:Expr}{a b:List Stmt}{tc:TT}(hc:PT X c tc)(ha:PSs X a t)(hb:PSs X b u):PS X (.If c a b pos) (ZnY tc t u):=by
 intro pins s σ H D I h;refine wpAny_If (thn (hc pins s σ H _ I h) fun d s1 ⟨H1,I1,q1⟩ => ?_);cases d with
 | true=>exact ha pins s1 σ H1 D I1 q1
 | false=>exact hb pins s1 σ H1 D I1 q1
end
noncomputable abbrev TG:=V->St->Hp->(St->Hp->Prop)->Prop
noncomputable abbrev TGs:=List V->St->Hp->(St->Hp->Prop)->Prop
def PG(X:Cx)(target:Expr)(t:TG):Prop :=
 ∀(pins:List (Addr×Obj)) (s:P0) (σ:St) (H:Hp) (v:V) (u:P6) (Q:St->Hp->Prop),Inv X pins σ H s->RelV v u->t v σ H Q ->
  wpAny (model X.prog X.w) X.A (assign target X.env u) (fun _ s' => ∃σ' H',Inv X pins σ' H' s'/\Q σ' H') X.xe s
def PGs(X:Cx)(ts:List Expr)(t:TGs):Prop :=
 ∀(pins:List (Addr×Obj)) (s:P0) (σ:St) (H:Hp) (vs:List V) (us:List P6) (Q:St->Hp->Prop),Inv X pins σ H s->Vals vs us->t vs σ H Q ->
  wpAny (model X.prog X.w) X.A (assignInOrder ((assignEach ts X.env).map (·.2)) us) (fun _ s' => ∃σ' H',Inv X pins σ' H' s'/\Q σ' H') X.xe s
section
variable{X:Cx}{pos:Pos}
def ZiL(i:Nat):TG:=fun v σ H Q=>Q (σ.set i (some v)) H
theorem ZjZ{i:Nat}{x:Str}(hN:X.N.Nodup)(hi:X.N[i]?=some x)(hx:Loc X.env.scope x)(hf:X.fn x=true\/X.env.scope.names.lookup x=some .local:=by first | exact .inl rfl | exact .inr rfl | assumption):PG X (.Name x pos) (ZiL i):=by
 intro pins s σ H v u Q I r h;exact wpAny_assign_Name (Zhl I hN hi hx r (fun s' I'=>⟨_,H,I',h⟩) hf)
def ZpG:TGs:=fun vs σ H Q=>vs=[]/\Q σ H
def Zov(t:TG)(u:TGs):TGs:=fun vs σ H Q => ∃v r,vs=v :: r/\t v σ H fun σ' H'=>u r σ' H' Q
theorem Zn5:PGs X [] ZpG:=by
 intro pins s σ H vs us Q I r h;obtain⟨e,h⟩:=h;subst e;cases r;exact assignInOrder_nil ⟨σ,H,I,h⟩
theorem ZmS{e:Expr}{es:List Expr}{t:TG}{u:TGs}(h1:PG X e t)(h2:PGs X es u)
  (hs:(assignEach (e :: es) X.env).map (·.2)=assign e X.env :: (assignEach es X.env).map (·.2):=by rfl):PGs X (e :: es) (Zov t u):=by
 intro pins s σ H vs us Q I r h;obtain⟨v,vr,e1,h⟩:=h;subst e1;cases r with
 | cons r rr =>
  rw[hs];refine assignInOrder_cons (thn (h1 pins s σ H _ _ _ I r h) fun _ s1 ⟨σ1,H1,I1,q1⟩ => ?_);exact h2 pins s1 σ1 H1 _ _ Q I1 rr q1
def ZpX(K:P1)(n:Nat)(t:TGs):TG:=fun v σ H Q => ∃a xs,v = .ref a/\SqT K H a xs/\xs.length=n/\t xs σ H Q
theorem ZpQ{es:List Expr}{k:Nat}{t:TGs}{n:Nat}(hc:X.calm=true)(h:PGs X es t)
  (hn:(assignEach es X.env).length=n:=by rfl) (hst:(assignEach es X.env).findIdx? (·.1)=none:=by rfl):PG X (.Tuple es k pos) (ZpX X.K n t):=by
 intro pins s σ H v u Q I r hw;obtain⟨a,xs,e1,hq,hl,hw⟩:=hw;subst e1;cases r;obtain⟨its,rv,ht,hz⟩:=I.tuple hq;refine assign_Tuple_tuple (I.ok.hd hc) ht (by simp[hn,<-hl,rv.length]) hst fun h' hx => ?_;have I1:Inv X pins σ H { s with heap:=h' }:=I.kept (t':=s.toks) fun b o e=>hx b o (Yr (Yk e)) e;exact h pins _ σ H xs _ Q I1 (by simpa using rv) hw
def ZmJ(te:TE)(g:TG):TS:=fun D σ H=>te σ H fun x H1=>g x σ H1 D.nx
theorem ZjI{i:Nat}{x:Str}{e:Expr}{te:TE}{pos':Pos}(hN:X.N.Nodup)(hi:X.N[i]?=some x)(hx:Loc X.env.scope x)(he:PE X e te)(hs:swapsWith e (some (.Name x pos')) pos.line X.env=pure false:=by rfl)(hf:X.fn x=true\/X.env.scope.names.lookup x=some .local:=by first | exact .inl rfl | exact .inr rfl | assumption) :
  PS X (.Assign [.Name x pos'] e pos) (ZmJ te (ZiL i)):=by
 intro pins s σ H D I h;refine wpAny_Assign_Name (thn (he pins s σ H _ I h) fun v s1 ⟨y,H1,I1,r1,q1⟩ => ?_) hs;exact Zhl I1 hN hi hx r1 (fun s2 I2=>⟨_,H1,I2,q1⟩) hf
end
structure It where
 go:Nat->Hp->Prop
 yld:Nat->Hp->V->Hp->Prop
 stop:Nat->Hp->Prop
def Zay(X:Cx)(pins:List (Addr×Obj))(H:Hp)(b:Addr):Prop :=
 H b=none/\b≠X.env.locals/\b ∉ X.fs/\(b∈X.ex\/X.s₀.heap.objs.size<=b)/\(∀x c,X.env.cells.lookup x=some c->c≠b)/\∀p∈X.pn++pins,p.1≠b
theorem Inv.fpOk{X:Cx}{pins:List (Addr×Obj)}{σ:St}{H H':Hp}{s:P0}{b:Addr}(I:Inv X pins σ H s)(hb:s.heap.objs.size<=b)(hn:H' b=none):Zay X pins H' b:=by
 refine⟨hn,WK (Yq I.lt hb),I.nofs hb,.inr (YH I.sz hb),fun x c e z => ?_,fun p hp z => ?_⟩
 ·obtain⟨v,q⟩:=I.cell x c e;exact absurd (Yq q.lt (by rw[z]; exact hb)) (YY _)
 ·exact absurd (Yq (Yk (I.pin p hp).1) (by rw[z]; exact hb)) (YY _)
structure Turn(P:P4)(w:World)(K:P1)(tg:Expr)(J:It)(fp:List Addr)(it:Addr)(tn:Nat->Heap->Prop):Prop where
 mem:it∈fp
 obj:∀i h,tn i h->∀b∈fp,∃o,h.get? b=some o/\∀v,o.data≠.cell v
 keep:∀i h h',tn i h->(∀b∈fp,∀o,h.get? b=some o->h'.get? b=some o)->tn i h'
 item:∀(X:Cx),X.prog=P->X.w=w->X.K=K->X.calm=true->∀(i:Nat) (pins:List (Addr×Obj)) (s:P0) (σ:St) (H:Hp) (E:P6->P0->Prop),Inv X pins σ H s->(∀b∈fp,Zay X pins H b)->tn i s.heap->J.go i H ->
  wpAny (model P w) X.A (pyNext (.ref it)) (fun r s1 => ∃u,r=some u /\
   wpAny (model P w) X.A (letOwnedTupleGo tg (.ref it) u) (fun _ s2 => ∃x H',Inv X pins σ H' s2/\RelV x u/\J.yld i H x H'/\tn (i+1) s2.heap/\∀b∈fp,H' b=none) E s1) E s
 done:∀(X:Cx),X.prog=P->X.w=w->X.K=K->X.calm=true->∀(i:Nat) (pins:List (Addr×Obj)) (s:P0) (σ:St) (H:Hp) (E:P6->P0->Prop),Inv X pins σ H s->(∀b∈fp,Zay X pins H b)->tn i s.heap->J.stop i H ->
  wpAny (model P w) X.A (pyNext (.ref it)) (fun r s1=>r=none/\Inv X pins σ H s1) E s
 self:∀(A:P3) (i:Nat) (s:P0) (Q:P6->P0->Prop) (E:P6->P0->Prop),tn i s.heap->Q (.ref it) s->wpAny (model P w) A (pyIter (.ref it)) Q E s
noncomputable abbrev TI:=St->Hp->(It->Hp->Prop)->Prop
def PIE(X:Cx)(pins:List (Addr×Obj))(σ:St)(tg:Expr)(R:It->Hp->Prop)(itv:P6)(s2:P0):Prop :=
 ∃(it:Addr) (fp:List Addr) (tn:Nat->Heap->Prop) (J:It) (H':Hp),itv = .ref it/\Inv X pins σ H' s2/\Turn X.prog X.w X.K tg J fp it tn/\tn 0 s2.heap/\(∀b∈fp,Zay X pins H' b)/\R J H'
def PI(X:Cx)(tg iter:Expr)(wi:TI):Prop :=
 ∀(pins:List (Addr×Obj)) (s:P0) (σ:St) (H:Hp) (R:It->Hp->Prop),Inv X pins σ H s->wi σ H R ->
  wpAny (model X.prog X.w) X.A (eval iter X.env) (fun v s1=>wpAny (model X.prog X.w) X.A (pyIter v) (PIE X pins σ tg R) X.xe s1) X.xe s
theorem Zen{M:Model}{A:P3}{E:P6->P0->Prop}{s:P0}{tg:Expr}{it:Addr}{u:P6}{o:Obj}{n:String}{vs:Array P6}{Q:Unit->P0->Prop}(ho:s.heap.get? it=some o)(hc:o.cls = .type n)(hd:o.data = .fields vs)
    (hn:["enumerate", "zip", "dict_itemiterator", "dict_reverseitemiterator", "odict_iterator", "itertools.zip_longest", "itertools.pairwise"].contains n=false) (hQ:Q () s):wpAny M A (letOwnedTupleGo tg (.ref it) u) Q E s:=by
  unfold letOwnedTupleGo;cases tg <;> first
    | exact Yb hQ
    | (cases u <;> first
        | exact Yb hQ
        | (refine Ya (Uy ho ?_)
           rw[hc,hd];show wpAny M A (if (["enumerate", "zip", "dict_itemiterator", "dict_reverseitemiterator", "odict_iterator", "itertools.zip_longest", "itertools.pairwise"].contains n && vs[0]? == some (rawInt _))=true then _ else _) Q E s;rw[Yh (by intro h; rw[hn,Uh] at h; cases h)];exact Yb hQ))
def Itl(K:P1)(a:Addr):It :=
 ⟨fun i H => ∃xs x,SqL K H a xs/\xs[i]?=some x,fun i H x H'=>H'=H/\∀xs,SqL K H a xs->xs[i]?=some x,fun i H => ∃xs,SqL K H a xs/\xs.length<=i⟩
def Itt(K:P1)(a:Addr):It :=
 ⟨fun i H => ∃xs x,SqT K H a xs/\xs[i]?=some x,fun i H x H'=>H'=H/\∀xs,SqT K H a xs->xs[i]?=some x,fun i H => ∃xs,SqT K H a xs/\xs.length<=i⟩
def Itr(lo:Int)(n:Nat):It:=⟨fun i _=>i<n,fun i H x H'=>H'=H/\x = .int (lo+i),fun i _=>n<=i⟩
theorem ZoY{P:P4}{w:World}{K:P1}{tg:Expr}(a it:Addr):Turn P w K tg (Itl K a) [it] it (fun i h=>h.IsListIter it a i) where
 mem:=by simp
 obj:=fun i h st b hb=>by
  have e:b=it:=by simpa using hb
  subst e;obtain⟨o,e,c,d⟩:=st;exact⟨o,e,fun v z=>by rw[d] at z; cases z⟩
 keep:=fun i h h' st k=>st.at fun o e=>k it (by simp) o e
 item:=by
  intro X hP hw hK hc i pins s σ H E I hf st hg;subst hP hw hK;obtain⟨xs,x,hq,hx⟩:=hg;obtain⟨its,rv,p,hz⟩:=I.list hq;obtain⟨u,hu,ru⟩:=rv.get hx;obtain⟨f0,f1,f2,f3,f4,f5⟩:=hf it (by simp);refine wpAny_pyNext_list_item st p.isList (x:=u) (by simpa using hu) fun h' st' sb => ?_;have I1:Inv X pins σ H { s with heap:=h' }:=I.turned (t':=s.toks) (fun b o hb e=>(sb.2 b hb).trans e) f0 f1 f3 f4 f5;obtain⟨o,e,c,d⟩:=id st';exact⟨u,rfl,Zen (s:={ s with heap:=h' }) e c d (by decide) ⟨x,H,I1,ru,⟨rfl,fun ys hy=>by rw[I.list_inj hy hq]; exact hx⟩,st',fun b hb=>(hf b hb).1⟩⟩
 done:=by
  intro X hP hw hK hc i pins s σ H E I hf st hg;subst hP hw hK;obtain⟨xs,hq,hx⟩:=hg;obtain⟨its,rv,p,hz⟩:=I.list hq;obtain⟨f0,f1,f2,f3,f4,f5⟩:=hf it (by simp);have hl:=rv.length;exact wpAny_pyNext_list_end (I.ok.hd hc) st p.isList (by simp; omega) fun h' eb=>⟨rfl,I.turned (t':=s.toks) (fun b o hb e=>eb b o hb e) f0 f1 f3 f4 f5⟩
 self:=fun _ _ _ _ _ st h=>wpAny_pyIter_listiter st h
theorem Zm1{P:P4}{w:World}{K:P1}{tg:Expr}(a it:Addr):Turn P w K tg (Itt K a) [it] it (fun i h=>h.IsTupleIter it a i) where
 mem:=by simp
 obj:=fun i h st b hb=>by
  have e:b=it:=by simpa using hb
  subst e;obtain⟨o,e,c,d⟩:=st;exact⟨o,e,fun v z=>by rw[d] at z; cases z⟩
 keep:=fun i h h' st k=>st.at fun o e=>k it (by simp) o e
 item:=by
  intro X hP hw hK hc i pins s σ H E I hf st hg;subst hP hw hK;obtain⟨xs,x,hq,hx⟩:=hg;obtain⟨its,rv,p,hz⟩:=I.tuple hq;obtain⟨u,hu,ru⟩:=rv.get hx;obtain⟨f0,f1,f2,f3,f4,f5⟩:=hf it (by simp);refine wpAny_pyNext_tuple_item st (show s.heap.IsTuple a its.toArray from p) (x:=u) (by simpa using hu) fun h' st' sb => ?_;have I1:Inv X pins σ H { s with heap:=h' }:=I.turned (t':=s.toks) (fun b o hb e=>(sb.2 b hb).trans e) f0 f1 f3 f4 f5;obtain⟨o,e,c,d⟩:=id st';exact⟨u,rfl,Zen (s:={ s with heap:=h' }) e c d (by decide) ⟨x,H,I1,ru,⟨rfl,fun ys hy=>by rw[I.tuple_inj hy hq]; exact hx⟩,st',fun b hb=>(hf b hb).1⟩⟩
 done:=by
  intro X hP hw hK hc i pins s σ H E I hf st hg;subst hP hw hK;obtain⟨xs,hq,hx⟩:=hg;obtain⟨its,rv,p,hz⟩:=I.tuple hq;obtain⟨f0,f1,f2,f3,f4,f5⟩:=hf it (by simp);have hl:=rv.length;exact wpAny_pyNext_tuple_end (I.ok.hd hc) st (show s.heap.IsTuple a its.toArray from p) (by simp; omega) fun h' eb=>⟨rfl,I.turned (t':=s.toks) (fun b o hb e=>eb b o hb e) f0 f1 f3 f4 f5⟩
 self:=fun _ _ _ _ _ st h=>wpAny_pyIter_tupleiter st h
theorem ZmB{P:P4}{w:World}{K:P1}{tg:Expr}(it:Addr)(lo:Int)(n:Nat):Turn P w K tg (Itr lo n) [it] it (fun i h=>IsRangeIter h it (lo+(i:Nat) * 1) ((n:Int) - (i:Nat)) 1) where
 mem:=by simp
 obj:=fun i h st b hb=>by
  have e:b=it:=by simpa using hb
  subst e;exact⟨_,st,fun v z=>by
   have z':Data.fields _=Data.cell v:=z;cases z'⟩
 keep:=fun i h h' st k=>k it (by simp) _ st
 item:=by
  intro X hP hw hK hc i pins s σ H E I hf st hg;subst hP hw hK;obtain⟨f0,f1,f2,f3,f4,f5⟩:=hf it (by simp);have W:=Walks.range (prog:=X.prog) (w:=X.w) (I.ok.hd hc) it lo 1 n;refine W.item i s _ _ hg st fun v h' tk hv st' kk => ?_;obtain⟨t,rfl⟩:=hv;have I1:Inv X pins σ H { s with heap:=h',toks:=tk }:=I.turned (fun b o hb e=>kk b o (by simpa using hb) e) f0 f1 f3 f4 f5;refine⟨_,rfl,Zen (s:={ s with heap:=h',toks:=tk }) (n:="range_iterator") st' rfl rfl (by decide) ⟨.int (lo+i),H,I1,⟨t,?_⟩,⟨rfl,rfl⟩,st',fun b hb=>(hf b hb).1⟩⟩;rw[Int.mul_one]
 done:=by
  intro X hP hw hK hc i pins s σ H E I hf st hg;subst hP hw hK;obtain⟨f0,f1,f2,f3,f4,f5⟩:=hf it (by simp);exact wpAny_pyNext_range_end (I.ok.hd hc) st (by have:n<=i:=hg; omega) fun h' eb=>⟨rfl,I.turned (t':=s.toks) (fun b o hb e=>eb b o hb e) f0 f1 f3 f4 f5⟩
 self:=fun _ _ _ _ _ st h=>wpAny_pyIter_rangeiter st h
section
variable{X:Cx}{tg:Expr}
def Zql(K:P1)(tl:TE):TI:=fun σ H R=>tl σ H fun x H1 => ∃a,x = .ref a/\(∃xs,SqL K H1 a xs)/\R (Itl K a) H1
def ZpN(K:P1)(tl:TE):TI:=fun σ H R=>tl σ H fun x H1 => ∃a,x = .ref a/\(∃xs,SqT K H1 a xs)/\R (Itt K a) H1
theorem Zkc{l:Expr}{tl:TE}(hl:PE X l tl):PI X tg l (Zql X.K tl):=by
 intro pins s σ H R I h;refine thn (hl pins s σ H _ I h) fun v s1 ⟨x,H1,I1,r1,q1⟩ => ?_;obtain⟨a,e,⟨xs,hq⟩,q⟩:=q1;subst e;cases r1;obtain⟨its,rv,p,hz⟩:=I1.list hq;refine Q6 p.isList ?_;refine⟨s1.heap.objs.size,[s1.heap.objs.size],_,_,H1,rfl,I1.kept (t':=s1.toks) fun b o e=>Yc _ e,ZoY a _,⟨_,Ym _ rfl,rfl,rfl⟩,fun b hb => ?_,q⟩;have e:b=s1.heap.objs.size:=by simpa using hb
 subst e;exact I1.fpOk (Yj _) (I1.hok.fresh (Yj _))
theorem Zpd{l:Expr}{tl:TE}(hl:PE X l tl):PI X tg l (ZpN X.K tl):=by
 intro pins s σ H R I h;refine thn (hl pins s σ H _ I h) fun v s1 ⟨x,H1,I1,r1,q1⟩ => ?_;obtain⟨a,e,⟨xs,hq⟩,q⟩:=q1;subst e;cases r1;obtain⟨its,rv,p,hz⟩:=I1.tuple hq;refine wpAny_pyIter_tuple (show s1.heap.IsTuple a its.toArray from p) ?_;refine⟨s1.heap.objs.size,[s1.heap.objs.size],_,_,H1,rfl,I1.kept (t':=s1.toks) fun b o e=>Yc _ e,Zm1 a _,⟨_,Ym _ rfl,rfl,rfl⟩,fun b hb => ?_,q⟩;have e:b=s1.heap.objs.size:=by simpa using hb
 subst e;exact I1.fpOk (Yj _) (I1.hok.fresh (Yj _))
theorem ZoT{pins:List (Addr×Obj)}{σ:St}{H:Hp}{s:P0}{R:It->Hp->Prop}{E:P6->P0->Prop}{lo hi:Int}{t u v:Tok}{tk:Nat}(I:Inv X pins σ H s)(h1 : -(2 ^ 62)<=lo)(h2:lo<2 ^ 62)(h3 : -(2 ^ 62)<=hi)(h4:hi<2 ^ 62)
  (q:R (Itr lo (hi - lo).toNat) H):wpAny (model X.prog X.w) X.A (pyIter (.ref s.heap.objs.size)) (PIE X pins σ tg R) E { s with heap:=s.heap.push { cls:=.type "range",data:=.fields #[.int lo t,.int hi u,.int 1 v] },toks:=tk }:=by
 refine wpAny_pyIter_range (IsRange.new ..) (small_one h1 h2 h3 h4) ?_;have I1:Inv X pins σ H { s with heap:=s.heap.push { cls:=.type "range",data:=.fields #[.int lo t,.int hi u,.int 1 v] },toks:=tk }:=I.kept fun b o e=>Yc _ e;refine⟨(s.heap.push { cls:=.type "range",data:=.fields #[.int lo t,.int hi u,.int 1 v] }).objs.size,[(s.heap.push { cls:=.type "range",data:=.fields #[.int lo t,.int hi u,.int 1 v] }).objs.size],_,_,H,rfl,
  I1.kept (t':=tk) fun b o e=>Yc _ e,ZmB _ lo (hi - lo).toNat,?_,fun b hb => ?_,q⟩
 ·have e1:lo+((0:Nat):Int) * 1=lo:=by simp
  have e2:(((hi - lo).toNat:Nat):Int) - ((0:Nat):Int)=Builtin.Range.rangeSize lo hi 1:=by rw[rangeSize_one]; split <;> omega
  show IsRangeIter _ _ (lo+((0:Nat):Int) * 1) ((((hi - lo).toNat:Nat):Int) - ((0:Nat):Int)) 1;rw[e1,e2];exact Ym _ rfl
 ·have e:b=(s.heap.push { cls:=.type "range",data:=.fields #[.int lo t,.int hi u,.int 1 v] }).objs.size:=by simpa using hb
  subst e;exact I1.fpOk (Yj _) (I1.hok.fresh (Yj _))
def Zlm(ta:TA):TI:=fun σ H R=>ta σ H fun vs H1 => ∃j:Int,vs=[.int j]/\-(2 ^ 62)<=j/\j<2 ^ 62/\R (Itr 0 j.toNat) H1
theorem ZpV{a:Expr}{ta:TA}{p pos:Pos}(hg:Gl X "range")(hm:X.mg "range" = none)(ha:PA X [a] ta)(hs:starEach [a] X.env=[(false,eval a X.env)]:=by rfl):PI X tg (.Call (.Name "range" p) [a] [] pos) (Zlm ta):=by
 intro pins s σ H R I h;refine Call_ (ZaY I hg hm boot_range (Ww (thn (ha pos pins s σ H _ I h) fun us s1 ⟨vs,H1,I1,r1,q1⟩ => ?_) hs rfl));obtain⟨j,e,q1,q2,q⟩:=q1;subst e;cases r1 with
 | cons r rr =>
  cases rr;obtain⟨t,rfl⟩:=r;exact call_range_1 (ZoT I1 (by omega) (by omega) q1 q2 (by simpa using q))
def Zqy(wi:TI)(g:TG)(tb:TS):TS:=fun D σ H=>wi σ H fun J H1 => ∃W:Nat->Nat->St->Hp->Prop,(∃m,W 0 m σ H1)/\∀i m σ H,W i m σ H ->
 (J.stop i H/\D.nx σ H)\/(J.go i H/\∃N:St->Hp->Prop,(∀σ' H',N σ' H'->∃m',m' < m/\W (i+1) m' σ' H')/\∀x H',J.yld i H x H'->g x σ H' fun σ2 H2=>tb { D with nx:=N,ct:=N,bk:=D.nx } σ2 H2)
def ZaA(fp:List Addr)(h:Heap):List (Addr×Obj):=fp.filterMap fun b=>(h.get? b).map fun o=>(b,o)
theorem ZdM{fp:List Addr}{h:Heap}{b:Addr}{o:Obj}(hb:b∈fp)(e:h.get? b=some o):(b,o)∈ZaA fp h:=List.mem_filterMap.mpr ⟨b,hb,by rw[e]; rfl⟩
theorem ZhU{fp:List Addr}{h:Heap}{p:Addr×Obj}(hp:p∈ZaA fp h):p.1∈fp/\h.get? p.1=some p.2:=by
 obtain⟨b,hb,e⟩:=List.mem_filterMap.mp hp;cases q:h.get? b with
 | none=>rw[q] at e; cases e
 | some o =>
  rw[q] at e;have e':(b,o)=p:=Option.some.inj e;subst e';exact⟨hb,q⟩
theorem Inv.pinned{pins:List (Addr×Obj)}{σ:St}{H:Hp}{s:P0}{fp:List Addr}(I:Inv X pins σ H s)(hf:∀b∈fp,Zay X pins H b)(ho:∀b∈fp,∃o,s.heap.get? b=some o/\∀v,o.data≠.cell v):Inv X (pins++ZaA fp s.heap) σ H s :=
 I.pins_of fun p hp=>(YR.mp hp).elim (fun z=>I.pin p (YU _ z)) fun z=>by
  obtain⟨hb,e⟩:=ZhU z;obtain⟨f0,f1,f2,_⟩:=hf p.1 hb;obtain⟨o,e',d⟩:=ho p.1 hb;rw[e] at e'; cases e';exact⟨e,f0,f1,f2,d⟩
theorem Inv.unpinned{pins pl:List (Addr×Obj)}{σ:St}{H:Hp}{s:P0}(I:Inv X (pins++pl) σ H s):Inv X pins σ H s:=I.pins_of fun p hp=>I.pin p (YU _ (Wx _ hp))
theorem ZkS{iter:Expr}{body:List Stmt}{wi:TI}{g:TG}{tb:TS}{pos:Pos}(hp:PassesOwn (model X.prog X.w) X.A X.env X.xe)(hc:X.calm=true)(hi:PI X tg iter wi)(hg:PG X tg g)(hb:PSs X body tb)
  (hs:∀x,foldedSetIterable iter X.env x=pure x:=by intro _; rfl):PS X (.For tg iter body [] pos) (Zqy wi g tb):=by
 intro pins s σ H D I h;refine wpAny_For (thn (hi pins s σ H _ I h) fun v s1 h1=>thn h1 fun itv s2 h2 => ?_) hs;obtain⟨it,fp,tn,J,H2,e,I2,T,st2,f2,W,⟨m0,w0⟩,turn⟩:=h2;subst e;have stat:∀{H':Hp},(∀b∈fp,H' b=none)->∀b∈fp,Zay X pins H' b:=fun hn b hb=>⟨hn b hb,(f2 b hb).2⟩;refine codeAny_forLoop_any (fun n s' => ∃i σ' H',Inv X pins σ' H' s'/\tn i s'.heap/\(∀b∈fp,H' b=none)/\W i n σ' H') ?_ m0 ⟨0,σ,H2,I2,st2,fun b hb=>(f2 b hb).1,w0⟩;rintro n s3 ⟨i,σ3,H3,I3,st3,fr3,w3⟩;rcases turn i n σ3 H3 w3 with⟨stop,qn⟩ | ⟨go,N,hN,step⟩
 ·refine Vo hp (thn (T.done X rfl rfl rfl hc i pins s3 σ3 H3 X.xe I3 (stat fr3) st3 stop) fun r s4 ⟨hr,I4⟩ => ?_);subst hr;exact wpAny_execs_nil ⟨σ3,H3,I4,qn⟩
 ·refine Vo hp (thn (T.item X rfl rfl rfl hc i pins s3 σ3 H3 X.xe I3 (stat fr3) st3 go) fun r s4 ⟨u,hr,h4⟩ => ?_);subst hr;refine Vo hp (thn h4 fun _ s5 ⟨x,H5,I5,r5,y5,st5,fr5⟩ => ?_);have I5':=I5.pinned (stat fr5) (T.obj _ _ st5);refine Vo hp (thn (hg _ s5 σ3 H5 x u _ I5' r5 (step x H5 y5)) fun _ s6 ⟨σ6,H6,I6,q6⟩ => ?_);refine Vo hp (thn (hb _ s6 σ6 H6 _ I6 q6) fun f s7 q7 => ?_);have again:∀{σ7:St} {H7:Hp},Inv X (pins++ZaA fp s5.heap) σ7 H7 s7->N σ7 H7->∃m,m<n/\∃i σ' H',Inv X pins σ' H' s7/\tn i s7.heap/\(∀b∈fp,H' b=none)/\W i m σ' H':=fun {σ7 H7} I7 n7=>by
   obtain⟨m',hm,w7⟩:=hN σ7 H7 n7;refine⟨m',hm,i+1,σ7,H7,I7.unpinned,T.keep _ _ _ st5 fun b hb o e=>(I7.pin (b,o) (YU _ (YU _ (ZdM hb e)))).1,fun b hb => ?_,w7⟩;obtain⟨o,e,d⟩:=T.obj _ _ st5 b hb;exact (I7.pin (b,o) (YU _ (YU _ (ZdM hb e)))).2.1
  cases f with
  | next=>obtain⟨σ7,H7,I7,n7⟩:=q7; exact again I7 n7
  | cont=>obtain⟨σ7,H7,I7,n7⟩:=q7; exact again I7 n7
  | brk=>obtain⟨σ7,H7,I7,q7⟩:=q7; exact⟨σ7,H7,I7.unpinned,q7⟩
  | ret v=>obtain⟨x7,σ7,H7,I7,r7,q7⟩:=q7; exact⟨x7,σ7,H7,I7.unpinned,r7,q7⟩
end
noncomputable abbrev R2:=V->V->Hp->VK->Prop
def OpR(X:Cx)(f:P6->P6->Sem P6)(r:R2):Prop :=
 ∀(pins:List (Addr×Obj)) (s:P0) (σ:St) (H:Hp) (x y:V) (v u:P6) (Q:VK),Inv X pins σ H s->RelV x v->RelV y u->r x y H Q ->
  wpAny (model X.prog X.w) X.A (f v u) (EP X pins σ Q) X.xe s
def UnR(X:Cx)(f:P6->Sem P6)(r:V->Hp->VK->Prop):Prop :=
 ∀(pins:List (Addr×Obj)) (s:P0) (σ:St) (H:Hp) (x:V) (v:P6) (Q:VK),Inv X pins σ H s->RelV x v->r x H Q ->
  wpAny (model X.prog X.w) X.A (f v) (EP X pins σ Q) X.xe s
def Za5(X:Cx)(f:P6)(r:List V->Hp->VK->Prop):Prop :=
 ∀(pins:List (Addr×Obj)) (s:P0) (σ:St) (H:Hp) (xs:List V) (us:List P6) (Q:VK),Inv X pins σ H s->Vals xs us->r xs H Q ->
  wpAny (model X.prog X.w) X.A (call f us) (EP X pins σ Q) X.xe s
def tOp(r:R2)(ta tb:TE):TE:=fun σ H Q=>ta σ H fun x H1=>tb σ H1 fun y H2=>r x y H2 Q
def tUn(r:V->Hp->VK->Prop)(ta:TE):TE:=fun σ H Q=>ta σ H fun x H1=>r x H1 Q
def rI(C:Int->Int->Prop)(g:Int->Int->V):R2:=fun x y H Q => ∃i j,x = .int i/\y = .int j/\C i j/\Q (g i j) H
def rI0(g:Int->Int->V):R2:=fun x y H Q => ∃i j,x = .int i/\y = .int j/\Q (g i j) H
def rU(g:Int->V):V->Hp->VK->Prop:=fun x H Q => ∃i,x = .int i/\Q (g i) H
section
variable{X:Cx}{a b c:Expr}{ta tb tc:TE}{pos:Pos}
theorem Zgf(ha:PE X a ta)(hb:PE X b tb){pins:List (Addr×Obj)}{s:P0}{σ:St}{H:Hp}{R:V->V->Hp->Prop}(I:Inv X pins σ H s)
  (h:ta σ H fun x H1=>tb σ H1 fun y H2=>R x y H2) {Q:P6->P0->Prop} {f:P6->P6->Sem P6}
  (hf:∀v u s2 x y H2,Inv X pins σ H2 s2->RelV x v->RelV y u->R x y H2->wpAny (model X.prog X.w) X.A (f v u) Q X.xe s2) :
  wpAny (model X.prog X.w) X.A (eval a X.env) (fun v s₁=>wpAny (model X.prog X.w) X.A (eval b X.env) (fun u s₂=>wpAny (model X.prog X.w) X.A (f v u) Q X.xe s₂) X.xe s₁) X.xe s:=by
 refine thn (ha pins s σ H _ I h) fun v s1 ⟨x,H1,I1,r1,q1⟩ => ?_;refine thn (hb pins s1 σ H1 _ I1 q1) fun u s2 ⟨y,H2,I2,r2,q2⟩ => ?_;exact hf v u s2 x y H2 I2 r1 r2 q2
theorem Zif{op:Operator}{r:R2}(ho:OpR X (binaryOp op) r)(ha:PE X a ta)(hb:PE X b tb):PE X (.BinOp a op b pos) (tOp r ta tb):=by
 intro pins s σ H Q I h;exact wpAny_BinOp (Zgf ha hb I h fun v u s2 x y H2 I2 rx ry q=>ho pins s2 σ H2 x y v u Q I2 rx ry q)
theorem Zp3{op:UnaryOp}{r:V->Hp->VK->Prop}(ho:UnR X (unaryOp op) r)(ha:PE X a ta):PE X (.UnaryOp op a pos) (tUn r ta):=by
 intro pins s σ H Q I h;exact UnaryOp_ (thn (ha pins s σ H _ I h) fun v s1 ⟨x,H1,I1,r1,q1⟩=>ho pins s1 σ H1 x v Q I1 r1 q1)
theorem opI{f:P6->P6->Sem P6}{C:Int->Int->Prop}{g:Int->Int->Int}
  (rule:∀(i j:Int) (t u:Tok) (s:P0) (Q:P6->P0->Prop) (E:P6->P0->Prop),C i j->Q (.int (g i j) s.toks) { s with toks:=s.toks+1 }->wpAny (model X.prog X.w) X.A (f (.int i t) (.int j u)) Q E s) :
  OpR X f (rI C fun i j => .int (g i j)):=by
 intro pins s σ H x y v u Q I rx ry h;obtain⟨i,j,rfl,rfl,hc,q⟩:=h;obtain⟨t,rfl⟩:=rx;obtain⟨t',rfl⟩:=ry;exact rule i j t t' s _ _ hc ⟨.int (g i j),H,I.tok _,⟨_,rfl⟩,q⟩
theorem ZgN{f:P6->P6->Sem P6}{g:Int->Int->Int}
  (rule:∀(i j:Int) (t u:Tok) (s:P0) (Q:P6->P0->Prop) (E:P6->P0->Prop),Q (.int (g i j) s.toks) { s with toks:=s.toks+1 }->wpAny (model X.prog X.w) X.A (f (.int i t) (.int j u)) Q E s) :
  OpR X f (rI0 fun i j => .int (g i j)):=by
 intro pins s σ H x y v u Q I rx ry h;obtain⟨i,j,rfl,rfl,q⟩:=h;obtain⟨t,rfl⟩:=rx;obtain⟨t',rfl⟩:=ry;exact rule i j t t' s _ _ ⟨.int (g i j),H,I.tok _,⟨_,rfl⟩,q⟩
theorem ZqM{f:P6->P6->Sem P6}{g:Int->Int->Bool}
  (rule:∀(i j:Int) (t u:Tok) (s:P0) (Q:P6->P0->Prop) (E:P6->P0->Prop),Q (.bool (g i j)) s->wpAny (model X.prog X.w) X.A (f (.int i t) (.int j u)) Q E s) :
  OpR X f (rI0 fun i j => .bl (g i j)):=by
 intro pins s σ H x y v u Q I rx ry h;obtain⟨i,j,rfl,rfl,q⟩:=h;obtain⟨t,rfl⟩:=rx;obtain⟨t',rfl⟩:=ry;exact rule i j t t' s _ _ ⟨.bl (g i j),H,I,rfl,q⟩
def Zp2(i j:Int):Prop:=0<j/\j<1073741824
def CMul(i j:Int):Prop:=(-(2 ^ 64)<i/\i<2 ^ 64)\/(-(2 ^ 64)<j/\j<2 ^ 64)
theorem CMul.ok{i j:Int}(h:CMul i j):IntMulOk i j:=by
 rcases h with⟨h1,h2⟩ | ⟨h1,h2⟩
 ·exact .of_left (intBits_le_64 h1 h2)
 ·exact .of_right (intBits_le_64 h1 h2)
theorem Zmp:OpR X (binaryOp .Add) (rI0 fun i j => .int (i+j)):=ZgN fun _ _ _ _ _ _ _ q=>add_int q
theorem Zpx:OpR X (binaryOp .Sub) (rI0 fun i j => .int (i - j)):=ZgN fun _ _ _ _ _ _ _ q=>sub_int q
theorem Znk:OpR X (binaryOp .Mult) (rI CMul fun i j => .int (i * j)):=opI fun _ _ _ _ _ _ _ hc q=>mul_int q hc.ok
theorem Zmj:OpR X (binaryOp .FloorDiv) (rI Zp2 fun i j => .int (i / j)):=opI fun i j _ _ _ _ _ hc q=>by
 have h1:(0:Int)<j:=hc.1;have h2:j<1073741824:=hc.2;exact floordiv_int (by omega) (by rw[Int.fdiv_eq_ediv_of_nonneg i (by omega)]; exact q) (.inl (PyProof.noPylong_small (by omega)))
theorem Zlw:OpR X (binaryOp .Mod) (rI (fun _ j=>0<j) fun i j => .int (i % j)):=opI fun i j _ _ _ _ _ hc q=>by
 have h1:(0:Int)<j:=hc;exact mod_int' (by omega) (by rw[Int.fmod_eq_emod_of_nonneg i (by omega)]; exact q)
theorem unI{f:P6->Sem P6}{g:Int->Int}
  (rule:∀(i:Int) (t:Tok) (s:P0) (Q:P6->P0->Prop) (E:P6->P0->Prop),Q (.int (g i) s.toks) { s with toks:=s.toks+1 }->wpAny (model X.prog X.w) X.A (f (.int i t)) Q E s) :
  UnR X f (rU fun i => .int (g i)):=by
 intro pins s σ H x v Q I rx h;obtain⟨i,rfl,q⟩:=h;obtain⟨t,rfl⟩:=rx;exact rule i t s _ _ ⟨.int (g i),H,I.tok _,⟨_,rfl⟩,q⟩
theorem ZkD:UnR X (unaryOp .USub) (rU fun i => .int (-i)):=unI fun _ _ _ _ _ q=>neg_int q
end
section
variable{X:Cx}{a b c:Expr}{ta tb tc:TE}{pos:Pos}
theorem ZkH:OpR X (compareOp .Gt) (rI0 fun i j => .bl (decide (j<i))):=ZqM fun _ _ _ _ _ _ _ q=>gt_int q
theorem Zim(b:Expr){op:CmpOp}(h:op≠.In:=by decide)(h2:op≠.NotIn:=by decide):behindInMarks op b=false:=by
 have e1:(op == CmpOp.In)=false:=by cases op <;> first | rfl | exact absurd rfl h
 have e2:(op == CmpOp.NotIn)=false:=by cases op <;> first | rfl | exact absurd rfl h2
 cases b <;> simp[behindInMarks,e1,e2]
theorem ZnS{op:CmpOp}{r:R2}(ho:OpR X (compareOp op) r)(ha:PE X a ta)(hb:PE X b tb)(hm:behindInMarks op b=false):PE X (.Compare a [op] [b] pos) (tOp r ta tb):=by
 intro pins s σ H Q I h;exact wpAny_Compare1 (Zgf ha hb I h fun v u s2 x y H2 I2 rx ry q=>ho pins s2 σ H2 x y v u Q I2 rx ry q) hm
def ZpE(t:TE):TT:=fun σ H Q=>t σ H fun x H' => ∃k,x = .bl k/\Q k H'
theorem ZmQ{op:CmpOp}{r:R2}(ho:OpR X (compareOp op) r)(ha:PE X a ta)(hb:PE X b tb)(hm:behindInMarks op b=false):PT X (.Compare a [op] [b] pos) (ZpE (tOp r ta tb)):=by
 intro pins s σ H Q I h;refine wpAny_isTrue_Compare1 (thn (ha pins s σ H _ I h) fun v s1 ⟨x,H1,I1,r1,q1⟩=>thn (hb pins s1 σ H1 _ I1 q1) fun u s2 ⟨y,H2,I2,r2,q2⟩ =>
  thn (ho pins s2 σ H2 x y v u _ I2 r1 r2 q2) fun c s3 ⟨z,H3,I3,r3,k,e,q3⟩ => ?_) hm
 subst e;cases r3;exact Ut ⟨H3,I3,q3⟩
theorem Zcr:(sizeLine:Nat)<2 ^ 63:=by rw[YN]; decide
theorem ZlO:OpR X (binaryOp .Add) (fun x y H Q => ∃i j,x = .str i/\y = .str j/\i.length+j.length<=sizeLine/\Q (.str (i++j)) H):=by
 intro pins s σ H x y v u Q I rx ry h;obtain⟨i,j,rfl,rfl,hz,q⟩:=h;obtain⟨t,rfl⟩:=rx;obtain⟨t',rfl⟩:=ry;exact add_str (fun t' tk=>⟨.str (i++j),H,I.tok _,⟨_,rfl⟩,q⟩) hz
theorem vals1{x:V}{us:List P6}(r:Vals [x] us):∃u,us=[u]/\RelV x u:=by
 cases r with
 | cons r1 r2=>cases r2; exact⟨_,rfl,r1⟩
theorem vals2{x y:V}{us:List P6}(r:Vals [x,y] us):∃u w',us=[u,w']/\RelV x u/\RelV y w':=by
 cases r with
 | cons r1 r2 =>
  cases r2 with
  | cons r3 r4=>cases r4; exact⟨_,_,rfl,r1,r3⟩
theorem Zkh(hc:X.calm=true):Za5 X (.builtin "max") (fun xs H Q => ∃i j,xs=[.int i,.int j]/\Q (.int (if j > i then j else i)) H):=by
 intro pins s σ H xs us Q I r h;obtain⟨i,j,rfl,q⟩:=h;obtain⟨u,w',rfl,⟨t,rfl⟩,⟨t',rfl⟩⟩:=vals2 r;refine max_two_ints (I.ok.hd hc) fun h' tk k=>⟨_,H,I.kept k,?_,q⟩;by_cases hj:j > i
 ·rw[Yi hj,Yi hj]; exact⟨_,rfl⟩
 ·rw[Yh hj,Yh hj]; exact⟨_,rfl⟩
end
structure ObjM(h:Heap)(x dx C:Addr)(mA:Str->Option P6):Prop where
 obj:h.get? x=some (PySem.W.instObj C dx)
 ns:h.Ns1 dx mA
 ne:dx≠x
def ZdA(f:Str)(v:V):List (Str×V)->List (Str×V)
 | []=>[(f,v)]
 | (g,x) :: r=>if g=f then (g,v) :: r else (g,x) :: ZdA f v r
theorem RelO.some_of{v:V}{o:Option P6}(r:RelO (some v) o):∃u,o=some u/\RelV v u:=by
 cases o with
 | none=>exact (show False from r).elim
 | some u=>exact⟨u,rfl,r⟩
structure Cls(K:P1)(C:Addr):Prop where
 pg:PySem.W.plainGet K C Str.empty=true
 hd:PySem.W.hasDictIn K C=true
 po:PySem.W.plainOver K C=true
 sa:PySem.W.findIn K (.ref C) "__setattr__" = some (some (.builtin "object.__setattr__"))
structure Con(K:P1)(C:Addr)(f:Str)(v:V)(u:P6):Prop where
 at_:PySem.W.findIn K (.ref C) f=some (some u)
 rel:RelV v u
 get:PySem.W.specialIn K u "__get__" = some none
 cp:PySem.W.copiedNames.contains f=false
structure Meth(K:P1)(C:Addr)(m:Str)(f:Addr):Prop where
 at_:PySem.W.findIn K (.ref C) m=some (some (.ref f))
 fn:PySem.W.isFn K (.ref f)=true
 kp:PySem.W.keepIn K (.ref f)=true
section
variable{X:Cx}{pins:List (Addr×Obj)}{σ:St}{H:Hp}{s:P0}{A:P3}{E:P6->P0->Prop}{Q:P6->P0->Prop}{c:P6}{b:Bool}
inductive TyOf(K:P1)(H:Hp):V->P6->Prop where
 | non:TyOf K H .non (.type "NoneType")
 | bl (x:Bool):TyOf K H (.bl x) (.type "bool")
 | int (i:Int):TyOf K H (.int i) (.type "int")
 | str (x:Str):TyOf K H (.str x) (.type "str")
 | flt (x:UInt64):TyOf K H (.flt x) (.type "float")
 | lst {a:Addr} {xs:List V} (e:H a=some (.lst xs)):TyOf K H (.ref a) (.type "list")
 | frz {a:Addr} {o:Obj} {xs:List V} (e:H a=some (.frz o (.lst xs))):TyOf K H (.ref a) (.type "list")
 | tup {a:Addr} {xs:List V} (e:H a=some (.tup xs)):TyOf K H (.ref a) (.type "tuple")
 | dK {a:Addr} {kvs:List (Key×V)} (e:H a=some (.dK kvs)):TyOf K H (.ref a) (.type "dict")
 | dT {a:Addr} {kvs:List (List Key×V)} (e:H a=some (.dT kvs)):TyOf K H (.ref a) (.type "dict")
 | ins {a C dx:Addr} {fs:List (Str×V)} (e:H a=some (.ins C dx fs)) (cl:Cls K C) (ha:PySem.W.findIn K (.ref C) "__class__" = some (some (.builtin "object.__class__")))
   (hn:PySem.W.specialIn K (.builtin "object.__class__") "__get__" = some (some (.builtin "getset_descriptor.__get__"))) (htk:PySem.W.takesIn K (.builtin "object.__class__")=some true)
   (hm:PySem.W.mroIn K C (.type "object")=some true):TyOf K H (.ref a) (.ref C)
end
structure Room(k:Nat)(A:P3):Prop where
 hd:A.handled=none
 dp:A.depth+3 * k+5<recursionLimit
 un:A.units+16 * k+200<cLine
theorem Room.mono{j k:Nat}{A:P3}(r:Room k A)(h:j<=k):Room j A:=⟨r.hd,by have:=r.dp; omega,by have:=r.un; omega⟩
theorem Room.deeper{k:Nat}{A:P3}(r:Room (k+1) A)(env:Env):Room k (A.deeper env) :=
 ⟨r.hd,by have:=r.dp; show A.depth+1+3 * k+5<_; omega,by have:=r.un; show A.units+3+16 * k+200<_; omega⟩
theorem Room.depth{k:Nat}{A:P3}(r:Room k A):A.depth<recursionLimit:=by have:=r.dp; omega
theorem Room.units{k:Nat}{A:P3}(r:Room k A):A.units+64<cLine:=by have:=r.un; omega
def ZpF:TA:=fun _ H Q=>Q [] H
def Znc(ta:TE)(tr:TA):TA:=fun σ H Q=>ta σ H fun x H1=>tr σ H1 fun xs H2=>Q (x :: xs) H2
section
variable{X:Cx}{e:Expr}{es:List Expr}{te:TE}{t:TA}{pos:Pos}
theorem ZlQ:PA X [] ZpF:=fun _ _ _ _ H Q I h=>Q7 ⟨[],H,I,.nil,h⟩
theorem ZqK(ha:PE X e te)(hr:PA X es t)(hs:starEach (e :: es) X.env=(false,eval e X.env) :: starEach es X.env:=by rfl):PA X (e :: es) (Znc te t):=by
 intro pos pins s σ H Q I h;rw[hs];show wpAny _ _ (spliced ((false,eval e X.env) :: backTo pos (starEach es X.env))) _ _ s;refine Qn (thn (ha pins s σ H _ I h) fun u s1 ⟨x,H1,I1,r1,q1⟩ => ?_);exact thn (hr pos pins s1 σ H1 _ I1 q1) fun us s2 ⟨xs,H2,I2,r2,q2⟩=>⟨x :: xs,H2,I2,.cons r1 r2,q2⟩
def Zom(t:TA):TE:=fun σ H Q=>t σ H fun xs H1=>xs.length<=sizeLine/\∀p,H1 p=none->Q (.ref p) (upd H1 p (.tup xs))
def Zl2(t:TA):TE:=fun σ H Q=>t σ H fun xs H1=>xs.length<=sizeLine/\∀p,H1 p=none->Q (.ref p) (upd H1 p (.lst xs))
theorem Zoy{x1}(h:PA X es t):PE X (.Tuple es x1 pos) (Zom t):=by
 intro pins s σ H Q I hq;refine wpAny_Tuple_spliced (thn (h pos pins s σ H _ I hq) fun us s1 ⟨xs,H1,I1,r,z,q⟩=>⟨by rw[<-r.length]; exact z,?_⟩);have hf:H1 s1.heap.objs.size=none:=I1.hok.fresh (Yj _);refine⟨.ref s1.heap.objs.size,upd H1 s1.heap.objs.size (.tup xs),I1.laid (t':=s1.toks) (fun b u e=>Yc _ e) (Yj _) ?_,rfl,q _ hf⟩;exact⟨z,us,r,⟨_,Ym _ rfl,rfl,_,rfl⟩,fun o2 e2=>by rw[Ym _ rfl] at e2; cases e2; rfl⟩
theorem Zlb(h:PA X es t):PE X (.List es pos) (Zl2 t):=by
 intro pins s σ H Q I hq;refine wpAny_List_spliced (thn (h pos pins s σ H _ I hq) fun us s1 ⟨xs,H1,I1,r,z,q⟩=>⟨by rw[<-r.length]; exact z,?_⟩);have hf:H1 s1.heap.objs.size=none:=I1.hok.fresh (Yj _);refine⟨.ref s1.heap.objs.size,upd H1 s1.heap.objs.size (.lst xs),I1.laid (t':=s1.toks) (fun b u e=>Yc _ e) (Yj _) ?_,rfl,q _ hf⟩;exact⟨z,us,0,r,Ym _ rfl⟩
end
noncomputable abbrev Sp:=List V->Hp->VK->XK->Prop
noncomputable abbrev CXT:=List Env->Hp->P0->XK->P6->P0->Prop
structure Env0(P:P4)(w:World)(K:P1)(mg:Str->Option P6)(base:Heap)(A:P3)(outer:List Env)(s:P0)(H:Hp):Prop where
 frames:A.frames=some outer
 mod:Mod K mg base
 bs:∀b o,base.get? b=some o->s.heap.get? b=some o/\H b=none
 bsz:base.objs.size<=s.heap.objs.size
 funs:s.heap.FunFrames base outer
 frf:∀b∈frs outer,H b=none
 hok:HOk P w H s.heap
 bare:AllBare s.gens
def CE(outer:List Env)(P:P4)(w:World)(H:Hp)(s:P0)(Q:VK)(u:P6)(s':P0):Prop :=
 ∃v H',s'.os=s.os/\AllBare s'.gens/\Un (frs outer) [] H H' s.heap s'.heap/\HOk P w H' s'.heap/\RelV v u/\Q v H'
def CR(CX:CXT)(outer:List Env)(P:P4)(w:World)(H:Hp)(s:P0)(Q:VK)(E:XK)(r:Result)(s':P0):Prop :=
 match r with
 | .ok (.ret u)=>CE outer P w H s Q u s'
 | .ok _=>False
 | .error e=>CX outer H s E e s'
structure FnOk(P:P4)(w:World)(K:P1)(mg:Str->Option P6)(base:Heap)(CX:CXT)(k:Nat)(f:Addr)(fd:P5)(ps:List Str)(sp:Sp):Prop where
 len:∀vs H Q E,sp vs H Q E->vs.length=ps.length
 run:∀(A:P3) (outer:List Env) (s:P0) (H:Hp) (args:Args) (us:List P6) (vs:List V) (Q:VK) (E:XK),Room k A->Env0 P w K mg base A outer s H->BindsTo s fd args (ps.zip us)->Vals vs us->sp vs H Q E ->
  codeAny (model P w) A (.call (.ref f) args) (CR CX outer P w H s Q E) s
section
variable{X:Cx}{pins:List (Addr×Obj)}{σ:St}{H:Hp}{s s':P0}
theorem Inv.env0(I:Inv X pins σ H s):Env0 X.prog X.w X.K X.mg X.base X.A X.stack s H :=
 ⟨I.ok.frames,I.ok.mod,I.bs,YH I.ok.bsz I.sz,I.stack,I.stkFree,I.hok,I.bare⟩
theorem Inv.after{Q:VK}{u:P6}(I:Inv X pins σ H s)(h:CE X.stack X.prog X.w H s Q u s'):EP X pins σ Q u s':=by
 obtain⟨v,H',os,bare,un,hok,r,q⟩:=h;obtain⟨hh,g,d,t,os'⟩:=s';obtain rfl:os'=s.os:=os;exact⟨v,H',I.call (h':=hh) (g':=g) (d':=d) (t':=t) (ch:=[]) un hok bare (fun b z=>absurd z (by simp)),r,q⟩
end
def ZnI(sp:Sp)(dvs:List V)(E:XK)(t:TA):TE:=fun σ H Q=>t σ H fun vs H1=>sp (vs++dvs) H1 Q E
def Binds(K:P1)(fd:P5)(ps:List Str)(ds:List P6):Prop :=
 ∀(s:P0) (us:List P6),K.In s.heap->(us++ds).length=ps.length->BindsTo s fd ⟨us,[]⟩ (ps.zip (us++ds))
theorem Binds.all{K:P1}{fd:P5}{ps:List Str}(h:∀us:List P6,us.length=ps.length->bindArgs fd ⟨us,[]⟩=pure (ps.zip us)):Binds K fd ps []:=fun s us _ hl=>by
 rw[Qt] at hl ⊢;exact .of_eq (h us hl)
def Passes(CX:CXT)(X:Cx)(E:XK):Prop:=∀(pins:List (Addr×Obj)) (σ:St) (H:Hp) (s:P0) (e:P6) (s':P0),Inv X pins σ H s->CX X.stack H s E e s'->X.xe e s'
section
variable{X:Cx}{CX:CXT}{k:Nat}{f C:Addr}{fd:P5}{ps:List Str}{sp:Sp}{dvs:List V}{ds:List P6}{E:XK}{x m:Str}{p pos apos:Pos}{e o:Expr}{es:List Expr}{ta:TE}{t:TA}
theorem Zp9{pins:List (Addr×Obj)}{σ:St}{H:Hp}{s:P0}{Q:VK}{us:List P6}{vs:List V}(F:FnOk X.prog X.w X.K X.mg X.base CX k f fd ps sp)(hr:Room k X.A)(hb:Binds X.K fd ps ds)(hd:Vals dvs ds)(hx:Passes CX X E)
  (I:Inv X pins σ H s) (r:Vals vs us) (h:sp (vs++dvs) H Q E):wpAny (model X.prog X.w) X.A (call (.ref f) us) (EP X pins σ Q) X.xe s:=by
 have r2:Vals (vs++dvs) (us++ds):=r.append hd;have hl:(us++ds).length=ps.length:=by rw[<-r2.length]; exact F.len _ _ _ _ h
 refine wpAny_call (V8 (F.run X.A X.stack s H ⟨us,[]⟩ (us++ds) (vs++dvs) Q E hr I.env0 (hb s us I.kIn hl) r2 h) fun r s' hq => ?_);cases r with
 | error e=>exact hx pins σ H s e s' I hq
 | ok fl =>
  cases fl with
  | ret u=>exact I.after hq
  | next=>exact False.elim hq
  | brk=>exact False.elim hq
  | cont=>exact False.elim hq
theorem Zng(F:FnOk X.prog X.w X.K X.mg X.base CX k f fd ps sp)(hr:Room k X.A)(hg:Gl X x)(hm:X.mg x=some (.ref f))(hk:PySem.W.keepIn X.K (.ref f)=true)(hb:Binds X.K fd ps ds)(hd:Vals dvs ds)(hx:Passes CX X E)
  (ha:PA X (e :: es) t) (hdb:(x == ("__debug__" : Str))=false:=by decide) (he:starEach (e :: es) X.env=(false,eval e X.env) :: starEach es X.env:=by rfl) (hpl:(backTo pos (starEach es X.env)).any (·.1)=false:=by rfl) :
  PE X (.Call (.Name x p) (e :: es) [] pos) (ZnI sp dvs E t):=by
 intro pins s σ H Q I h;refine W8 (Zkr I hg hm ?_ hdb);refine PySem.W.callWith_K (h₀:=X.base) I.ok.mod.kin hk (thn (ha pos pins s σ H _ I h) fun us s1 ⟨vs,H1,I1,r,q⟩=>⟨I1.kIn,?_⟩) he hpl;exact Zp9 F hr hb hd hx I1 r q
structure Mk(K:P1)(C f:Addr):Prop where
 makes:PySem.W.makesIn K C=true
 init:PySem.W.findIn K (.ref C) "__init__" = some (some (.ref f))
 fn:PySem.W.isFn K (.ref f)=true
 kp:PySem.W.keepIn K (.ref C)=true
end
section
variable{X:Cx}{CX:CXT}{k:Nat}{f C:Addr}{fd:P5}{ps ks:List Str}{sp:Sp}{E:XK}{x m:Str}{p pos apos kpos:Pos}{e o:Expr}{es:List Expr}{kws:List Keyword}{te ta:TE}{t tk:TA}{nm:Option Str}
structure KBinds(K:P1)(fd:P5)(ps ks:List Str)(g:List P6->List P6->List P6)(gV:List V->List V->List V):Prop where
 to:∀(s:P0) (us ws:List P6),K.In s.heap->(g us ws).length=ps.length->BindsTo s fd ⟨us,ks.zip ws⟩ (ps.zip (g us ws))
 rel:∀{vs:List V} {us:List P6} {zs:List V} {ws:List P6},Vals vs us->Vals zs ws->Vals (gV vs zs) (g us ws)
variable{g:List P6->List P6->List P6}{gV:List V->List V->List V}
end
structure FnScope(N P:List Str)(sc:Scope):Prop where
 kind:sc.kind = .function
 co:sc.isCoroutine=false
 gen:sc.isGenerator=false
 nd:N.Nodup
 pre:N.take P.length=P
 par:∀x∈P,sc.names.lookup x=some .local\/sc.names.lookup x=some .cell
 nofree:∀y∈sc.names,y.2≠.free
theorem Zhr{kindOf:Str->Option NameKind}{x:Str}:∀{binds:List (Str×P6)} {m:Str->Option P6},(∀v,(x,v) ∉ binds)->bindL kindOf binds m x=m x
 | [],_,_=>rfl
 | (n,v) :: r,m,h=>by
  unfold bindL;rw[Zhr fun w hw=>h w (Yv _ hw)];split
  ·have:x≠n:=by rintro rfl; exact h v Yz
   simp[this]
  ·rfl
theorem Zhd{kindOf:Str->Option NameKind}{x:Str}:∀{binds:List (Str×P6)} {m:Str->Option P6},(∀v,(x,v) ∉ binds)->bindC kindOf binds m x=m x
 | [],_,_=>rfl
 | (n,v) :: r,m,h=>by
  unfold bindC;rw[Zhd fun w hw=>h w (Yv _ hw)];split
  ·rfl
  ·have:x≠n:=by rintro rfl; exact h v Yz
   simp[this]
theorem Zju{kindOf:Str->Option NameKind}{x:Str}{v:P6}:∀{P:List Str} {vs:List P6} {i:Nat} {m:Str->Option P6},P.Nodup->P[i]?=some x->vs[i]?=some v->kindOf x=some .local ->
  bindL kindOf (P.zip vs) m x=some v
 | [],_,_,_,_,h,_,_=>by simp at h
 | _ :: _,[],_,_,_,_,h,_=>by simp at h
 | p :: P,w :: vs,0,m,nd,h1,h2,hk=>by
  simp at h1 h2; subst h1; subst h2;show bindL kindOf ((p,w) :: P.zip vs) m p=_;unfold bindL;rw[Zhr fun v hv=>(WH.mp nd).1 (UN hv).1,Yi hk];simp
 | p :: P,w :: vs,i+1,m,nd,h1,h2,hk=>by
  show bindL kindOf ((p,w) :: P.zip vs) m x=_;unfold bindL;exact Zju (i:=i) (WH.mp nd).2 (by simpa using h1) (by simpa using h2) hk
theorem Zix{kindOf:Str->Option NameKind}{x:Str}{v:P6}:∀{P:List Str} {vs:List P6} {i:Nat} {m:Str->Option P6},P.Nodup->P[i]?=some x->vs[i]?=some v->kindOf x≠some .local ->
  bindC kindOf (P.zip vs) m x=some v
 | [],_,_,_,_,h,_,_=>by simp at h
 | _ :: _,[],_,_,_,_,h,_=>by simp at h
 | p :: P,w :: vs,0,m,nd,h1,h2,hk=>by
  simp at h1 h2; subst h1; subst h2;show bindC kindOf ((p,w) :: P.zip vs) m p=_;unfold bindC;rw[Zhd fun v hv=>(WH.mp nd).1 (UN hv).1,Yh hk];simp
 | p :: P,w :: vs,i+1,m,nd,h1,h2,hk=>by
  show bindC kindOf ((p,w) :: P.zip vs) m x=_;unfold bindC;exact Zix (i:=i) (WH.mp nd).2 (by simpa using h1) (by simpa using h2) hk
def start(N:List Str)(vs:List V):St:=vs.map some++List.replicate (N.length - vs.length) none
def ZD(CX:CXT)(P:P4)(w:World)(K:P1)(mg:Str->Option P6)(base:Heap)(N:List Str)(qual:Str)(scope:Scope)(f:Addr)(cd:P6)(A:P3)(outer:List Env)(s:P0)(H:Hp)(E:XK):Cx where
 prog:=P
 w:=w
 K:=K
 mg:=mg
 base:=base
 A:=A.deeper (envOfC qual scope s.heap.objs.size f cd)
 N:=N
 s₀:=s
 H₀:=H
 env:=envOfC qual scope s.heap.objs.size f cd
 outer:=outer
 stack:=envOfC qual scope s.heap.objs.size f cd :: outer
 ex:=[]
 calm:=true
 fn:=fun _=>true
 pn:=[]
 xe:=fun e s'=>wpAny (model P w) (A.deeper (envOfC qual scope s.heap.objs.size f cd)) (leaving (envOfC qual scope s.heap.objs.size f cd) e) (fun _ s''=>CX outer H s E e s'') (fun e' s''=>CX outer H s E e' s'') s'
theorem ZgL{sc:Scope}{n:Nat}{x:Str}(h:sc.names.lookup x=some .cell):∃c,(cellsFrom n sc.names []).lookup x=some c:=by
 have q:=PySem.W.cellsFrom_some sc.names n [] (.inl h);exact Option.isSome_iff_exists.mp q
theorem ZnD{CX:CXT}{P:P4}{w:World}{K:P1}{mg:Str->Option P6}{base:Heap}{N ps:List Str}{qual:Str}{scope:Scope}{f:Addr}{cd:P6}{A:P3}{outer:List Env}{s s1:P0}{H:Hp}{E:XK}{us:List P6}{vs:List V}
  (S:FnScope N ps scope) (hd:A.handled=none) (e0:Env0 P w K mg base A outer s H) (hl:vs.length=ps.length) (r:Vals vs us)
  (x:InCallC s s.heap.objs.size (bindL (envOfC qual scope s.heap.objs.size f cd).kindOf (ps.zip us) fun _=>none) (cellsFrom (s.heap.objs.size+1) scope.names []) (bindC (envOfC qual scope s.heap.objs.size f cd).kindOf (ps.zip us) fun _=>none) s1) :
  Inv (ZD CX P w K mg base N qual scope f cd A outer s H E) [] (start N vs) H s1:=by
 have hpl:ps.length<=N.length:=by have:=congrArg List.length S.pre; rw[WL] at this; omega
 obtain⟨h1,tk,rfl,hk⟩:=x.done;have noA:∀b:Addr,b ∉ (ZD CX P w K mg base N qual scope f cd A outer s H E).ex:=fun b z=>absurd (show b∈([]:List Addr) from z) (by simp);refine⟨⟨e0.mod,S.kind,rfl,rfl,Yj _,fun y z c h1 h2 => ?_,fun y hy => ?_,fun y c _ h => ?_,fun _=>hd,Around.frames_deeper e0.frames,.inr ⟨rfl,rfl⟩,fun b z=>absurd z (noA b),e0.bs,e0.bsz,fun b _ _=>noA b,fun b z=>absurd z (noA b),e0.funs,e0.frf⟩,
  rfl,e0.bare,Un.kept hk,⟨_,x.toInCall.ns,fun i y v h1 h2 h3 => ?_⟩,fun y c h=>⟨_,x.cell y c h⟩,e0.hok.fresh (Yj _),fun y c h => ?_,fun p hp=>absurd (show p∈([]:List (Addr×Obj)) from hp) (by simp),e0.hok.kept hk,?_⟩
 ·exact name_of_addr x.apart (QR h1) (QR h2)
 ·have hy:scope.names.lookup y=some .cell\/scope.names.lookup y=some .free:=hy;rcases hy with hy | hy
  ·exact ZgL hy
  ·exact absurd rfl (S.nofree _ (QR hy))
 ·exact V6 (x.above y c (QR h))
 ·have hi:i<vs.length:=by
   unfold start at h2;by_cases hi:i<vs.length
   ·exact hi
   ·rw[Wi (by simpa using hi)] at h2;rw[QS] at h2;split at h2 <;> cases h2
  have ha:vs[i]?=some v:=by
   unfold start at h2;rw[Y6 (by simpa using hi),Yw] at h2;cases e:vs[i]? with
   | none=>rw[e] at h2; cases h2
   | some a=>rw[e] at h2; cases h2; rfl
  obtain⟨u,hu,rv⟩:=r.get ha;have hp:ps[i]?=some y:=by
   rw[<-S.pre,List.getElem?_take_of_lt (by omega)]; exact h1
  have ndP:ps.Nodup:=by rw[<-S.pre]; exact S.nd.sublist (QB _ _)
  refine⟨u,rv,?_⟩;rcases S.par y (Wa hp) with k | k
  ·exact .inl ⟨k,Zju ndP hp hu k⟩
  ·obtain⟨c,e⟩:=ZgL (n:=s.heap.objs.size+1) k;refine .inr ⟨.inl k,c,e,?_⟩;have q:=x.cell y c e;rw[Zix ndP hp hu (by show scope.names.lookup y≠_; rw[k]; decide)] at q;exact q
 ·exact e0.hok.fresh (V6 (x.above y c (QR h)))
 ·unfold start;show _=N.length;rw[WM,Yp,V0];omega
theorem ZiR{CX:CXT}{P:P4}{w:World}{K:P1}{mg:Str->Option P6}{base:Heap}{k:Nat}{f:Addr}{name qual:Str}{params:Arguments}{body:List Stmt}{scope:Scope}{dV kV doc pm cdv ct oc:P6}{an od:Option Addr}
  {osl:Array (Option P6)} {N ps:List Str} {sp:Sp} (lk:K.lookup f=some ⟨oc,od,.func (PySem.W.fnOf name qual params body scope dV kV doc pm an cdv ct),osl⟩) (hcd:PySem.W.codeIn K cdv qual=true) (S:FnScope N ps scope)
  (len:∀vs H Q E,sp vs H Q E->vs.length=ps.length)
  (hbody:∀(A:P3) (outer:List Env) (s:P0) (H:Hp) (vs:List V) (Q:VK) (E:XK),Room k (A.deeper (envOfC qual scope s.heap.objs.size f cdv))->sp vs H Q E ->
   ∃t,PSs (ZD CX P w K mg base N qual scope f cdv A outer s H E) body t/\t { nx:=fun _ H'=>Q .non H',rt:=Q } (start N vs) H) :
  FnOk P w K mg base CX (k+1) f (PySem.W.fnOf name qual params body scope dV kV doc pm an cdv ct) ps sp:=by
 refine⟨len,fun A outer s H args us vs Q E hr e0 hb r hsp => ?_⟩;have hl:=len _ _ _ _ hsp;have KX:K.In s.heap:=e0.mod.kin.keeps fun b o e=>(e0.bs b o e).1;have lim:s.heap.NoLimit:=e0.mod.nolimit.keeps fun b o e=>(e0.bs b o e).1;have hkind:∀y∈ps.zip us,scope.names.lookup y.1=some .local\/(scope.names.lookup y.1=some .cell/\((cellsFrom (s.heap.objs.size+1) scope.names []).lookup y.1).isSome=true):=fun⟨n,v⟩ hy=>by
  rcases S.par n (UN hy).1 with q | q
  ·exact .inl q
  ·exact .inr ⟨q,PySem.W.cellsFrom_some _ _ _ (.inl q)⟩
 refine codeAny_call_function hr.depth (KX _ _ lk) rfl S.co S.gen rfl (PySem.W.codeRec_of KX hcd) (hb _ _ _ _ ?_);refine wpAny_newFunctionEnv_cells S.kind hkind fun env he s1 x => ?_;subst he;refine⟨lim.keeps x.toInCall.keep,codeAny_func ?_⟩;obtain⟨t,ht,hq⟩:=hbody A outer s H vs Q E (hr.deeper _) hsp;have I:Inv (ZD CX P w K mg base N qual scope f cdv A outer s H E) [] (start N vs) H s1:=ZnD S hr.hd e0 hl r x;refine YM (ht [] s1 (start N vs) H _ I hq) (fun fl s' hs => ?_) fun e s' hs=>hs;have fin:∀{σ':St} {H':Hp} {v:V} {u:P6},Inv (ZD CX P w K mg base N qual scope f cdv A outer s H E) [] σ' H' s'->RelV v u->Q v H'->CE outer P w H s Q u s' :=
  fun {σ' H' v u} J rv q=>⟨v,H',J.os,J.bare,J.base,J.hok,rv,q⟩
 cases fl with
 | ret u =>
  obtain⟨v,σ',H',J,rv,q⟩:=hs;exact fin J rv q
 | next =>
  obtain⟨σ',H',J,q⟩:=hs;exact fin (v:=V.non) (u:=Value.none) J rfl q
 | brk =>
  obtain⟨_,_,_,q⟩:=hs;exact False.elim q
 | cont =>
  obtain⟨_,_,_,q⟩:=hs;exact False.elim q
section
variable{X:Cx}{x:Str}{p pos:Pos}{e:Expr}{es:List Expr}{t:TA}{id T:String}{r:List V->Hp->VK->Prop}
def tCB(r:List V->Hp->VK->Prop)(t:TA):TE:=fun σ H Q=>t σ H fun vs H1=>r vs H1 Q
theorem Zhg(hc:Za5 X (.builtin id) r)(hg:Gl X x)(hm:X.mg x=none)(hv:bootBuiltins x=some (.builtin id))(ha:PA X (e :: es) t)(hn:x≠"__name__":=by decide)(hdb:(x == ("__debug__" : Str))=false:=by decide)
  (he:starEach (e :: es) X.env=(false,eval e X.env) :: starEach es X.env:=by rfl) (hpl:(backTo pos (starEach es X.env)).any (·.1)=false:=by rfl):PE X (.Call (.Name x p) (e :: es) [] pos) (tCB r t):=by
 intro pins s σ H Q I h;refine W8 (ZaY I hg hm hv ?_ hn hdb);exact QY (thn (ha pos pins s σ H _ I h) fun us s1 ⟨vs,H1,I1,r1,q1⟩=>hc pins s1 σ H1 vs us Q I1 r1 q1) he hpl
theorem ZgV(hc:Za5 X (.type T) r)(hg:Gl X x)(hm:X.mg x=none)(hv:bootBuiltins x=some (.type T))(ha:PA X (e :: es) t)(hn:x≠"__name__":=by decide)(hdb:(x == ("__debug__" : Str))=false:=by decide)
  (he:starEach (e :: es) X.env=(false,eval e X.env) :: starEach es X.env:=by rfl) (hpl:(backTo pos (starEach es X.env)).any (·.1)=false:=by rfl):PE X (.Call (.Name x p) (e :: es) [] pos) (tCB r t):=by
 intro pins s σ H Q I h;refine W8 (ZaY I hg hm hv ?_ hn hdb);exact Ww (thn (ha pos pins s σ H _ I h) fun us s1 ⟨vs,H1,I1,r1,q1⟩=>hc pins s1 σ H1 vs us Q I1 r1 q1) he hpl
end
end L2
namespace HT
open PySem PyProof.Rows
section
variable{prog:P4}{w:World}{A:P3}{E:P6->P0->Prop}{s:P0}
theorem cat_tup{t b:Addr}{vs ws:List P6}{Q:P6->P0->Prop}(ht:IsTup s.heap t vs.toArray)(hb:IsTup s.heap b ws.toArray)(hv:vs≠[])
  (h1:ws=[]->Q (.ref t) s) (h2:ws≠[]->Q (.ref s.heap.objs.size) { s with heap:=s.heap.push { cls:=.type "tuple",data:=.seq (vs++ws).toArray } })
  (hsz:vs.length+ws.length<=sizeLine):wpAny (model prog w) A (binaryOp .Add (.ref t) (.ref b)) Q E s:=by
 obtain⟨⟨cls,dd,data,sl⟩,ho,hc,n,hd⟩:=id ht;obtain⟨⟨cls2,dd2,data2,sl2⟩,ho2,hc2,n2,hd2⟩:=id hb;simp only at hc hd hc2 hd2;subst hc hd hc2 hd2;have e:vs.toArray++ws.toArray=(vs++ws).toArray:=by simp
 by_cases hw:ws=[]
 ·exact concat_meets ⟨_,ho,rfl⟩ ⟨_,ho2,rfl⟩ UC seq_tuple_add VM VE (Vu _ _)
   (tuple_addW1 t b vs.toArray ws.toArray n n2 dd dd2 sl sl2 (by simpa using hv) (by simp[hw])) ⟨ho,ho2,h1 hw⟩
 ·refine concat_meets ⟨_,ho,rfl⟩ ⟨_,ho2,rfl⟩ UC seq_tuple_add VM VE (Vu _ _)
   (tuple_addW2 t b vs.toArray ws.toArray n n2 dd dd2 sl sl2 (by simpa using hv) (by simpa using hw) (by rw[Yn,Yn]; exact hsz)) ⟨ho,ho2,?_⟩
  rw[e];exact h2 hw
def sIx(n d:Nat):Option Int->Nat
 | none=>d
 | some v=>if v<0 then (v+(n:Int)).toNat else min v.toNat n
theorem sIx_none(n d:Nat):sIx n d none=d:=rfl
theorem sIx_nat(n d k:Nat):sIx n d (some (k:Int))=min k n:=by
 show (if (k:Int)<0 then ((k:Int)+(n:Int)).toNat else min (k:Int).toNat n)=min k n;rw[Yh (by omega),Y7]
theorem Zmk(n d:Nat)(hd:d<=n)(o:Option Int):sIx n d o<=n:=by
 cases o with
 | none=>exact hd
 | some v =>
  show (if v<0 then (v+(n:Int)).toNat else min v.toNat n)<=n;by_cases hv:v<0
  ·rw[Yi hv]; omega
  ·rw[Yh hv]; exact Nat.min_le_right _ _
theorem Zj0(v:Int)(n d:Nat):(if v<0 then max (v+(n:Int)) 0 else min v (n:Int))=((sIx n d (some v):Nat):Int):=by
 show (if v<0 then max (v+(n:Int)) 0 else min v (n:Int))=(((if v<0 then (v+(n:Int)).toNat else min v.toNat n):Nat):Int);by_cases hv:v<0
 ·simp only[Yi hv]; omega
 ·simp only[Yh hv]; omega
theorem Zl4(lo hi:Option Int)(n:Nat):Builtin.Slice.sliceAdjust lo hi 1 (n:Int)=(((sIx n 0 lo:Nat):Int),((sIx n n hi:Nat):Int)):=by
 have h1:¬ ((1:Int)<0):=by omega
 unfold Builtin.Slice.sliceAdjust;simp only[h1,Wc];refine Prod.ext ?_ ?_
 ·cases lo with
  | none=>rfl
  | some v=>exact Zj0 v n 0
 ·cases hi with
  | none=>rfl
  | some v=>exact Zj0 v n n
theorem Zoz(i j:Nat):Builtin.Slice.slicePlaces (i:Int) (j:Int) 1=j - i:=by
 unfold Builtin.Slice.slicePlaces;have h1:(1:Int) > 0:=by omega
 simp only[h1,Wq,Int.ediv_one];split <;> omega
theorem ZiD{v:P6}{o:Option Int}{Q:Option Int->P0->Prop}(p:IsPart v o)(h:Q o s):wpAny (model prog w) A (Builtin.Slice.slicePartIndex v) Q E s:=by
 cases p with
 | none=>exact slicePart_none h
 | int i t=>exact slicePart_int h
theorem Zh4{sl:Addr}{vl vu:P6}{lo hi:Option Int}{n:Nat}{Q:Int×Int×Nat->P0->Prop}(hs:s.heap.IsSliceOf sl vl vu .none)(pl:IsPart vl lo)(pu:IsPart vu hi)
  (h:Q (((sIx n 0 lo:Nat):Int),1,sIx n n hi - sIx n 0 lo) s):wpAny (model prog w) A (Builtin.Slice.sliceApplied (.ref sl) (pure (n:Int))) Q E s:=by
 obtain⟨os,hos,hcs,hds⟩:=id hs;unfold Builtin.Slice.sliceApplied Builtin.Slice.sliceFields;refine Ya (Ya (WQ hos hds (x:=vl) rfl (Ya (WQ hos hds (x:=vu) rfl (Ya (WQ hos hds (x:=.none) rfl (Yb ?_)))))));refine Ya (slicePart_none ?_);show wpAny _ _ (if ((1:Int) == 0)=true then _ else _) _ _ s;rw[Yh (by decide)];refine Ya (ZiD pl (Ya (ZiD pu (Ya (Yb ?_)))));show wpAny _ _ (match Builtin.Slice.sliceAdjust lo hi 1 (n:Int) with | (lo,hi)=>pure (lo,(1:Int),Builtin.Slice.slicePlaces lo hi 1)) _ _ s;rw[Zl4 lo hi n];show wpAny _ _ (pure (((sIx n 0 lo:Nat):Int),(1:Int),Builtin.Slice.slicePlaces ((sIx n 0 lo:Nat):Int) ((sIx n n hi:Nat):Int) 1)) _ _ s;rw[Zoz];exact Yb h
theorem ZpZ(xs:Array P6)(i k:Nat):((List.range k).filterMap fun (m:Nat)=>xs[((i:Int)+(m:Int) * 1).toNat]?).toArray=((xs.toList.drop i).take k).toArray:=by
 have e:(fun (m:Nat)=>xs[((i:Int)+(m:Int) * 1).toNat]?)=fun m=>xs[i+m]?:=by
  funext m;have:((i:Int)+(m:Int) * 1).toNat=i+m:=by omega
  rw[this]
 rw[e];have:=pick_run xs i k;rw[List.filterMap_map] at this;have e2:((fun x=>xs[x]?) ∘ fun x=>i+x)=fun m=>xs[i+m]?:=rfl;rw[e2] at this;rw[this]
theorem getItem_tuple_cut{t sl:Addr}{items:Array P6}{vl vu:P6}{lo hi:Option Int}{Q:P6->P0->Prop}(ht:IsTup s.heap t items)(hs:s.heap.IsSliceOf sl vl vu .none)(pl:IsPart vl lo)(pu:IsPart vu hi)
  (hw:¬ (sIx items.size 0 lo=0/\sIx items.size items.size hi=items.size))
  (h:Q (.ref s.heap.objs.size) { s with heap:=s.heap.push { cls:=.type "tuple",data:=.seq ((items.toList.drop (sIx items.size 0 lo)).take (sIx items.size items.size hi - sIx items.size 0 lo)).toArray } })
  (hsz:items.size<=sizeLine):wpAny (model prog w) A (getItem (.ref t) (.ref sl)) Q E s:=by
 have htake:sizeOk (.seq ((items.toList.drop (sIx items.size 0 lo)).take (sIx items.size items.size hi - sIx items.size 0 lo)).toArray):=by
  show ((items.toList.drop (sIx items.size 0 lo)).take (sIx items.size items.size hi - sIx items.size 0 lo)).toArray.size<=sizeLine;rw[Yn,WL,QL,YO];omega
 have hj:sIx items.size items.size hi<=items.size:=Zmk _ _ (Yj _) hi;obtain⟨os,hos,hcs,hds⟩:=id hs;have hTs:s.TypeIs (.ref sl) "slice":=⟨os,hos,hcs⟩;unfold getItem
 try with_reducible refine Y1 ?_
 first | refine Ya (Yb ?_) | skip
 refine Ya (wpAny_sequenceKey ht.typeIs (by decide) ?_);refine Ya (Y4 (name:=Str.ofString "__getitem__") ht.typeIs Wh
  (YI Wh ht.typeIs entry_tuple_getitem ?_ (args_tuple_getitem _ _)))
 show wpAny _ _ (Builtin.Tuple.tupleItemsOf (.ref t) >>= _) _ _ s;refine Ya (tupleItemsOf_ ht ?_);refine Ya (Q9 hTs ?_);rw[Yi (by decide)];refine Ya (Zh4 hs pl pu ?_);have hno:¬ ((((sIx items.size 0 lo:Nat):Int) == 0 && (1:Int) == 1 && (sIx items.size items.size hi - sIx items.size 0 lo) == items.size)=true):=by
  intro q;rw[YE,YE] at q;have q1:((sIx items.size 0 lo:Nat):Int)=0:=eq_of_beq q.1.1;have q2:sIx items.size items.size hi - sIx items.size 0 lo=items.size:=eq_of_beq q.2;exact hw ⟨by omega,by omega⟩
 show wpAny _ _ (if (((sIx items.size 0 lo:Nat):Int) == 0 && (1:Int) == 1 && (sIx items.size items.size hi - sIx items.size 0 lo) == items.size)=true then _ else _) _ _ s;rw[Yh hno,ZpZ]
 first
  | exact Ya (m:=Builtin.Tuple.tupleExact _) (YZ (Yb ⟨_,rfl,Yb h⟩) htake)
  | exact Ya (m:=Builtin.Tuple.tupleExact _) (YZ (Ya (Yb (Yb ⟨_,rfl,Yb h⟩))) htake)
  | exact Ya (Ya (m:=Builtin.Tuple.tupleExact _) (YZ (Yb (Yb ⟨_,rfl,Yb h⟩)) htake))
  | exact Ya (Ya (m:=Builtin.Tuple.tupleExact _) (YZ (Yb ⟨_,rfl,Yb h⟩) htake))
end
end HT
namespace L2
open PySem PySem.Spec PyProof.Rows
noncomputable abbrev TO:=St->Hp->(Option Int->Hp->Prop)->Prop
def PO(X:Cx)(e:Option Expr)(t:TO):Prop :=
 ∀(pins:List (Addr×Obj)) (s:P0) (σ:St) (H:Hp) (Q:Option Int->Hp->Prop),Inv X pins σ H s->t σ H Q ->
  wpAny (model X.prog X.w) X.A (evalPart e X.env) (fun u s' => ∃o H',Inv X pins σ H' s'/\IsPart u o/\Q o H') X.xe s
def ZnH:TO:=fun _ H Q=>Q none H
def Zli(t:TE):TO:=fun σ H Q=>t σ H fun x H1 => ∃i,x = .int i/\Q (some i) H1
section
variable{X:Cx}{e:Expr}{te:TE}{lo hi:Option Expr}{tl th:TO}{pos p2:Pos}
theorem Zoc:PO X none ZnH:=by
 intro pins s σ H Q I h;rw[evalPart_none];exact Yb ⟨none,H,I,.none,h⟩
theorem ZkI(h:PE X e te):PO X (some e) (Zli te):=by
 intro pins s σ H Q I hw;rw[evalPart_some];refine thn (h pins s σ H _ I hw) fun u s1 ⟨x,H1,I1,r1,q1⟩ => ?_;obtain⟨i,rfl,q⟩:=q1;obtain⟨t,rfl⟩:=r1;exact⟨some i,H1,I1,.int i t,q⟩
def SlR(X:Cx)(r:V->Option Int->Option Int->Hp->VK->Prop):Prop :=
 ∀(pins:List (Addr×Obj)) (s:P0) (σ:St) (H:Hp) (x:V) (v vl vu:P6) (lo hi:Option Int) (sl:Addr) (Q:VK),Inv X pins σ H s->RelV x v->s.heap.IsSliceOf sl vl vu .none->IsPart vl lo->IsPart vu hi->r x lo hi H Q ->
  ∃T id,typeLookup (.type T) "__getitem__" = pure (some (.builtin id))/\s.TypeIs v T/\wpAny (model X.prog X.w) X.A (getItem v (.ref sl)) (EP X pins σ Q) X.xe s
def tSl(r:V->Option Int->Option Int->Hp->VK->Prop)(te:TE)(tl th:TO):TE:=fun σ H Q=>te σ H fun x H1=>tl σ H1 fun l H2=>th σ H2 fun u H3=>r x l u H3 Q
theorem ZgS{r:V->Option Int->Option Int->Hp->VK->Prop}(hr:SlR X r)(he:PE X e te)(hl:PO X lo tl)(hu:PO X hi th):PE X (.Subscript e (.Slice lo hi none p2) pos) (tSl r te tl th):=by
 intro pins s σ H Q I h;refine Subscript_ (thn (he pins s σ H _ I h) fun v s1 ⟨x,H1,I1,r1,q1⟩ => ?_);refine wpAny_Slice (thn (hl pins s1 σ H1 _ I1 q1) fun vl s2 ⟨l,H2,I2,pl,q2⟩=>thn (hu pins s2 σ H2 _ I2 q2) fun vu s3 ⟨u,H3,I3,pu,q3⟩ => ?_);rw[evalPart_none];refine Yb ?_;have I4:Inv X pins σ H3 { s3 with heap:=s3.heap.push { cls:=.type "slice",data:=.fields #[vl,vu,.none] } }:=I3.kept (t':=s3.toks) fun b ob q=>Yc _ q;obtain⟨T,id,hT,ht,hg⟩:=hr pins { s3 with heap:=s3.heap.push { cls:=.type "slice",data:=.fields #[vl,vu,.none] } } σ H3 x v vl vu l u s3.heap.objs.size Q I4 r1 (Heap.IsSliceOf.new ..) pl pu q3;show wpAny (model X.prog X.w) X.A (subscriptTail e (.Slice lo hi none p2) v (.ref s3.heap.objs.size)) (EP X pins σ Q) X.xe { s3 with heap:=s3.heap.push { cls:=.type "slice",data:=.fields #[vl,vu,.none] } };exact tail_any (ops:=[.ref s3.heap.objs.size,v]) ht hT hg (by with_unfolding_all rfl)
def Zbu(xs:List V)(lo hi:Option Int):List V:=(xs.drop (HT.sIx xs.length 0 lo)).take (HT.sIx xs.length xs.length hi - HT.sIx xs.length 0 lo)
theorem Zig(xs:List V)(lo hi:Option Int):(Zbu xs lo hi).length<=xs.length:=by
 unfold Zbu;rw[WL,QL];omega
def Zpt(K:P1):V->Option Int->Option Int->Hp->VK->Prop:=fun x lo hi H Q => ∃a xs,x = .ref a/\SqT K H a xs /\
 ¬ (HT.sIx xs.length 0 lo=0/\HT.sIx xs.length xs.length hi=xs.length)/\∀p,H p=none->Q (.ref p) (upd H p (.tup (Zbu xs lo hi)))
theorem Zo7:SlR X (Zpt X.K):=by
 intro pins s σ H x v vl vu lo hi sl Q I rx hs pl pu h;obtain⟨a,xs,rfl,hx,hw,q⟩:=h;cases rx;obtain⟨its,r,ht,hz⟩:=I.tuple hx;have hlen:its.toArray.size=xs.length:=by rw[Yn]; exact r.length.symm
 refine⟨"tuple",_,Wh.lookup,ht.typeIs,?_⟩;refine HT.getItem_tuple_cut ht hs pl pu (by rw[hlen]; exact hw) ?_ (by rw[hlen]; exact hz);rw[hlen];refine⟨.ref s.heap.objs.size,_,I.laid (t':=s.toks) (o:=.tup (Zbu xs lo hi)) (fun b ob q=>Yc _ q) (Yj _) ?_,rfl,q _ (I.hok.fresh (Yj _))⟩;exact⟨YH (Zig xs lo hi) hz,_,(r.drop (HT.sIx xs.length 0 lo)).take (HT.sIx xs.length xs.length hi - HT.sIx xs.length 0 lo),IsTup.new _ _,fun o2 e2=>by rw[Ym _ rfl] at e2; cases e2; rfl⟩
def ZpH(K:P1):R2:=fun x y H Q => ∃a b xs ys,x = .ref a/\y = .ref b/\SqT K H a xs/\SqT K H b ys/\xs≠[]/\xs.length+ys.length<=sizeLine /\
 (ys=[]->Q (.ref a) H)/\(ys≠[]->∀p,H p=none->Q (.ref p) (upd H p (.tup (xs++ys))))
theorem Vals.nil_iff{xs:List V}{us:List P6}(r:Vals xs us):us=[] ↔ xs=[]:=by
 cases r with
 | nil=>simp
 | cons _ _=>simp
theorem ZmL:OpR X (binaryOp .Add) (ZpH X.K):=by
 intro pins s σ H x y v u Q I rx ry h;obtain⟨a,b,xs,ys,rfl,rfl,ha,hb,hx,hz,q1,q2⟩:=h;cases rx;cases ry;obtain⟨its,r1,p1,_⟩:=I.tuple ha;obtain⟨its2,r2,p2,_⟩:=I.tuple hb;refine HT.cat_tup p1 p2 (fun z=>hx (r1.nil_iff.mp z)) (fun z=>⟨.ref a,H,I,rfl,q1 (r2.nil_iff.mp z)⟩) (fun z => ?_) (by rw[<-r1.length,<-r2.length]; exact hz);refine⟨.ref s.heap.objs.size,_,I.laid (t':=s.toks) (o:=.tup (xs++ys)) (fun b ob q=>Yc _ q) (Yj _) ?_,rfl,q2 (fun w=>z (r2.nil_iff.mpr w)) _ (I.hok.fresh (Yj _))⟩;exact⟨by rw[WM]; exact hz,_,r1.append r2,IsTup.new _ _,fun o2 e2=>by rw[Ym _ rfl] at e2; cases e2; rfl⟩
end
def ixN(n:Nat)(i:Int):Option Nat:=if 0<=i then (if i<n then some i.toNat else none) else if -(n:Int)<=i then some (i+n).toNat else none
def atI{α:Type}(xs:List α)(i:Int):Option α:=(ixN xs.length i).bind fun j=>xs[j]?
theorem Zky{n:Nat}{i:Int}{j:Nat}(h:ixN n i=some j):seqIndex? i n=some j/\j<n/\-(n:Int)<=i/\i<n:=by
 unfold ixN at h;by_cases h0:0<=i
 ·rw[Yi h0] at h;by_cases h1:i<n
  ·rw[Yi h1] at h;have e:i.toNat=j:=Option.some.inj h;exact⟨by rw[seqIndex_of h0 h1,e],by omega,by omega,h1⟩
  ·rw[Yh h1] at h; cases h
 ·rw[Yh h0] at h;by_cases h1 : -(n:Int)<=i
  ·rw[Yi h1] at h;have e:(i+n).toNat=j:=Option.some.inj h;exact⟨by rw[seqIndex_neg (by omega) h1,e],by omega,h1,by omega⟩
  ·rw[Yh h1] at h; cases h
theorem ZfS{α:Type}{xs:List α}{i:Int}{v:α}(h:atI xs i=some v):∃j,seqIndex? i xs.length=some j/\xs[j]?=some v/\j<xs.length/\-(xs.length:Int)<=i/\i<xs.length:=by
 unfold atI at h;cases e:ixN xs.length i with
 | none=>rw[e] at h; cases h
 | some j =>
  rw[e] at h;obtain⟨h1,h2,h3,h4⟩:=Zky e;exact⟨j,h1,h,h2,h3,h4⟩
theorem Zfo{α:Type}{xs:List α}{j:Nat}{v:α}(h:xs[j]?=some v):atI xs (j:Int)=some v:=by
 have hj:j<xs.length:=(Yo.mp h).1;have e:ixN xs.length (j:Int)=some j:=by
  unfold ixN;rw[Yi (by omega),Yi (by omega)]; simp
 unfold atI; rw[e]; exact h
def ZgY(b:Expr):Prop:=∀o i,subscripted b false o i=operate [o,i] (getItem o i)
def IxR(X:Cx)(r:R2):Prop :=
 ∀(value slice:Expr) (pins:List (Addr×Obj)) (s:P0) (σ:St) (H:Hp) (x y:V) (v u:P6) (Q:VK),Inv X pins σ H s->RelV x v->RelV y u->r x y H Q ->
  subscripted slice false v u=operate [v,u] (getItem v u)->wpAny (model X.prog X.w) X.A (subscriptTail value slice v u) (EP X pins σ Q) X.xe s
def MtR(X:Cx)(id:String)(r:V->List V->Hp->VK->Prop):Prop :=
 ∀(pins:List (Addr×Obj)) (s:P0) (σ:St) (H:Hp) (x:V) (xs:List V) (v:P6) (us:List P6) (Q:VK),Inv X pins σ H s->RelV x v->Vals xs us->r x xs H Q ->
  wpAny (model X.prog X.w) X.A (call (.builtin id) (v :: us)) (EP X pins σ Q) X.xe s
section
variable{X:Cx}{a b:Expr}{ta tb:TE}{pos:Pos}
theorem ZmX{r:R2}(hr:IxR X r)(ha:PE X a ta)(hb:PE X b tb)(hs:ZgY b):PE X (.Subscript a b pos) (tOp r ta tb):=by
 intro pins s σ H Q I h;exact Subscript_ (Zgf ha hb I h fun v u s2 x y H2 I2 rx ry q=>hr a b pins s2 σ H2 x y v u Q I2 rx ry q (hs _ _))
def Zk6(K:P1):R2:=fun x y H Q => ∃p xs i v,x = .ref p/\y = .int i/\SqL K H p xs/\atI xs i=some v/\Q v H
def Zj4(K:P1):R2:=fun x y H Q => ∃p xs i v,x = .ref p/\y = .int i/\SqT K H p xs/\atI xs i=some v/\Q v H
def Zqk:R2:=fun x y H Q => ∃z i c,x = .str z/\y = .int i/\z.length<=sizeLine/\atI z.cps.toList i=some c/\Q (.str ⟨#[c]⟩) H
theorem Znt:IxR X (Zk6 X.K):=by
 intro value slice pins s σ H x y v u Q I rx ry h hs;obtain⟨p,xs,i,z,rfl,rfl,hq,he,q⟩:=h;cases rx;obtain⟨t,rfl⟩:=ry;obtain⟨its,r,pl,hz⟩:=I.list hq;obtain⟨j,h1,h2,h3,h4,h5⟩:=ZfS he;obtain⟨w,ew,rw'⟩:=r.get h2;have hl:=r.length;have hn:=Zcr;have fin:EP X pins σ Q w s:=⟨z,H,I,rw',q⟩;by_cases h0:0<=i
 ·have hj:i.toNat=j:=by
   rw[seqIndex_of h0 h5] at h1;exact Option.some.inj h1
  exact item_listR pl.isList h0 (by omega) (by rw[hj]; simpa using ew) fin hs
 ·have hj:(i+(its.toArray.size:Int)).toNat=j:=by
   rw[seqIndex_neg (by omega) h4] at h1;rw[Yn,<-hl];exact Option.some.inj h1
  exact subscriptTail_builtinR (x:=w) pl.isList.typeIs slot_list_getitem.lookup
   (wpAny_getItem_list_neg (Q:=fun r s'=>r=w/\EP X pins σ Q r s') pl.isList (by omega) (by rw[Yn] <;> omega) (by omega) (by rw[hj]; simpa using ew) ⟨rfl,fin⟩) hs
theorem Znj:IxR X (Zj4 X.K):=by
 intro value slice pins s σ H x y v u Q I rx ry h hs;obtain⟨p,xs,i,z,rfl,rfl,hq,he,q⟩:=h;cases rx;obtain⟨t,rfl⟩:=ry;obtain⟨its,r,pl,hz⟩:=I.tuple hq;obtain⟨j,h1,h2,h3,h4,h5⟩:=ZfS he;obtain⟨w,ew,rw'⟩:=r.get h2;have hl:=r.length;have hn:=Zcr;have fin:EP X pins σ Q w s:=⟨z,H,I,rw',q⟩;exact subscriptTail_builtinR (x:=w) pl.typeIs slot_tuple_getitem.lookup
  (getItem_tuple (j:=j) (Q:=fun r s'=>r=w/\EP X pins σ Q r s') pl (by omega) (by omega) (by rw[Yn,<-hl]; exact h1) (by simpa using ew) ⟨rfl,fin⟩) hs
theorem ZlT:IxR X Zqk:=by
 intro value slice pins s σ H x y v u Q I rx ry h hs;obtain⟨z,i,c,rfl,rfl,hz,he,q⟩:=h;obtain⟨t,rfl⟩:=rx;obtain⟨t',rfl⟩:=ry;obtain⟨j,h1,h2,h3,h4,h5⟩:=ZfS he;have hl:z.cps.toList.length=z.length:=by simp[Str.length]
 rw[hl] at h1 h4 h5;have hn:=Zcr;exact tail_any (typeIs_str s z t) slot_str_getitem.lookup (getItem_str (c:=c) (by
  have e1:decide (i < -(2 ^ 63:Int))=false:=YQ (by omega);have e2:decide (i ≥ 2 ^ 63)=false:=YQ (by omega);rw[e1,e2,Bool.or_false]) (by rw[h1]; simpa using h2) ⟨.str ⟨#[c]⟩,H,I.tok _,⟨_,rfl⟩,q⟩) hs
theorem ZlI(lo hi:Option Int)(n:Nat):(sliceBounds lo hi none n).1=((HT.sIx n 0 lo:Nat):Int)/\(sliceBounds lo hi none n).2.1=((HT.sIx n n hi:Nat):Int)/\(sliceBounds lo hi none n).2.2=1:=by
 refine⟨?_,?_,rfl⟩
 ·cases lo with
  | none=>simp[sliceBounds,HT.sIx]
  | some i =>
   simp only[sliceBounds,HT.sIx,Option.getD_none,show (1:Int) > 0 by decide,Wq];by_cases h:i<0
   ·simp only[h,Wq] <;> omega
   ·simp only[h,Wc] <;> omega
 ·cases hi with
  | none=>simp[sliceBounds,HT.sIx]
  | some i =>
   simp only[sliceBounds,HT.sIx,Option.getD_none,show (1:Int) > 0 by decide,Wq];by_cases h:i<0
   ·simp only[h,Wq] <;> omega
   ·simp only[h,Wc] <;> omega
theorem ZnZ(its:List P6)(lo hi:Option Int):slicePick its.toArray lo hi none=((its.drop (HT.sIx its.length 0 lo)).take (HT.sIx its.length its.length hi - HT.sIx its.length 0 lo)).toArray:=by
 obtain⟨h1,h2,h3⟩:=ZlI lo hi its.toArray.size;unfold slicePick;rw[h1,h2,h3];simp only[sliceRange_one,pick_run,Yn] <;> rfl
def ZkF(K:P1):V->Option Int->Option Int->Hp->VK->Prop:=fun x lo hi H Q => ∃a xs,x = .ref a/\SqL K H a xs/\∀p,H p=none->Q (.ref p) (upd H p (.lst (Zbu xs lo hi)))
theorem Zkl:SlR X (ZkF X.K):=by
 intro pins s σ H x v vl vu lo hi sl Q I rx hs pl pu h;obtain⟨a,xs,rfl,hx,q⟩:=h;cases rx;obtain⟨its,r,ht,hz⟩:=I.list hx;have hlen:=r.length;refine⟨"list",_,slot_list_getitem.lookup,ht.isList.typeIs,?_⟩;refine wpAny_getItem_list_slice ht.isList hs pl pu .none (by simp) ?_ (by rw[Yn] <;> omega);rw[ZnZ,<-hlen];refine⟨.ref s.heap.objs.size,_,I.laid (t':=s.toks) (o:=.lst (Zbu xs lo hi)) (fun b ob q=>Yc _ q) (Yj _) ?_,rfl,q _ (I.hok.fresh (Yj _))⟩;exact⟨YH (Zig xs lo hi) hz,_,0,(r.drop (HT.sIx xs.length 0 lo)).take (HT.sIx xs.length xs.length hi - HT.sIx xs.length 0 lo),Ym _ rfl⟩
theorem Zmm:Za5 X (.builtin "len") (fun xs H Q => ∃p ys,xs=[.ref p]/\(SqL X.K H p ys\/SqT X.K H p ys)/\Q (.int ys.length) H):=by
 intro pins s σ H xs us Q I r h;obtain⟨p,ys,rfl,hq,q⟩:=h;obtain⟨u,rfl,rx⟩:=vals1 r;cases rx;have hn:=Zcr;rcases hq with hq | hq
 ·obtain⟨its,r',pl,hz⟩:=I.list hq;have hlen:=r'.length;exact Calls.call_len_list pl.isList (by simp only[Yn] <;> omega) ⟨.int ys.length,H,I.tok _,⟨s.toks+1,by rw[Yn,hlen]⟩,q⟩
 ·obtain⟨its,r',pl,hz⟩:=I.tuple hq;have hlen:=r'.length;exact len_tuple pl (by simp only[Yn] <;> omega) ⟨.int ys.length,H,I.tok _,⟨s.toks+1,by rw[Yn,hlen]⟩,q⟩
theorem Zoi:Za5 X (.builtin "len") (fun xs H Q => ∃z,xs=[.str z]/\z.length<=sizeLine/\Q (.int z.length) H):=by
 intro pins s σ H xs us Q I r h;obtain⟨z,rfl,hz,q⟩:=h;obtain⟨u,rfl,t,rfl⟩:=vals1 r;have hn:=Zcr;exact len_str (by omega) ⟨.int z.length,H,I.tok _,⟨_,rfl⟩,q⟩
theorem ZlF:Za5 X (.type "list") (fun xs H Q => ∃p ys,xs=[.ref p]/\(SqL X.K H p ys\/SqT X.K H p ys)/\∀l,H l=none->Q (.ref l) (upd H l (.lst ys))):=by
 intro pins s σ H xs us Q I r h;obtain⟨p,ys,rfl,hq,q⟩:=h;obtain⟨u,rfl,rx⟩:=vals1 r;cases rx;have fin:∀(its:List P6),Vals ys its->ys.length<=sizeLine->∀(h':Heap) (c':Nat),(∀b o',s.heap.get? b=some o'->h'.get? b=some o') ->
   h'.get? s.heap.objs.size=some { cls:=.type "list",dict:=none,data:=.seq its.toArray c',slots:=#[] }->EP X pins σ Q (.ref s.heap.objs.size) { s with heap:=h' }:=fun its r' hz h' c' kp e =>
  ⟨.ref s.heap.objs.size,_,I.laid (t':=s.toks) kp (Yj _) (show ObjOk X.prog X.w _ h' _ (.lst ys) from⟨hz,its,c',r',e⟩),rfl,q _ (I.hok.fresh (Yj _))⟩
 rcases hq with hq | hq
 ·obtain⟨its,r',pl,hz⟩:=I.list hq;have hlen:=r'.length;obtain⟨o,ho,hc,n,hd⟩:=pl.isList;exact call_list_seq p (.inl rfl) ho hc hd (fun h' c' kp e=>fin its r' hz h' c' kp e) (by simp only[Yn] <;> omega)
 ·obtain⟨its,r',pl,hz⟩:=I.tuple hq;have hlen:=r'.length;obtain⟨o,ho,hc,n,hd⟩:=pl;exact call_list_seq p (.inr rfl) ho hc hd (fun h' c' kp e=>fin its r' hz h' c' kp e) (by simp only[Yn] <;> omega)
theorem ZiJ:Za5 X (.type "tuple") (fun xs H Q => ∃p ys,xs=[.ref p]/\((SqL X.K H p ys/\∀l,H l=none->Q (.ref l) (upd H l (.tup ys)))\/(SqT X.K H p ys/\Q (.ref p) H))):=by
 intro pins s σ H xs us Q I r h;obtain⟨p,ys,rfl,h⟩:=h;obtain⟨u,rfl,rx⟩:=vals1 r;cases rx;rcases h with⟨hq,q⟩ | ⟨hq,q⟩
 ·obtain⟨its,r',pl,hz⟩:=I.list hq;have hlen:=r'.length;refine call_tuple_list pl.isList (fun h' kp => ?_) (by simp only[Yn] <;> omega);have I1:Inv X pins σ H { s with heap:=h' }:=I.kept (t':=s.toks) kp;have I2:Inv X pins σ (upd H h'.objs.size (.tup ys)) { s with heap:=h'.push { cls:=.type "tuple",data:=.seq its.toArray } } :=
   I1.laid (t':=s.toks) (fun b o e=>Yc _ e) (Yj _) (show ObjOk X.prog X.w _ _ _ (.tup ys) from⟨hz,its,r',IsTup.new _ _,fun o2 e2=>by rw[Ym _ rfl] at e2; cases e2; rfl⟩)
  exact⟨.ref h'.objs.size,_,I2,rfl,q _ (I1.hok.fresh (Yj _))⟩
 ·obtain⟨its,r',pl,hz⟩:=I.tuple hq;exact call_tuple_same pl ⟨.ref p,H,I,rfl,q⟩
def tyV(K:P1)(T:String)(x:V)(H:Hp):Prop:=match x with
 | .str _=>T = "str"
 | .int _=>T = "int"
 | .ref p=>(T = "list"/\∃xs,SqL K H p xs)\/(T = "tuple"/\∃o,K.lookup p=some o/\o.cls = .type "tuple"/\o.dict=none) \/
   (T = "dict"/\((∃kvs,H p=some (.dK kvs))\/∃kvs,H p=some (.dT kvs)))\/(T = "set"/\∃S n,H p=some (.set S n))
 | _=>False
theorem ZlU{pins:List (Addr×Obj)}{σ:St}{H:Hp}{s:P0}{T:String}{x:V}{v:P6}(I:Inv X pins σ H s)(r:RelV x v)(ty:tyV X.K T x H) :
  s.TypeIs v T/\∀a,v = .ref a->∃ob,s.heap.get? a=some ob/\ob.dict=none:=by
 cases x with
 | str z =>
  obtain⟨t,rfl⟩:=r;cases (show T = "str" from ty);exact⟨typeIs_str s z t,fun _ e=>nomatch e⟩
 | int i =>
  obtain⟨t,rfl⟩:=r;cases (show T = "int" from ty);exact⟨typeIs_int s i t,fun _ e=>nomatch e⟩
 | ref p =>
  cases r;rcases ty with⟨rfl,xs,hq⟩ | ⟨rfl,o,hk,hc,hd⟩ | ⟨rfl,hk⟩ | ⟨rfl,S,n,hk⟩
  ·obtain⟨its,_,pl,_⟩:=I.list hq;refine⟨pl.isList.typeIs,fun a e => ?_⟩;cases e;obtain⟨o,n,e,c,hd,_⟩:=pl;exact⟨o,e,hd⟩
  ·refine⟨⟨o,I.kIn p o hk,hc⟩,fun a e => ?_⟩;cases e;exact⟨o,I.kIn _ o hk,hd⟩
  ·have z:∃o,s.heap.get? p=some o/\o.ExactDict:=by
    rcases hk with⟨kvs,hk⟩ | ⟨kvs,hk⟩
    ·obtain⟨_,_,_,_,o,_,_,e,ex,_⟩:=I.hok p _ hk;exact⟨o,e,ex⟩
    ·obtain⟨_,_,_,_,o,_,_,e,ex,_⟩:=I.hok p _ hk;exact⟨o,e,ex⟩
   obtain⟨o,e,ex⟩:=z;refine⟨⟨o,e,ex.1⟩,fun a e2 => ?_⟩;cases e2;exact⟨o,e,ex.2.1⟩
  ·obtain⟨o,_,_,_,e,ex,_⟩:=I.hok p _ hk;refine⟨⟨o,e,ex.1⟩,fun a e2 => ?_⟩;cases e2;exact⟨o,e,ex.2.1⟩
 | _=>exact False.elim ty
def tBM(K:P1)(T:String)(r:V->List V->Hp->VK->Prop)(to:TE)(t:TA):TE:=fun σ H Q=>to σ H fun x H1=>tyV K T x H1/\t σ H1 fun xs H2=>r x xs H2 Q
variable{o e:Expr}{es:List Expr}{to:TE}{t:TA}{name:Str}{apos cpos:Pos}{T id:String}{r:V->List V->Hp->VK->Prop}
theorem Zhj(pa:PlainAttrs T)(slot:Slot T name id)(hty:typeOf (.builtin id)=pure (.type "method_descriptor"))(hm:MtR X id r)(ho:PE X o to)(ha:PA X (e :: es) t)
  (hbase:attributeBase o name X.env (eval o X.env)=eval o X.env:=by rfl)
  (hfew:((backTo cpos (starEach (e :: es) X.env)).all (fun x => !x.1) && (backToKw cpos (keywordEach [] X.env)).all (fun x=>x.1.isSome)
   && decide ((e :: es).length+([]:List Keyword).length+(if ([]:List Keyword).isEmpty then 0 else 1)<30))=true:=by rfl)
  (hline:(apos.endLine == cpos.line)=true:=by rfl) (hs:starEach (e :: es) X.env=(false,eval e X.env) :: starEach es X.env:=by rfl) (hplain:(backTo cpos (starEach es X.env)).any (·.1)=false:=by rfl) :
  PE X (.Call (.Attribute o name apos) (e :: es) [] cpos) (tBM X.K T r to t):=by
 intro pins s σ H Q I h;refine wpAny_Call_method_late hbase hfew hline rfl (thn (ho pins s σ H _ I h) fun v s1 ⟨x,H1,I1,r1,ty,q1⟩ => ?_);obtain⟨h1,h2⟩:=ZlU I1 r1 ty;refine⟨T,id,pa,slot,hty,h1,h2,?_⟩;have hA:=ha cpos pins s1 σ H1 _ I1 q1;rw[hs] at hA ⊢;refine VN (by show (false || (backTo cpos (starEach es X.env)).any (·.1))=false; rw[hplain] <;> rfl) (Calls.evalArgs_plain ?_);exact thn hA fun us s2 ⟨vs,H2,I2,r2,q2⟩=>hm pins s2 σ H2 x vs v us Q I2 r1 r2 q2
/- xs.append(e), list.index on a module's tuple .. are MtR facts of 06m -/
end
def MtM(X:Cx)(id:String)(r:V->List V->Hp->VK->Prop):Prop :=
 ∀(pins:List (Addr×Obj)) (s:P0) (σ:St) (H:Hp) (x:V) (xs:List V) (v:P6) (us:List P6) (Q:VK),Inv X pins σ H s->RelV x v->Vals xs us->r x xs H Q ->
  wpAny (model X.prog X.w) X.A (call (.builtin id) (v :: us)) (EP X pins σ Q) X.xe s
theorem Vals.one:∀{x:V} {us:List P6},Vals [x] us->∃u,us=[u]/\RelV x u
 | _,_,.cons r .nil=>⟨_,rfl,r⟩
section
variable{X:Cx}{pins:List (Addr×Obj)}{σ:St}{H:Hp}{s:P0}{l b:Addr}{xs ys zs:List V}
theorem Inv.lset{its its':List P6}{n:Nat}{f:Array P6->Array P6}{t':Nat}(I:Inv X pins σ H s)(hH:H l=some (.lst xs))
  (e:s.heap.get? l=some { cls:=.type "list",data:=.seq its.toArray n }) (hf:f its.toArray=its'.toArray) (hv:Vals ys its') (hz:ys.length<=sizeLine) :
  Inv X pins σ (upd H l (.lst ys)) { s with heap:=s.heap.update l (Obj.mapSeq f),toks:=t' }:=by
 have q:=PySem.IsL.update e f;rw[hf] at q;refine I.write (x:=l) (e:=l) (by rw[hH]; exact trivial) (.inl rfl) (fun b' u hb hu=>(W5 s.heap (Obj.mapSeq f) (YW hb)).trans hu) ⟨_,q⟩ ?_;exact⟨hz,its',_,hv,q⟩
theorem Inv.lnew{its:List P6}{t':Nat}(I:Inv X pins σ H s)(hv:Vals ys its)(hz:ys.length<=sizeLine) :
  Inv X pins σ (upd H s.heap.objs.size (.lst ys)) { s with heap:=s.heap.push { cls:=.type "list",data:=.seq its.toArray },toks:=t' } :=
 I.laid (fun _ _ q=>Yc _ q) (Yj _) ⟨hz,its,0,hv,Ym _ rfl⟩
theorem Inv.fresh(I:Inv X pins σ H s):H s.heap.objs.size=none:=I.hok.fresh (Yj _)
theorem Inv.lstM(I:Inv X pins σ H s)(hH:H l=some (.lst xs)):xs.length<=sizeLine/\∃(its:List P6) (n:Nat),Vals xs its/\xs.length=its.length/\s.heap.get? l=some { cls:=.type "list",data:=.seq its.toArray n }:=by
 obtain⟨z,its,n,r,e⟩:=I.hok l _ hH;exact⟨z,its,n,r,r.length,e⟩
end
section
variable{X:Cx}
def Zpe:V->List V->Hp->VK->Prop:=fun x vs H Q => ∃l xs y,x = .ref l/\vs=[y]/\H l=some (.lst xs)/\xs.length<sizeLine/\Q .non (upd H l (.lst (xs++[y])))
theorem Zml:MtM X "list.append" Zpe:=by
 intro pins s σ H x vs v us Q I rx rv h;obtain⟨l,xs,y,rfl,rfl,hH,hz,q⟩:=h;cases rx;obtain⟨u,rfl,ru⟩:=rv.one;obtain⟨z,its,n,r,hl,e⟩:=I.lstM hH;refine call_meets F.slot_list_append ⟨_,e,rfl⟩ F.entry_list_append (F.args_list_append_2 _ _) (PySem.list_append l its.toArray n u (by rw[Yn]; omega)) ⟨e,?_⟩;refine⟨.non,_,I.lset (its':=its++[u]) hH e (by simp) (r.append (.cons ru .nil)) ?_,rfl,q⟩;rw[WM,List.length_singleton];omega
def ZoR:R2:=fun x y H Q => ∃l b xs zs,x = .ref l/\y = .ref b/\H l=some (.lst xs)/\H b=some (.lst zs)/\xs.length+zs.length<=sizeLine/\∀p,H p=none->Q (.ref p) (upd H p (.lst (xs++zs)))
theorem ZnL:OpR X (binaryOp .Add) ZoR:=by
 intro pins s σ H x y v u Q I rx ry h;obtain⟨l,b,xs,zs,rfl,rfl,hH,hB,hz,q⟩:=h;cases rx;cases ry;obtain⟨z,its,n,r,hl,e⟩:=I.lstM hH;obtain⟨z2,its2,n2,r2,hl2,e2⟩:=I.lstM hB;refine PySem.P.add_list e e2 ?_ (by rw[Yn,Yn]; omega);have ea:its.toArray++its2.toArray=(its++its2).toArray:=by simp
 rw[ea];exact⟨.ref _,_,I.lnew (t':=s.toks) (r.append r2) (by rw[WM]; omega),rfl,q _ I.fresh⟩
end
end L2
namespace Att
open PySem PySem.W PySem.Calls PyProof.Rows
theorem Znn{P:Params}{h:Heap}:∀(ns:List Int) (vs:List P6),WellAll P h vs (ns.map WData.int)->IntsAre vs ns:=by
 intro ns
 induction ns with
 | nil =>
  intro vs w;rw[List.map_nil] at w;cases w;exact .nil
 | cons n ns ih =>
  intro vs w;rw[Ys] at w;cases w with
  | cons a b =>
   cases a;exact .cons _ _ (ih _ b)
theorem ZmV{l:OpenLaw}{n:Nat}(hn:l.most=some n){P:Params}{h:Heap}{args:List WData}{vals:List P6}
  (hpre:l.row.toRowW.claim.pre args=true) (hwl:WellAll P h vals args) :
  ∃a vs ns,vals=[Value.ref a]/\args=[WData.list (ns.map WData.int)]/\h.get? a=some { cls:=.type "list",data:=.seq vs.toArray }/\IntsAre vs ns/\ns.length<=n:=by
 have hsh:WShape.hasAll [] args [.list .int]=true:=(pre_splitW hpre).1;have hc:l.pre.holds [] { args:=args }=true:=(pre_splitW hpre).2;obtain⟨d,r,rfl,h1,h2⟩:=hasAllW_cons hsh;obtain rfl:=hasAllW_nil h2;obtain⟨xs,rfl,h3⟩:=hasW_list h1;obtain⟨ns,rfl⟩:=items_int h3;have hlen:ns.length<=n:=by
  unfold OpenLaw.pre at hc;have h4:(WTm.not (.lt (.lit (.int (n:Int))) (.len (.arg 0)))).holds [] { args:=[.list (ns.map .int)] }=true:=by
   have h4:=(holds_andW hc).1;rw[hn] at h4;exact h4
  have h5:=condW_of h4 (w_not (w_lt w_lit (w_len_list (w_arg rfl))));rw[Yp] at h5;refine Nat.le_of_not_lt fun q => ?_;have q':(n:Int)<((ns.length:Nat):Int):=by omega
  first
   | (rw[YS q'] at h5; exact absurd h5 (by decide))
   | (simp at h5; omega)
 cases hwl with
 | cons w1 w2 =>
  cases w2;cases w1 with
  | list ho hall=>exact⟨_,_,ns,rfl,rfl,ho,Znn ns _ hall,hlen⟩
theorem Zpv(l:OpenLaw)(args:List WData):l.row.toRowW.claim.post args (.bool true) args=true :=
 postW_of (r:=l.row.toRowW) (X:=(true == true))
  (show WShape.has [] (.bool true) .bool=true by first | rfl | decide | simp[WShape.has,WShape.arms,WShape.armsAll])
  (show (WTm.eq .res (.lit (.bool true))).value [] { args:=args,res:=some (.bool true),after:=args }=some (.bool (true == true)) from w_eq_bool (w_res rfl) w_lit) rfl
theorem attach_call{l:OpenLaw}{n:Nat}{q:P4}{loose:List Str}{XP:(Str->Option P6)->Heap->Prop}{YP:World->Heap->Prop}{d:DefRec}
  (hn:l.most=some n) (hdf:d.params.defaults=[])
  (call:∀(w:World) (s₀ s₁:P0) (mg mb:Str->Option P6) (fa:Addr) (o:Obj) (pm cd doc:P6) (a:Addr) (vs:List P6) (ns:List Int),
   Ground q loose [] XP w s₀ mg mb s₁.heap->YP w s₁.heap ->
   s₁.heap.get? fa=some o->o.data = .func (docDef d.name d.params d.body d.scope pm cd doc)->s₁.heap.CodeRec cd d.name->mg d.name=some (.ref fa) ->
   s₁.heap.get? a=some { cls:=.type "list",data:=.seq vs.toArray }->IntsAre vs ns->ns.length<=n->s₁.gens = #[] ->
   codeAny (model l.prog w) callerA (.call (.ref fa) ⟨[.ref a],[]⟩) (fun r s'=>r = .ok (.ret (.bool true))/\OldK s₁.heap s'.heap/\s'.os=s₁.os/\AllBare s'.gens) s₁) :
  WalkO q loose XP YP l.row.toRowW d [] (fun f vs=>PySem.call f vs):=by
 intro w s₀ s₁ mg mb G Y fa o pm cd doc dV kV ho hd hcd hD hmg hg args vals as hpre hlay hrd hwl hlo;obtain rfl:dV = .none:=Dflts.none hD hdf;obtain rfl:kV = .none:=Dflts.noKw hD;obtain⟨a,vs,ns,rfl,rfl,hobj,hints,hlen⟩:=ZmV hn hpre hwl;refine enter_call (V8 (call w s₀ s₁ mg mb fa o pm cd doc a vs ns G Y ho (fd_plain hd) hcd hmg hobj hints hlen hg) fun r s' hq => ?_);obtain⟨rfl,h2,h3,h4⟩:=hq;exact⟨.inl ⟨.bool true,.bool true,[],rfl,fun _=>rfl,.bool true,Zpv l _,fun _=>⟨List.Pairwise.nil,fun _ hm=>(nomatch hm)⟩⟩,h2,h3,h4⟩
end Att
namespace L2
open PySem PySem.Spec PyProof.Rows
theorem Zew:∀{vs:List P6} {ns:List Int},IntsAre vs ns->Vals (ns.map V.int) vs
 | _,_,.nil => .nil
 | _,_,.cons n t h => .cons ⟨t,rfl⟩ (Zew h)
end L2
/- THE LAST THEOREM (shape; LID, My.* are yours):
   My.Adr: a structure of the addresses that your layer names (classes,functions); My.Txt K t: a structure (Prop) of the equations over K;
   My.txt_mk:{K} {implicit addresses ..} (e1:nsIn K mainGlobals "law" = some (some (.ref f))) (e2:K.lookup f=some ⟨oc,od,.func (fnOf "law" "law" params body scope dV kV doc pm an cdv ct),sl⟩) (e3:codeIn K cdv "law" = true) .. : ∃t,My.Txt K t
set_option maxRecDepth 100000 in
theorem PySem.Challenge.cw_LID_holds : PySem.Challenge.rw_LID.Holds := by
 w_on; o_law; k_head; (case hw=>w_witness2)
 k_fill
 refine L2.walk_of (l:=PySem.Challenge.rw_LID) (n:=63) (k:=40) (x:="script") (CX:=fun w => ..) (sp:=fun _=>My.sp_law) rfl (by decide) rfl ⟨rfl,by decide,by decide⟩ (fun w h Y=>PySem.W.kIn_of Y) ?F ?S ?C
 case F =>
  intro w mg fa h KX G hmg;have T:∃t,My.Txt (L2.KOf KX) t:=by
   dsimp only [L2.KOf]                          -- K must stand as «<heap const> w.params» for k_is
   refine' My.txt_mk ?e1 ?e2 ?e3 ..
   (case e1 => PySem.W.k_is)                    -- in the order: a name -> its address -> its object -> its parts
   (case e2=>PySem.W.k_is)
   ..
  obtain ⟨t,T⟩:=T;have e0:=hmg.symm.trans (Y2 KX G T.law);cases e0                                       -- fa is the law's own address
  exact ⟨_, fun s u => .of_eq rfl, fun base kb nb => My.law_fn T kb nb⟩     -- if «.of_eq rfl» comes too early: refine' ⟨_, ?b, fun base kb nb => My.law_fn T kb nb⟩; exact fun s u => .of_eq rfl
 case S=>exact fun w H a ns hl hO hS => ..
 case C=>exact ..
(the tactic k_is has no namespace: write k_is) -/
namespace L2
open PySem PySem.Spec PyProof.Rows
def ZZ(s:Stmt):Arguments:=match s with
 | .FunctionDef _ a _ _ _ _ _ _ _ _=>a
 | _ => { posonlyargs:=[],args:=[],vararg:=none,kwonlyargs:=[],kw_defaults:=[],kwarg:=none,defaults:=[] }
def Zs(s:Stmt):List Stmt:=match s with
 | .FunctionDef _ _ b _ _ _ _ _ _ _=>b
 | _=>[]
def Ze(s:Stmt):Scope:=match s with
 | .FunctionDef _ _ _ _ _ _ sc _ _ _=>sc
 | _ => { kind:=.function,names:=[],isGenerator:=false,isCoroutine:=false }
noncomputable abbrev CX0:CXT:=fun _ _ _ _ _ _=>False
structure Fun(K:P1)(x qual:Str)(st:Stmt)(f:Addr)(fd:P5):Prop where
 ex:∃(oc:P6) (od:Option Addr) (kV doc pm:P6) (an:Option Addr) (cdv ct:P6) (osl:Array (Option P6)),
  fd=PySem.W.fnOf x qual (ZZ st) (Zs st) (Ze st) .none kV doc pm an cdv ct/\K.lookup f=some ⟨oc,od,.func fd,osl⟩/\PySem.W.codeIn K cdv qual=true
 kp:PySem.W.keepIn K (.ref f)=true
section
variable{P:P4}{w:World}{K:P1}{mg:Str->Option P6}{base:Heap}
theorem Fun.ok{x qual:Str}{st:Stmt}{f:Addr}{fd:P5}{N ps:List Str}{k:Nat}{sp:Sp}(F:Fun K x qual st f fd)(S:FnScope N ps (Ze st))(len:∀vs H Q E,sp vs H Q E->vs.length=ps.length)
  (hbody:∀(cdv:P6) (A:P3) (outer:List Env) (s:P0) (H:Hp) (vs:List V) (Q:VK) (E:XK),Room k (A.deeper (envOfC qual (Ze st) s.heap.objs.size f cdv))->sp vs H Q E ->
   ∃t,PSs (ZD CX0 P w K mg base N qual (Ze st) f cdv A outer s H E).nox (Zs st) t/\t { nx:=fun _ H'=>Q .non H',rt:=Q } (start N vs) H):FnOk P w K mg base CX0 (k+1) f fd ps sp:=by
 obtain⟨oc,od,kV,doc,pm,an,cdv,ct,osl,rfl,lk,hcd⟩:=F.ex;refine ZiR lk hcd S len fun A outer s H vs Q E hr hsp => ?_;obtain⟨t,h,q⟩:=hbody cdv A outer s H vs Q E hr hsp;exact⟨t,h.nox,q⟩
theorem Fun.binds{x qual:Str}{st:Stmt}{f:Addr}{fd:P5}{ps:List Str}(F:Fun K x qual st f fd)
  (h:∀(kV doc pm:P6) (an:Option Addr) (cdv ct:P6) (us:List P6),us.length=ps.length->bindArgs (PySem.W.fnOf x qual (ZZ st) (Zs st) (Ze st) .none kV doc pm an cdv ct) ⟨us,[]⟩=pure (ps.zip us)):Binds K fd ps []:=by
 obtain⟨oc,od,kV,doc,pm,an,cdv,ct,osl,rfl,lk,hcd⟩:=F.ex;exact .all (h kV doc pm an cdv ct)
theorem Zac{x qual:Str}{st:Stmt}{f:Addr}{oc:P6}{od an:Option Addr}{osl:Array (Option P6)}{kV doc pm cdv ct:P6}(l:K.lookup f=some ⟨oc,od,.func (PySem.W.fnOf x qual (ZZ st) (Zs st) (Ze st) .none kV doc pm an cdv ct),osl⟩)
  (c:PySem.W.codeIn K cdv qual=true) (k:PySem.W.keepIn K (.ref f)=true):Fun K x qual st f (PySem.W.fnOf x qual (ZZ st) (Zs st) (Ze st) .none kV doc pm an cdv ct):=⟨⟨oc,od,kV,doc,pm,an,cdv,ct,osl,rfl,l,c⟩,k⟩
end
end L2
section
namespace DL
open PySem PySem.Spec PyProof.Rows L2
inductive D where
 | non | bl (b:Bool) | int (i:Int) | str (x:Str) | tup (xs:List D) | lst (xs:List D) | scr (xs:List D) | res (i:Nat) | exv (C:Addr)
inductive S where
 | lst (xs:List D)
 | ins (C:Addr) (fs:List (Str×D))
 | dct (kvs:List (D×D))
 | dtt (kvs:List (D×D))
 | fdc (kvs:List (D×D))
 | fdt (o:Obj) (kvs:List (D×D))
 | tab (P:Addr) (b:Bool)
noncomputable abbrev Sto:=List S
noncomputable abbrev Ev:=List (Option D)
inductive Out(α:Type) where
 | ok (a:α) (st:Sto)
 | exc (c:Addr) (st:Sto)
 | bad
def Out.bind{α β:Type}(r:Out α)(k:α->Sto->Out β):Out β:=match r with
 | .ok a st=>k a st
 | .exc c st => .exc c st
 | .bad => .bad
theorem Zjw{α:Type}{l:List α}(hl:l.Nodup){i j:Nat}{x:α}(a:l[i]?=some x)(b:l[j]?=some x):i=j:=by
 obtain⟨h1,e1⟩:=Yo.mp a;obtain⟨h2,e2⟩:=Yo.mp b;have hp:=Wd.mp hl;rcases Nat.lt_trichotomy i j with h | h | h
 ·exact absurd (e1.trans e2.symm) (hp i j h1 h2 h)
 ·exact h
 ·exact absurd (e2.trans e1.symm) (hp j i h2 h1 h)
def ExcO(a C:Addr):Heap->Prop:=fun h => ∃o vs,h.get? a=some o/\o.cls = .ref C/\o.data = .fields vs
theorem ExcO.inj{a C C':Addr}{h:Heap}(x:ExcO a C h)(y:ExcO a C' h):C=C':=by
 obtain⟨o,_,e,c,_⟩:=x;obtain⟨o',_,e',c',_⟩:=y;rw[e] at e';cases e';rw[c] at c';exact Value.ref.inj c'
section
variable(K:P1)
def SqF(H:Hp)(a:Addr)(vs:List V):Prop :=
 (∃o,H a=some (.frz o (.lst vs)))\/∃(o:Obj) (its:Array P6) (n:Nat),K.lookup a=some o/\o.cls = .type "list"/\o.dict=none/\o.data = .seq its n/\its.size<=sizeLine/\Vals vs its.toList
mutual
def Rep(O:List Addr)(H:Hp):D->V->Prop
 | .non,v=>v = .non
 | .bl b,v=>v = .bl b
 | .int i,v=>v = .int i
 | .str x,v=>v = .str x
 | .tup ds,v => ∃a vs,v = .ref a/\H a=some (.tup vs)/\Reps O H ds vs
 | .lst ds,v => ∃a vs,v = .ref a/\a ∉ O/\H a=some (.lst vs)/\Reps O H ds vs
 | .scr ds,v => ∃a vs,v = .ref a/\SqF K H a vs/\Reps O H ds vs
 | .res i,v => ∃a,v = .ref a/\O[i]?=some a
 | .exv C,v => ∃a,v = .ref a/\H a=some (.ext (ExcO a C))
def Reps(O:List Addr)(H:Hp):List D->List V->Prop
 | [],vs=>vs=[]
 | d :: ds,vs => ∃v r,vs=v :: r/\Rep O H d v/\Reps O H ds r
end
def Flds(O:List Addr)(H:Hp):List (Str×D)->List (Str×V)->Prop
 | [],vs=>vs=[]
 | (x,d) :: ds,vs => ∃v r,vs=(x,v) :: r/\Rep K O H d v/\Flds O H ds r
def Zx:D->Option Key
 | .int i=>some (.inl i)
 | .str x=>some (.inr x)
 | _=>none
def ZaR:List D->Option (List Key)
 | []=>some []
 | d :: ds=>match Zx d,ZaR ds with
  | some k,some ks=>some (k :: ks)
  | _,_=>none
def Zq:D->Option (List Key)
 | .tup ds=>ZaR ds
 | _=>none
def Kvs{κ:Type}(f:D->Option κ)(O:List Addr)(H:Hp):List (D×D)->List (κ×V)->Prop
 | [],vs=>vs=[]
 | (k,d) :: ds,vs => ∃q v r,vs=(q,v) :: r/\f k=some q/\Rep K O H d v/\Kvs f O H ds r
def RepS(O:List Addr)(H:Hp)(a:Addr):S->Prop
 | .dct ds => ∃vs,H a=some (.dK vs)/\Kvs K Zx O H ds vs
 | .dtt ds => ∃vs,H a=some (.dT vs)/\Kvs K Zq O H ds vs
 | .fdc ds => ∃o vs,H a=some (.frz o (.dK vs))/\Kvs K Zx O H ds vs
 | .fdt o ds => ∃vs,H a=some (.frz o (.dT vs))/\Kvs K Zq O H ds vs
 | .lst ds => ∃vs,H a=some (.lst vs)/\Reps K O H ds vs
 | .ins C fs => ∃dx vfs,H a=some (.ins C dx vfs)/\Flds K O H fs vfs
 | .tab P b=>a=P/\∃ps,H a=some (.tbl ps)/\(b=false->ps = #[])
structure WR(O:List Addr)(H:Hp)(st:Sto):Prop where
 len:O.length=st.length
 nd:O.Nodup
 at_:∀(i:Nat) (a:Addr) (s:S),O[i]?=some a->st[i]?=some s->RepS K O H a s
structure Keep(O:List Addr)(H:Hp)(O':List Addr)(H':Hp):Prop where
 tup:∀a vs,H a=some (.tup vs)->H' a=some (.tup vs)
 lst:∀a vs,a ∉ O->H a=some (.lst vs)->a ∉ O'/\H' a=some (.lst vs)
 frz:∀a vs,SqF K H a vs->SqF K H' a vs
 pre:∀(i:Nat) (a:Addr),O[i]?=some a->O'[i]?=some a
 exv:∀a C,H a=some (.ext (ExcO a C))->H' a=some (.ext (ExcO a C))
end
section
variable{K:P1}{O O1 O2 O':List Addr}{H H1 H2 H':Hp}{st st':Sto}
theorem SqF.sq{a:Addr}{vs:List V}(h:SqF K H a vs):SqL K H a vs:=by
 rcases h with⟨o,h⟩ | h
 ·exact .inl (.inr ⟨o,h⟩)
 ·exact .inr h
theorem SqF.of{a:Addr}{vs:List V}(h:SqL K H a vs)(hn:H a≠some (.lst vs)):SqF K H a vs:=by
 rcases h with (h | ⟨o,h⟩) | h
 ·exact absurd h hn
 ·exact .inl ⟨o,h⟩
 ·exact .inr h
theorem Keep.refl:Keep K O H O H:=⟨fun _ _ h=>h,fun _ _ n h=>⟨n,h⟩,fun _ _ h=>h,fun _ _ h=>h,fun _ _ h=>h⟩
theorem Keep.trans(a:Keep K O H O1 H1)(b:Keep K O1 H1 O2 H2):Keep K O H O2 H2 :=
 ⟨fun x vs h=>b.tup x vs (a.tup x vs h),fun x vs n h=>let ⟨n1,h1⟩:=a.lst x vs n h; b.lst x vs n1 h1,fun x vs h=>b.frz x vs (a.frz x vs h),fun i x h=>b.pre i x (a.pre i x h),fun x C h=>b.exv x C (a.exv x C h)⟩
mutual
theorem Rep.mono(k:Keep K O H O' H'):∀(d:D) (v:V),Rep K O H d v->Rep K O' H' d v
 | .non,_,h=>by unfold Rep at h ⊢; exact h
 | .bl _,_,h=>by unfold Rep at h ⊢; exact h
 | .int _,_,h=>by unfold Rep at h ⊢; exact h
 | .str _,_,h=>by unfold Rep at h ⊢; exact h
 | .tup ds,v,h=>by
  unfold Rep at h ⊢;obtain⟨a,vs,e,q,r⟩:=h;exact⟨a,vs,e,k.tup _ _ q,Reps.mono k ds vs r⟩
 | .lst ds,v,h=>by
  unfold Rep at h ⊢;obtain⟨a,vs,e,n,q,r⟩:=h;exact⟨a,vs,e,(k.lst _ _ n q).1,(k.lst _ _ n q).2,Reps.mono k ds vs r⟩
 | .scr ds,v,h=>by
  unfold Rep at h ⊢;obtain⟨a,vs,e,q,r⟩:=h;exact⟨a,vs,e,k.frz _ _ q,Reps.mono k ds vs r⟩
 | .res i,v,h=>by
  unfold Rep at h ⊢;obtain⟨a,e,q⟩:=h;exact⟨a,e,k.pre _ _ q⟩
 | .exv C,v,h=>by
  unfold Rep at h ⊢;obtain⟨a,e,q⟩:=h;exact⟨a,e,k.exv _ _ q⟩
theorem Reps.mono(k:Keep K O H O' H'):∀(ds:List D) (vs:List V),Reps K O H ds vs->Reps K O' H' ds vs
 | [],_,h=>by unfold Reps at h ⊢; exact h
 | d :: ds,vs,h=>by
  unfold Reps at h ⊢;obtain⟨v,r,e,q,t⟩:=h;exact⟨v,r,e,Rep.mono k d v q,Reps.mono k ds r t⟩
end
theorem Kvs.mono{κ:Type}{f:D->Option κ}(k:Keep K O H O' H'):∀(ds:List (D×D)) (vs:List (κ×V)),Kvs K f O H ds vs->Kvs K f O' H' ds vs
 | [],_,h=>by unfold Kvs at h ⊢; exact h
 | (x,d) :: ds,vs,h=>by
  unfold Kvs at h ⊢;obtain⟨q,v,r,e,z,y,t⟩:=h;exact⟨q,v,r,e,z,Rep.mono k d v y,Kvs.mono k ds r t⟩
theorem Flds.mono(k:Keep K O H O' H'):∀(ds:List (Str×D)) (vs:List (Str×V)),Flds K O H ds vs->Flds K O' H' ds vs
 | [],_,h=>by unfold Flds at h ⊢; exact h
 | (x,d) :: ds,vs,h=>by
  unfold Flds at h ⊢;obtain⟨v,r,e,q,t⟩:=h;exact⟨v,r,e,Rep.mono k d v q,Flds.mono k ds r t⟩
theorem Rep.non_i{v:V}:Rep K O H .non v ↔ v = .non:=by unfold Rep; exact Vm
theorem Rep.bl_i{b:Bool}{v:V}:Rep K O H (.bl b) v ↔ v = .bl b:=by unfold Rep; exact Vm
theorem Rep.int_i{i:Int}{v:V}:Rep K O H (.int i) v ↔ v = .int i:=by unfold Rep; exact Vm
theorem Rep.str_i{x:Str}{v:V}:Rep K O H (.str x) v ↔ v = .str x:=by unfold Rep; exact Vm
theorem Rep.tup_i{ds:List D}{v:V}:Rep K O H (.tup ds) v ↔ ∃a vs,v = .ref a/\H a=some (.tup vs)/\Reps K O H ds vs:=by unfold Rep; exact Vm
theorem Rep.lst_i{ds:List D}{v:V}:Rep K O H (.lst ds) v ↔ ∃a vs,v = .ref a/\a ∉ O/\H a=some (.lst vs)/\Reps K O H ds vs:=by unfold Rep; exact Vm
theorem Rep.scr_i{ds:List D}{v:V}:Rep K O H (.scr ds) v ↔ ∃a vs,v = .ref a/\SqF K H a vs/\Reps K O H ds vs:=by unfold Rep; exact Vm
theorem Rep.res_i{i:Nat}{v:V}:Rep K O H (.res i) v ↔ ∃a,v = .ref a/\O[i]?=some a:=by unfold Rep; exact Vm
theorem Rep.exv_i{C:Addr}{v:V}:Rep K O H (.exv C) v ↔ ∃a,v = .ref a/\H a=some (.ext (ExcO a C)):=by unfold Rep; exact Vm
theorem Reps.nil_i{vs:List V}:Reps K O H [] vs ↔ vs=[]:=by unfold Reps; exact Vm
theorem Reps.cons_i{d:D}{ds:List D}{vs:List V}:Reps K O H (d :: ds) vs ↔ ∃v r,vs=v :: r/\Rep K O H d v/\Reps K O H ds r:=by
 constructor
 ·intro h; unfold Reps at h; exact h
 ·intro h; unfold Reps; exact h
theorem Reps.length:∀{ds:List D} {vs:List V},Reps K O H ds vs->ds.length=vs.length
 | [],_,h=>by rw[Reps.nil_i] at h; subst h; rfl
 | d :: ds,vs,h=>by
  obtain⟨v,r,rfl,_,t⟩:=Reps.cons_i.mp h;rw[Yx,Yx,Reps.length t]
theorem Reps.get:∀{ds:List D} {vs:List V} {i:Nat} {d:D},Reps K O H ds vs->ds[i]?=some d->∃v,vs[i]?=some v/\Rep K O H d v
 | [],_,i,d,_,e=>by simp at e
 | x :: ds,vs,0,d,h,e=>by
  obtain⟨v,r,rfl,q,_⟩:=Reps.cons_i.mp h;simp at e; subst e;exact⟨v,rfl,q⟩
 | x :: ds,vs,i+1,d,h,e=>by
  obtain⟨v,r,rfl,_,t⟩:=Reps.cons_i.mp h;obtain⟨u,e1,q⟩:=Reps.get (i:=i) (d:=d) t (by simpa using e);exact⟨u,by simpa using e1,q⟩
theorem Reps.append:∀{ds es:List D} {vs us:List V},Reps K O H ds vs->Reps K O H es us->Reps K O H (ds++es) (vs++us)
 | [],_,_,_,h,k=>by rw[Reps.nil_i] at h; subst h; exact k
 | d :: ds,es,vs,us,h,k=>by
  obtain⟨v,r,rfl,q,t⟩:=Reps.cons_i.mp h;exact Reps.cons_i.mpr ⟨v,r++us,rfl,q,Reps.append t k⟩
theorem Reps.take:∀{ds:List D} {vs:List V} (n:Nat),Reps K O H ds vs->Reps K O H (ds.take n) (vs.take n)
 | ds,vs,0,_=>by rw[VA,VA]; exact Reps.nil_i.mpr rfl
 | [],vs,n+1,h=>by rw[Reps.nil_i] at h; subst h; exact Reps.nil_i.mpr rfl
 | d :: ds,vs,n+1,h=>by
  obtain⟨v,r,rfl,q,t⟩:=Reps.cons_i.mp h;exact Reps.cons_i.mpr ⟨v,r.take n,rfl,q,Reps.take n t⟩
theorem Reps.drop:∀{ds:List D} {vs:List V} (n:Nat),Reps K O H ds vs->Reps K O H (ds.drop n) (vs.drop n)
 | ds,vs,0,h=>by rw[Va,Va]; exact h
 | [],vs,n+1,h=>by rw[Reps.nil_i] at h; subst h; exact Reps.nil_i.mpr rfl
 | d :: ds,vs,n+1,h=>by
  obtain⟨v,r,rfl,q,t⟩:=Reps.cons_i.mp h;exact Reps.drop n t
theorem Reps.set{d:D}{v:V}(q:Rep K O H d v):∀{ds:List D} {vs:List V} (n:Nat),Reps K O H ds vs->Reps K O H (ds.set n d) (vs.set n v)
 | [],vs,n,h=>by rw[Reps.nil_i] at h; subst h; exact Reps.nil_i.mpr rfl
 | x :: ds,vs,0,h=>by
  obtain⟨u,r,rfl,_,t⟩:=Reps.cons_i.mp h;exact Reps.cons_i.mpr ⟨v,r,rfl,q,t⟩
 | x :: ds,vs,n+1,h=>by
  obtain⟨u,r,rfl,q',t⟩:=Reps.cons_i.mp h;exact Reps.cons_i.mpr ⟨u,r.set n v,rfl,q',Reps.set q n t⟩
theorem Reps.one{d:D}{v:V}(q:Rep K O H d v):Reps K O H [d] [v]:=Reps.cons_i.mpr ⟨v,[],rfl,q,Reps.nil_i.mpr rfl⟩
def isS:HO->Bool
 | .lst _=>true
 | .ins _ _ _=>true
 | .dK _=>true
 | .dT _=>true
 | .frz _ (.dK _)=>true
 | .frz _ (.dT _)=>true
 | .tbl _=>true
 | _=>false
theorem Zgl{a p:Addr}{o:HO}{vs:List V}(h:H a=some (.tup vs))(hp:H p=none\/∃o,H p=some o/\isS o=true):upd H p o a=some (.tup vs):=by
 rw[Zk]
 ·exact h
 ·rintro rfl;rcases hp with q | ⟨u,q,z⟩
  ·rw[q] at h; cases h
  ·rw[q] at h; cases h; cases z
theorem Zfn{a p:Addr}{o:HO}{vs:List V}(h:SqF K H a vs)(hp:H p=none\/∃o,H p=some o/\isS o=true):SqF K (upd H p o) a vs:=by
 rcases h with⟨ob,h⟩ | h
 ·refine .inl ⟨ob,?_⟩;rw[Zk]
  ·exact h
  ·rintro rfl;rcases hp with q | ⟨u,q,z⟩
   ·rw[q] at h; cases h
   ·rw[q] at h; cases h; cases z
 ·exact .inr h
theorem Keep.laid{p:Addr}{o:HO}(hp:H p=none):Keep K O H O (upd H p o) :=
 ⟨fun _ _ h=>Zgl h (.inl hp),fun a vs n h=>⟨n,by rw[Zk (Zy h hp)]; exact h⟩,fun _ _ h=>Zfn h (.inl hp),fun _ _ h=>h,fun a C h=>by rw[Zk (Zy h hp)]; exact h⟩
theorem RepS.mono'(k:Keep K O H O' H'){a:Addr}(e:H' a=H a):∀{s:S},RepS K O H a s->RepS K O' H' a s
 | .lst ds,h=>by
  obtain⟨vs,q,r⟩:=h;exact⟨vs,by rw[e]; exact q,Reps.mono k _ _ r⟩
 | .ins C fs,h=>by
  obtain⟨dx,vs,q,r⟩:=h;exact⟨dx,vs,by rw[e]; exact q,Flds.mono k _ _ r⟩
 | .dct ds,h=>by
  obtain⟨vs,q,r⟩:=h;exact⟨vs,by rw[e]; exact q,Kvs.mono k _ _ r⟩
 | .dtt ds,h=>by
  obtain⟨vs,q,r⟩:=h;exact⟨vs,by rw[e]; exact q,Kvs.mono k _ _ r⟩
 | .fdc ds,h=>by
  obtain⟨o,vs,q,r⟩:=h;exact⟨o,vs,by rw[e]; exact q,Kvs.mono k _ _ r⟩
 | .fdt o ds,h=>by
  obtain⟨vs,q,r⟩:=h;exact⟨vs,by rw[e]; exact q,Kvs.mono k _ _ r⟩
 | .tab P b,h=>by
  obtain⟨z,ps,q,r⟩:=h;exact⟨z,ps,by rw[e]; exact q,r⟩
theorem RepS.some_of{a:Addr}:∀{s:S},RepS K O H a s->∃o,H a=some o/\isS o=true
 | .lst ds,⟨vs,q,_⟩=>⟨_,q,rfl⟩
 | .ins C fs,⟨dx,vs,q,_⟩=>⟨_,q,rfl⟩
 | .dct ds,⟨vs,q,_⟩=>⟨_,q,rfl⟩
 | .dtt ds,⟨vs,q,_⟩=>⟨_,q,rfl⟩
 | .fdc ds,⟨_,vs,q,_⟩=>⟨_,q,rfl⟩
 | .fdt o ds,⟨vs,q,_⟩=>⟨_,q,rfl⟩
 | .tab P b,⟨_,ps,q,_⟩=>⟨_,q,rfl⟩
theorem WR.some_of(W:WR K O H st){i:Nat}{a:Addr}(h:O[i]?=some a):∃o,H a=some o/\isS o=true:=by
 have hi:i<st.length:=by rw[<-W.len]; exact (Yo.mp h).1
 exact (W.at_ i a st[i] h (Yd hi)).some_of
theorem WR.ne(W:WR K O H st){i:Nat}{a p:Addr}(h:O[i]?=some a)(hp:H p=none):a≠p:=by
 rintro rfl;obtain⟨_,q,_⟩:=W.some_of h;rw[hp] at q;cases q
theorem WR.laid(W:WR K O H st){p:Addr}{o:HO}(hp:H p=none):WR K O (upd H p o) st :=
 ⟨W.len,W.nd,fun i a s h1 h2=>(W.at_ i a s h1 h2).mono' (Keep.laid hp) (by rw[Zk (W.ne h1 hp)])⟩
theorem Keep.push{p:Addr}{o:HO}(hp:H p=none):Keep K O H (O++[p]) (upd H p o) :=
 ⟨fun _ _ h=>Zgl h (.inl hp),fun a vs n h=>⟨fun hm=>by
   rcases YR.mp hm with q | q
   ·exact n q
   ·rw[YA] at q; exact Zy h hp q,by rw[Zk (Zy h hp)]; exact h⟩,
  fun _ _ h=>Zfn h (.inl hp),fun i a h=>by rw[Y6 (Yo.mp h).1]; exact h,fun a C h=>by rw[Zk (Zy h hp)]; exact h⟩
theorem WR.push'(W:WR K O H st){p:Addr}{o:HO}{s:S}(hp:H p=none)(hs:RepS K (O++[p]) (upd H p o) p s):WR K (O++[p]) (upd H p o) (st++[s]):=by
 refine⟨by simp[W.len],?_,fun i a s' h1 h2 => ?_⟩
 ·refine Q8.mpr ⟨W.nd,by simp,fun a ha b hb => ?_⟩;rw[YA] at hb;subst hb;obtain⟨i,hi⟩:=Vb.mp ha;exact W.ne hi hp
 ·by_cases hi:i<O.length
  ·rw[Y6 hi] at h1;rw[Y6 (by rw[<-W.len]; exact hi)] at h2;exact (W.at_ i a s' h1 h2).mono' (Keep.push hp) (by rw[Zk (W.ne h1 hp)])
  ·rw[Wi (by omega)] at h1;rw[Wi (by rw[<-W.len]; omega)] at h2;rw[<-W.len] at h2;have e0:i - O.length=0:=by
    have:=(Yo.mp h1).1;simp at this;omega
   rw[e0] at h1 h2;simp at h1 h2;subst h1 h2;exact hs
theorem WR.push(W:WR K O H st){p:Addr}{ds:List D}{vs:List V}(hp:H p=none)(r:Reps K O H ds vs):WR K (O++[p]) (upd H p (.lst vs)) (st++[.lst ds]) :=
 W.push' hp ⟨vs,ZW,Reps.mono (Keep.push hp) _ _ r⟩
theorem Zkd{p:Addr}{st:Sto}(e:O.length=st.length):Rep K (O++[p]) H' (.res st.length) (.ref p):=by
 rw[Rep.res_i];exact⟨p,rfl,by rw[<-e,Wi (Yj _)]; simp⟩
theorem Keep.write(W:WR K O H st){i:Nat}{a:Addr}{o:HO}(h:O[i]?=some a):Keep K O H O (upd H a o):=by
 have q:=W.some_of h;refine⟨fun _ _ z=>Zgl z (.inr q),fun b vs n z=>⟨n,?_⟩,fun _ _ z=>Zfn z (.inr q),fun _ _ z=>z,fun b C z => ?_⟩
 ·rw[Zk]
  ·exact z
  ·rintro rfl;exact n (Wa h)
 ·rw[Zk]
  ·exact z
  ·rintro rfl;obtain⟨_,q,y⟩:=q;rw[z] at q;cases q;cases y
theorem WR.write(W:WR K O H st){i:Nat}{a:Addr}{o:HO}{s:S}(h:O[i]?=some a)(hs:RepS K O (upd H a o) a s):WR K O (upd H a o) (st.set i s):=by
 refine⟨by rw[QZ]; exact W.len,W.nd,fun j b s' h1 h2 => ?_⟩;by_cases hj:i=j
 ·subst hj;rw[h] at h1;cases h1;have hi:i<st.length:=by rw[<-W.len]; exact (Yo.mp h).1
  rw[W0 hi] at h2;cases h2;exact hs
 ·rw[WS hj] at h2;refine (W.at_ j b s' h1 h2).mono' (Keep.write W h) ?_;rw[Zk];rintro rfl;exact hj (Zjw W.nd h h1)
theorem WR.writeL(W:WR K O H st){i:Nat}{a:Addr}{ds:List D}{vs:List V}(h:O[i]?=some a)(r:Reps K O H ds vs):WR K O (upd H a (.lst vs)) (st.set i (.lst ds)) :=
 W.write h ⟨vs,ZW,Reps.mono (Keep.write W h) _ _ r⟩
def Zj(st:Sto):D->Option (List D)
 | .lst xs=>some xs
 | .scr xs=>some xs
 | .res i=>match st[i]? with
  | some (.lst xs)=>some xs
  | _=>none
 | _=>none
def ZaI(st:Sto):D->Option (List D)
 | .lst xs=>some xs
 | .res i=>match st[i]? with
  | some (.lst xs)=>some xs
  | _=>none
 | _=>none
theorem rdO(W:WR K O H st){d:D}{v:V}{ds:List D}(r:Rep K O H d v)(e:ZaI st d=some ds):∃a vs,v = .ref a/\H a=some (.lst vs)/\Reps K O H ds vs:=by
 cases d with
 | lst xs =>
  rw[Rep.lst_i] at r;obtain⟨a,vs,rfl,_,q,t⟩:=r;simp only[ZaI,Yu] at e;subst e;exact⟨a,vs,rfl,q,t⟩
 | res i =>
  rw[Rep.res_i] at r;obtain⟨a,rfl,q⟩:=r;have hi:i<st.length:=by rw[<-W.len]; exact (Yo.mp q).1
  have z:=W.at_ i a st[i] q (Yd hi);simp only[ZaI,Yd hi] at e;cases hs:st[i] with
  | lst xs =>
   rw[hs] at e z;simp only[Yu] at e;subst e;obtain⟨vs,z1,z2⟩:=z;exact⟨a,vs,rfl,z1,z2⟩
  | _=>rw[hs] at e; cases e
 | _=>cases e
theorem rdL(W:WR K O H st){d:D}{v:V}{ds:List D}(r:Rep K O H d v)(e:Zj st d=some ds):∃a vs,v = .ref a/\SqL K H a vs/\Reps K O H ds vs:=by
 cases d with
 | scr xs =>
  rw[Rep.scr_i] at r;obtain⟨a,vs,rfl,q,t⟩:=r;simp only[Zj,Yu] at e;subst e;exact⟨a,vs,rfl,q.sq,t⟩
 | lst xs =>
  obtain⟨a,vs,h1,h2,h3⟩:=rdO W r (show ZaI st (.lst xs)=some ds from e);exact⟨a,vs,h1,SqL.of h2,h3⟩
 | res i =>
  obtain⟨a,vs,h1,h2,h3⟩:=rdO W r (show ZaI st (.res i)=some ds from e);exact⟨a,vs,h1,SqL.of h2,h3⟩
 | _=>cases e
section
variable{X:Cx}{pins:List (Addr×Obj)}{σ:L2.St}{s:P0}
theorem Zbc(I:Inv X pins σ H s){a:Addr}{o:Obj}(h:X.K.lookup a=some o):H a=none:=(I.bs a o (I.ok.mod.kin a o h)).2
end
end
end DL
end
section
namespace DL
open PySem PySem.Spec PyProof.Rows L2
def Ans(A:P3)(s:P0)(u w:P6)(k:Bool):Prop:=SeqAt.EqAt A s u w k/\SeqAt.RcAt A s u w k/\SeqAt.RcNeAt A s u w (!k)
section
variable{A:P3}{s:P0}
theorem Zpi:Ans A s .none .none true:=⟨SeqAt.EqAt.same _,SeqAt.RcAt.none_none,SeqAt.RcNeAt.none_none⟩
theorem ZpJ{b2:Bool}:Ans A s .none (.bool b2) false:=⟨SeqAt.EqAt.none_bool _,SeqAt.RcAt.none_bool _,SeqAt.RcNeAt.none_bool _⟩
theorem Zkn{i2:Int}{t2:Tok}:Ans A s .none (.int i2 t2) false:=⟨SeqAt.EqAt.none_int _ _,SeqAt.RcAt.none_int _ _,SeqAt.RcNeAt.none_int _ _⟩
theorem ZlY{x2:Str}{t2:Tok}:Ans A s .none (.str x2 t2) false:=⟨SeqAt.EqAt.none_str _ _,SeqAt.RcAt.none_str _ _,SeqAt.RcNeAt.none_str _ _⟩
theorem Zk7{a2:Addr}{its2:Array P6}(z2:s.heap.IsTuple a2 its2)(hu:A.units<cLine):Ans A s .none (.ref a2) false:=⟨SeqAt.EqAt.none_tuple z2 hu,SeqAt.RcAt.none_tuple z2 hu,SeqAt.RcNeAt.none_tuple z2 hu⟩
theorem Znl{a2:Addr}{its2:Array P6}(z2:s.heap.IsList a2 its2)(hu:A.units<cLine):Ans A s .none (.ref a2) false:=⟨SeqAt.EqAt.none_list z2 hu,SeqAt.RcAt.none_list z2 hu,SeqAt.RcNeAt.none_list z2 hu⟩
theorem ZmG{b1:Bool}:Ans A s (.bool b1) .none false:=⟨SeqAt.EqAt.bool_none _,SeqAt.RcAt.bool_none _,SeqAt.RcNeAt.bool_none _⟩
theorem Znp{b1:Bool}{b2:Bool}:Ans A s (.bool b1) (.bool b2) (b1 == b2):=⟨SeqAt.EqAt.bool_bool _ _,SeqAt.RcAt.bool_bool _ _,SeqAt.RcNeAt.bool_bool _ _⟩
theorem Zn8{b1:Bool}{i2:Int}{t2:Tok}:Ans A s (.bool b1) (.int i2 t2) ((if b1 then 1 else 0) == i2):=⟨SeqAt.EqAt.bool_int _ _ _,SeqAt.RcAt.bool_int _ _ _,SeqAt.RcNeAt.bool_int _ _ _⟩
theorem Zp4{b1:Bool}{x2:Str}{t2:Tok}:Ans A s (.bool b1) (.str x2 t2) false:=⟨SeqAt.EqAt.bool_str _ _ _,SeqAt.RcAt.bool_str _ _ _,SeqAt.RcNeAt.bool_str _ _ _⟩
theorem ZmK{b1:Bool}{a2:Addr}{its2:Array P6}(z2:s.heap.IsTuple a2 its2)(hu:A.units<cLine):Ans A s (.bool b1) (.ref a2) false:=⟨SeqAt.EqAt.bool_tuple _ z2 hu,SeqAt.RcAt.bool_tuple _ z2 hu,SeqAt.RcNeAt.bool_tuple _ z2 hu⟩
theorem Zmi{b1:Bool}{a2:Addr}{its2:Array P6}(z2:s.heap.IsList a2 its2)(hu:A.units<cLine):Ans A s (.bool b1) (.ref a2) false:=⟨SeqAt.EqAt.bool_list _ z2 hu,SeqAt.RcAt.bool_list _ z2 hu,SeqAt.RcNeAt.bool_list _ z2 hu⟩
theorem ZqE{i1:Int}{t1:Tok}:Ans A s (.int i1 t1) .none false:=⟨SeqAt.EqAt.int_none _ _,SeqAt.RcAt.int_none _ _,SeqAt.RcNeAt.int_none _ _⟩
theorem Zmf{i1:Int}{t1:Tok}{b2:Bool}:Ans A s (.int i1 t1) (.bool b2) (i1 == (if b2 then 1 else 0)):=⟨SeqAt.EqAt.int_bool _ _ _,SeqAt.RcAt.int_bool _ _ _,SeqAt.RcNeAt.int_bool _ _ _⟩
theorem ZnU{i1:Int}{t1:Tok}{i2:Int}{t2:Tok}:Ans A s (.int i1 t1) (.int i2 t2) (i1 == i2):=⟨SeqAt.EqAt.int_int _ _ _ _,SeqAt.RcAt.int_int _ _ _ _,SeqAt.RcNeAt.int_int _ _ _ _⟩
theorem ZkT{i1:Int}{t1:Tok}{x2:Str}{t2:Tok}:Ans A s (.int i1 t1) (.str x2 t2) false:=⟨SeqAt.EqAt.int_str _ _ _ _,SeqAt.RcAt.int_str _ _ _ _,SeqAt.RcNeAt.int_str _ _ _ _⟩
theorem Zny{i1:Int}{t1:Tok}{a2:Addr}{its2:Array P6}(z2:s.heap.IsTuple a2 its2)(hu:A.units<cLine):Ans A s (.int i1 t1) (.ref a2) false:=⟨SeqAt.EqAt.int_tuple _ _ z2 hu,SeqAt.RcAt.int_tuple _ _ z2 hu,SeqAt.RcNeAt.int_tuple _ _ z2 hu⟩
theorem Zqh{i1:Int}{t1:Tok}{a2:Addr}{its2:Array P6}(z2:s.heap.IsList a2 its2)(hu:A.units<cLine):Ans A s (.int i1 t1) (.ref a2) false:=⟨SeqAt.EqAt.int_list _ _ z2 hu,SeqAt.RcAt.int_list _ _ z2 hu,SeqAt.RcNeAt.int_list _ _ z2 hu⟩
theorem ZkG{x1:Str}{t1:Tok}:Ans A s (.str x1 t1) .none false:=⟨SeqAt.EqAt.str_none _ _,SeqAt.RcAt.str_none _ _,SeqAt.RcNeAt.str_none _ _⟩
theorem ZoK{x1:Str}{t1:Tok}{b2:Bool}:Ans A s (.str x1 t1) (.bool b2) false:=⟨SeqAt.EqAt.str_bool _ _ _,SeqAt.RcAt.str_bool _ _ _,SeqAt.RcNeAt.str_bool _ _ _⟩
theorem Zqd{x1:Str}{t1:Tok}{i2:Int}{t2:Tok}:Ans A s (.str x1 t1) (.int i2 t2) false:=⟨SeqAt.EqAt.str_int _ _ _ _,SeqAt.RcAt.str_int _ _ _ _,SeqAt.RcNeAt.str_int _ _ _ _⟩
theorem ZoW{x1:Str}{t1:Tok}{x2:Str}{t2:Tok}:Ans A s (.str x1 t1) (.str x2 t2) (x1 == x2):=⟨SeqAt.EqAt.str_str _ _ _ _,SeqAt.RcAt.str_str _ _ _ _,SeqAt.RcNeAt.str_str _ _ _ _⟩
theorem Zqf{x1:Str}{t1:Tok}{a2:Addr}{its2:Array P6}(z2:s.heap.IsTuple a2 its2)(hu:A.units<cLine):Ans A s (.str x1 t1) (.ref a2) false:=⟨SeqAt.EqAt.str_tuple _ _ z2 hu,SeqAt.RcAt.str_tuple _ _ z2 hu,SeqAt.RcNeAt.str_tuple _ _ z2 hu⟩
theorem ZpD{x1:Str}{t1:Tok}{a2:Addr}{its2:Array P6}(z2:s.heap.IsList a2 its2)(hu:A.units<cLine):Ans A s (.str x1 t1) (.ref a2) false:=⟨SeqAt.EqAt.str_list _ _ z2 hu,SeqAt.RcAt.str_list _ _ z2 hu,SeqAt.RcNeAt.str_list _ _ z2 hu⟩
theorem ZkE{a1:Addr}{its1:Array P6}(z1:s.heap.IsTuple a1 its1)(hu:A.units<cLine):Ans A s (.ref a1) .none false:=⟨SeqAt.EqAt.tuple_none z1 hu,SeqAt.RcAt.tuple_none z1 hu,SeqAt.RcNeAt.tuple_none z1 hu⟩
theorem Zkz{a1:Addr}{its1:Array P6}(z1:s.heap.IsTuple a1 its1){b2:Bool}(hu:A.units<cLine):Ans A s (.ref a1) (.bool b2) false:=⟨SeqAt.EqAt.tuple_bool _ z1 hu,SeqAt.RcAt.tuple_bool _ z1 hu,SeqAt.RcNeAt.tuple_bool _ z1 hu⟩
theorem Zp7{a1:Addr}{its1:Array P6}(z1:s.heap.IsTuple a1 its1){i2:Int}{t2:Tok}(hu:A.units<cLine):Ans A s (.ref a1) (.int i2 t2) false:=⟨SeqAt.EqAt.tuple_int _ _ z1 hu,SeqAt.RcAt.tuple_int _ _ z1 hu,SeqAt.RcNeAt.tuple_int _ _ z1 hu⟩
theorem Zpb{a1:Addr}{its1:Array P6}(z1:s.heap.IsTuple a1 its1){x2:Str}{t2:Tok}(hu:A.units<cLine):Ans A s (.ref a1) (.str x2 t2) false:=⟨SeqAt.EqAt.tuple_str _ _ z1 hu,SeqAt.RcAt.tuple_str _ _ z1 hu,SeqAt.RcNeAt.tuple_str _ _ z1 hu⟩
theorem ZkK{a1:Addr}{its1:Array P6}(z1:s.heap.IsTuple a1 its1){a2:Addr}{its2:Array P6}(z2:s.heap.IsList a2 its2)(hu:A.units<cLine):Ans A s (.ref a1) (.ref a2) false:=⟨SeqAt.EqAt.tuple_list z1 z2 hu,SeqAt.RcAt.tuple_list z1 z2 hu,SeqAt.RcNeAt.tuple_list z1 z2 hu⟩
theorem Zl8{a1:Addr}{its1:Array P6}(z1:s.heap.IsList a1 its1)(hu:A.units<cLine):Ans A s (.ref a1) .none false:=⟨SeqAt.EqAt.list_none z1 hu,SeqAt.RcAt.list_none z1 hu,SeqAt.RcNeAt.list_none z1 hu⟩
theorem Zo4{a1:Addr}{its1:Array P6}(z1:s.heap.IsList a1 its1){b2:Bool}(hu:A.units<cLine):Ans A s (.ref a1) (.bool b2) false:=⟨SeqAt.EqAt.list_bool _ z1 hu,SeqAt.RcAt.list_bool _ z1 hu,SeqAt.RcNeAt.list_bool _ z1 hu⟩
theorem Znw{a1:Addr}{its1:Array P6}(z1:s.heap.IsList a1 its1){i2:Int}{t2:Tok}(hu:A.units<cLine):Ans A s (.ref a1) (.int i2 t2) false:=⟨SeqAt.EqAt.list_int _ _ z1 hu,SeqAt.RcAt.list_int _ _ z1 hu,SeqAt.RcNeAt.list_int _ _ z1 hu⟩
theorem ZqG{a1:Addr}{its1:Array P6}(z1:s.heap.IsList a1 its1){x2:Str}{t2:Tok}(hu:A.units<cLine):Ans A s (.ref a1) (.str x2 t2) false:=⟨SeqAt.EqAt.list_str _ _ z1 hu,SeqAt.RcAt.list_str _ _ z1 hu,SeqAt.RcNeAt.list_str _ _ z1 hu⟩
theorem ZkA{a1:Addr}{its1:Array P6}(z1:s.heap.IsList a1 its1){a2:Addr}{its2:Array P6}(z2:s.heap.IsTuple a2 its2)(hu:A.units<cLine):Ans A s (.ref a1) (.ref a2) false:=⟨SeqAt.EqAt.list_tuple z1 z2 hu,SeqAt.RcAt.list_tuple z1 z2 hu,SeqAt.RcNeAt.list_tuple z1 z2 hu⟩
end
inductive Kd where
 | non | bl (b:Bool) | int (i:Int) | str (x:Str) | tup (xs:List D) | lst (xs:List D) | no
def kd(st:Sto):D->Kd
 | .non => .non
 | .bl b => .bl b
 | .int i => .int i
 | .str x => .str x
 | .tup xs => .tup xs
 | .lst xs => .lst xs
 | .scr xs => .lst xs
 | .res i=>match st[i]? with
  | some (.lst xs) => .lst xs
  | _ => .no
 | .exv _ => .no
def ZU(f:D->D->Option Bool):List D->List D->Option Bool
 | [],[]=>some true
 | [],_ :: _=>some false
 | _ :: _,[]=>some false
 | x :: xs,y :: ys=>match f x y,ZU f xs ys with
  | some a,some b=>some (a && b)
  | _,_=>none
def eqN(st:Sto):Nat->D->D->Option Bool
 | 0,_,_=>none
 | n+1,a,b=>match kd st a,kd st b with
  | .tup xs,.tup ys=>ZU (eqN st n) xs ys
  | .lst xs,.lst ys=>ZU (eqN st n) xs ys
  | .non,.non=>some true
  | .bl x,.bl y=>some (x == y)
  | .int x,.int y=>some (x == y)
  | .str x,.str y=>some (x == y)
  | .bl x,.int y=>some ((if x then 1 else 0) == y)
  | .int x,.bl y=>some (x == (if y then 1 else 0))
  | .no,_=>none
  | _,.no=>none
  | _,_=>some false
section
variable{X:Cx}{pins:List (Addr×Obj)}{σ:L2.St}{s:P0}{O:List Addr}{H:Hp}{st:Sto}
theorem ZgD(I:Inv X pins σ H s){a:Addr}{vs xs:List V}(h:SqT X.K H a vs)(q:H a=some (.lst xs)):False:=by
 rcases h with (h | ⟨ob,h⟩) | ⟨o,_,_,h,_⟩
 ·rw[h] at q; cases q
 ·rw[h] at q; cases q
 ·rw[Zbc I h] at q; cases q
theorem ZiN(I:Inv X pins σ H s){a:Addr}{vs xs:List V}(h:SqF X.K H a vs)(q:H a=some (.lst xs)):False:=by
 rcases h with⟨ob,h⟩ | ⟨o,_,_,h,_⟩
 ·rw[h] at q; cases q
 ·rw[Zbc I h] at q; cases q
theorem Zja(I:Inv X pins σ H s){a:Addr}{vs xs:List V}(h:SqT X.K H a vs)(q:SqF X.K H a xs):False:=by
 rcases h with (h | ⟨ob,h⟩) | ⟨o,_,_,h,c,_⟩ <;> rcases q with⟨ob',q⟩ | ⟨o',_,_,q,c',_⟩
 ·rw[h] at q; cases q
 ·rw[Zbc I q] at h; cases h
 ·rw[h] at q; cases q
 ·rw[Zbc I q] at h; cases h
 ·rw[Zbc I h] at q; cases q
 ·rw[h] at q; cases q; rw[c] at c'; exact absurd (Value.type.inj c') (by decide)
theorem Zo9(I:Inv X pins σ H s){a:Addr}{vs:List V}{o:HO}(h:SqT X.K H a vs)(q:H a=some o)(z:isS o=true):False:=by
 rcases h with (h | ⟨ob,h⟩) | ⟨_,_,_,h,_⟩
 ·rw[h] at q; cases q; cases z
 ·rw[h] at q; cases q; cases z
 ·rw[Zbc I h] at q; cases q
theorem Znd(I:Inv X pins σ H s){a:Addr}{vs:List V}{o:HO}(h:SqF X.K H a vs)(q:H a=some o)(z:isS o=true):False:=by
 rcases h with⟨ob,h⟩ | ⟨_,_,_,h,_⟩
 ·rw[h] at q; cases q; cases z
 ·rw[Zbc I h] at q; cases q
theorem Zi5(I:Inv X pins σ H s){a:Addr}{vs:List V}{φ:Heap->Prop}(h:SqT X.K H a vs)(q:H a=some (.ext φ)):False:=by
 rcases h with (h | ⟨ob,h⟩) | ⟨_,_,_,h,_⟩
 ·rw[h] at q; cases q
 ·rw[h] at q; cases q
 ·rw[Zbc I h] at q; cases q
theorem ZgC(I:Inv X pins σ H s){a:Addr}{vs:List V}{φ:Heap->Prop}(h:SqF X.K H a vs)(q:H a=some (.ext φ)):False:=by
 rcases h with⟨ob,h⟩ | ⟨_,_,_,h,_⟩
 ·rw[h] at q; cases q
 ·rw[Zbc I h] at q; cases q
theorem Zhu(I:Inv X pins σ H s)(W:WR X.K O H st){i:Nat}{a:Addr}{vs:List V}(h:O[i]?=some a)(q:SqT X.K H a vs):False:=by
 obtain⟨o,z,y⟩:=W.some_of h;exact Zo9 I q z y
theorem Zhb(I:Inv X pins σ H s)(W:WR X.K O H st){i:Nat}{a:Addr}{vs:List V}(h:O[i]?=some a)(q:SqF X.K H a vs):False:=by
 obtain⟨o,z,y⟩:=W.some_of h;exact Znd I q z y
theorem Zh3(W:WR X.K O H st){i:Nat}{a:Addr}{φ:Heap->Prop}(h:O[i]?=some a)(q:H a=some (.ext φ)):False:=by
 obtain⟨o,z,y⟩:=W.some_of h;rw[q] at z;cases z;cases y
mutual
theorem Rep.inj(I:Inv X pins σ H s)(W:WR X.K O H st):∀(d d':D) (v:V),Rep X.K O H d v->Rep X.K O H d' v->d=d'
 | .non,d',v,h,h'=>by
  rw[Rep.non_i] at h; subst h;cases d' <;> unfold Rep at h' <;> first | rfl | (cases h'; done) | (obtain⟨_,_,e,_⟩:=h'; cases e) | (obtain⟨_,e,_⟩:=h'; cases e)
 | .bl b,d',v,h,h'=>by
  rw[Rep.bl_i] at h; subst h;cases d' <;> unfold Rep at h' <;> first | (cases h'; rfl) | (cases h'; done) | (obtain⟨_,_,e,_⟩:=h'; cases e) | (obtain⟨_,e,_⟩:=h'; cases e)
 | .int b,d',v,h,h'=>by
  rw[Rep.int_i] at h; subst h;cases d' <;> unfold Rep at h' <;> first | (cases h'; rfl) | (cases h'; done) | (obtain⟨_,_,e,_⟩:=h'; cases e) | (obtain⟨_,e,_⟩:=h'; cases e)
 | .str b,d',v,h,h'=>by
  rw[Rep.str_i] at h; subst h;cases d' <;> unfold Rep at h' <;> first | (cases h'; rfl) | (cases h'; done) | (obtain⟨_,_,e,_⟩:=h'; cases e) | (obtain⟨_,e,_⟩:=h'; cases e)
 | .tup ds,d',v,h,h'=>by
  rw[Rep.tup_i] at h;obtain⟨a,vs,rfl,q,r⟩:=h;cases d' with
  | tup ds' =>
   rw[Rep.tup_i] at h';obtain⟨a',vs',e,q',r'⟩:=h';cases e;have ev:vs=vs':=I.tuple_inj (SqT.of q) (SqT.of q');subst ev;rw[Reps.inj I W ds ds' vs r r']
  | lst ds'=>rw[Rep.lst_i] at h'; obtain⟨a',vs',e,_,q',_⟩:=h'; cases e; exact (ZgD I (SqT.of q) q').elim
  | scr ds'=>rw[Rep.scr_i] at h'; obtain⟨a',vs',e,q',_⟩:=h'; cases e; exact (Zja I (SqT.of q) q').elim
  | res i=>rw[Rep.res_i] at h'; obtain⟨a',e,q'⟩:=h'; cases e; exact (Zhu I W q' (SqT.of q)).elim
  | exv C=>rw[Rep.exv_i] at h'; obtain⟨a',e,q'⟩:=h'; cases e; exact (Zi5 I (SqT.of q) q').elim
  | _=>unfold Rep at h'; cases h'
 | .lst ds,d',v,h,h'=>by
  rw[Rep.lst_i] at h;obtain⟨a,vs,rfl,n,q,r⟩:=h;cases d' with
  | tup ds'=>rw[Rep.tup_i] at h'; obtain⟨a',vs',e,q',_⟩:=h'; cases e; exact (ZgD I (SqT.of q') q).elim
  | lst ds' =>
   rw[Rep.lst_i] at h';obtain⟨a',vs',e,_,q',r'⟩:=h';cases e;rw[q] at q';cases q';rw[Reps.inj I W ds ds' vs r r']
  | scr ds'=>rw[Rep.scr_i] at h'; obtain⟨a',vs',e,q',_⟩:=h'; cases e; exact (ZiN I q' q).elim
  | res i=>rw[Rep.res_i] at h'; obtain⟨a',e,q'⟩:=h'; cases e; exact (n (Wa q')).elim
  | exv C=>rw[Rep.exv_i] at h'; obtain⟨a',e,q'⟩:=h'; cases e; rw[q] at q'; cases q'
  | _=>unfold Rep at h'; cases h'
 | .scr ds,d',v,h,h'=>by
  rw[Rep.scr_i] at h;obtain⟨a,vs,rfl,q,r⟩:=h;cases d' with
  | tup ds'=>rw[Rep.tup_i] at h'; obtain⟨a',vs',e,q',_⟩:=h'; cases e; exact (Zja I (SqT.of q') q).elim
  | lst ds'=>rw[Rep.lst_i] at h'; obtain⟨a',vs',e,_,q',_⟩:=h'; cases e; exact (ZiN I q q').elim
  | scr ds' =>
   rw[Rep.scr_i] at h';obtain⟨a',vs',e,q',r'⟩:=h';cases e;have ev:vs=vs':=I.list_inj q.sq q'.sq;subst ev;rw[Reps.inj I W ds ds' vs r r']
  | res i=>rw[Rep.res_i] at h'; obtain⟨a',e,q'⟩:=h'; cases e; exact (Zhb I W q' q).elim
  | exv C=>rw[Rep.exv_i] at h'; obtain⟨a',e,q'⟩:=h'; cases e; exact (ZgC I q q').elim
  | _=>unfold Rep at h'; cases h'
 | .res i,d',v,h,h'=>by
  rw[Rep.res_i] at h;obtain⟨a,rfl,q⟩:=h;cases d' with
  | tup ds'=>rw[Rep.tup_i] at h'; obtain⟨a',vs',e,q',_⟩:=h'; cases e; exact (Zhu I W q (SqT.of q')).elim
  | lst ds'=>rw[Rep.lst_i] at h'; obtain⟨a',vs',e,n,_,_⟩:=h'; cases e; exact (n (Wa q)).elim
  | scr ds'=>rw[Rep.scr_i] at h'; obtain⟨a',vs',e,q',_⟩:=h'; cases e; exact (Zhb I W q q').elim
  | res j =>
   rw[Rep.res_i] at h';obtain⟨a',e,q'⟩:=h';cases e;rw[Zjw W.nd q q']
  | exv C=>rw[Rep.exv_i] at h'; obtain⟨a',e,q'⟩:=h'; cases e; exact (Zh3 W q q').elim
  | _=>unfold Rep at h'; cases h'
 | .exv C,d',v,h,h'=>by
  rw[Rep.exv_i] at h;obtain⟨a,rfl,q⟩:=h;cases d' with
  | tup ds'=>rw[Rep.tup_i] at h'; obtain⟨a',vs',e,q',_⟩:=h'; cases e; exact (Zi5 I (SqT.of q') q).elim
  | lst ds'=>rw[Rep.lst_i] at h'; obtain⟨a',vs',e,n,q',_⟩:=h'; cases e; rw[q] at q'; cases q'
  | scr ds'=>rw[Rep.scr_i] at h'; obtain⟨a',vs',e,q',_⟩:=h'; cases e; exact (ZgC I q' q).elim
  | res j=>rw[Rep.res_i] at h'; obtain⟨a',e,q'⟩:=h'; cases e; exact (Zh3 W q' q).elim
  | exv C' =>
   rw[Rep.exv_i] at h';obtain⟨a',e,q'⟩:=h';cases e;rw[(I.hok _ _ q).1.inj (I.hok _ _ q').1]
  | _=>unfold Rep at h'; cases h'
theorem Reps.inj(I:Inv X pins σ H s)(W:WR X.K O H st):∀(ds ds':List D) (vs:List V),Reps X.K O H ds vs->Reps X.K O H ds' vs->ds=ds'
 | [],ds',vs,h,h'=>by
  rw[Reps.nil_i] at h; subst h;cases ds' with
  | nil=>rfl
  | cons d r=>obtain⟨_,_,e,_⟩:=Reps.cons_i.mp h'; cases e
 | d :: ds,ds',vs,h,h'=>by
  obtain⟨v,r,rfl,q,t⟩:=Reps.cons_i.mp h;cases ds' with
  | nil=>rw[Reps.nil_i] at h'; cases h'
  | cons d' r' =>
   obtain⟨v',r2,e,q',t'⟩:=Reps.cons_i.mp h';cases e;rw[Rep.inj I W d d' v q q',Reps.inj I W ds r' r t t']
end
theorem Zck{f:D->D->Option Bool}(hf:∀d k,f d d=some k->k=true):∀(xs:List D) (k:Bool),ZU f xs xs=some k->k=true
 | [],k,h=>by simp only[ZU,Yu] at h; exact h.symm
 | x :: xs,k,h=>by
  unfold ZU at h;cases e1:f x x with
  | none=>rw[e1] at h; cases h
  | some a =>
   cases e2:ZU f xs xs with
   | none=>rw[e1,e2] at h; cases h
   | some b =>
    rw[e1,e2] at h;simp only[Yu] at h;rw[<-h,hf x a e1,Zck hf xs b e2];rfl
theorem ZeO:∀(n:Nat) (d:D) (k:Bool),eqN st n d d=some k->k=true
 | 0,d,k,h=>by cases h
 | n+1,d,k,h=>by
  unfold eqN at h;cases e:kd st d <;> rw[e] at h <;> simp only[QM,Yu] at h
  case tup xs=>exact Zck (ZeO n) xs k h
  case lst xs=>exact Zck (ZeO n) xs k h
  case no=>cases h
  all_goals exact h.symm
theorem Zhk{f:D->D->Option Bool}:∀(xs ys:List D) (k:Bool),ZU f xs ys=some k ->
  (∀(j:Nat) (x y:D),xs[j]?=some x->ys[j]?=some y->∃kj,f x y=some kj) /\
  k=((List.range (min xs.length ys.length)).all (fun j=>((xs[j]?.bind fun x=>ys[j]?.bind fun y=>f x y).getD false)) && xs.length == ys.length)
 | [],[],k,h=>by
  simp only[ZU,Yu] at h;subst h;exact⟨fun j x y e=>by simp at e,rfl⟩
 | [],y :: ys,k,h=>by
  simp only[ZU,Yu] at h;subst h;exact⟨fun j x y e=>by simp at e,by simp⟩
 | x :: xs,[],k,h=>by
  simp only[ZU,Yu] at h;subst h;exact⟨fun j x y _ e=>by simp at e,by simp⟩
 | x :: xs,y :: ys,k,h=>by
  unfold ZU at h;cases e1:f x y with
  | none=>rw[e1] at h; cases h
  | some a =>
   cases e2:ZU f xs ys with
   | none=>rw[e1,e2] at h; cases h
   | some b =>
    rw[e1,e2] at h;simp only[Yu] at h;obtain⟨h1,h2⟩:=Zhk xs ys b e2;refine⟨fun j u w eu ew => ?_,?_⟩
    ·cases j with
     | zero=>simp at eu ew; subst eu ew; exact⟨a,e1⟩
     | succ j=>exact h1 j u w (by simpa using eu) (by simpa using ew)
    ·rw[<-h,h2];have em:min (x :: xs).length (y :: ys).length=min xs.length ys.length+1:=by simp only[Yx]; omega
     rw[em,List.range_succ_eq_map];simp only[QV,List.all_map,YF,Option.bind_some,e1,Option.getD_some,Yx,QC,YL,Nat.succ_eq_add_one,Bool.and_assoc];congr 2;by_cases hl:xs.length=ys.length
     ·simp[hl]
     ·have:¬ (xs.length+1=ys.length+1):=by omega
      simp[hl]
def KdV(K:P1)(O:List Addr)(H:Hp)(s:P0):Kd->P6->Prop
 | .non,u=>u = .none
 | .bl b,u=>u = .bool b
 | .int i,u => ∃t,u = .int i t
 | .str x,u => ∃t,u = .str x t
 | .tup xs,u => ∃a vs its,u = .ref a/\Reps K O H xs vs/\Vals vs its/\s.heap.IsTuple a its.toArray
 | .lst xs,u => ∃a vs its,u = .ref a/\Reps K O H xs vs/\Vals vs its/\s.heap.IsList a its.toArray
 | .no,_=>True
theorem Zf9(I:Inv X pins σ H s)(W:WR X.K O H st){d:D}{v:V}{u:P6}{xs:List D}(r:Rep X.K O H d v)(q:RelV v u)(e:Zj st d=some xs):KdV X.K O H s (.lst xs) u:=by
 obtain⟨a,vs,rfl,z,t⟩:=rdL W r e;obtain⟨its,hv,hp,_⟩:=I.list z;have q':u=Value.ref a:=q;subst q';exact⟨a,vs,its,rfl,t,hv,hp.isList⟩
theorem kdV(I:Inv X pins σ H s)(W:WR X.K O H st):∀{d:D} {v:V} {u:P6},Rep X.K O H d v->RelV v u->KdV X.K O H s (kd st d) u
 | .non,v,u,r,q=>by rw[Rep.non_i] at r; subst r; exact q
 | .bl b,v,u,r,q=>by rw[Rep.bl_i] at r; subst r; exact q
 | .int b,v,u,r,q=>by rw[Rep.int_i] at r; subst r; exact q
 | .str b,v,u,r,q=>by rw[Rep.str_i] at r; subst r; exact q
 | .tup ds,v,u,r,q=>by
  rw[Rep.tup_i] at r;obtain⟨a,vs,rfl,z,t⟩:=r;obtain⟨its,hv,hp,_⟩:=I.tuple (SqT.of z);have q':u=Value.ref a:=q;subst q';exact⟨a,vs,its,rfl,t,hv,hp⟩
 | .lst ds,v,u,r,q=>Zf9 I W r q rfl
 | .scr ds,v,u,r,q=>Zf9 I W r q rfl
 | .res i,v,u,r,q=>by
  have e:Zj st (.res i)=match st[i]? with
   | some (.lst xs)=>some xs
   | _=>none:=rfl
  have e':kd st (.res i)=match st[i]? with
   | some (.lst xs) => .lst xs
   | _ => .no:=rfl
  rw[e'];cases hs:st[i]? with
  | none=>exact trivial
  | some so =>
   cases so with
   | ins C fs=>exact trivial
   | dct kvs=>exact trivial
   | dtt kvs=>exact trivial
   | fdc kvs=>exact trivial
   | fdt o kvs=>exact trivial
   | tab P b=>exact trivial
   | lst xs =>
    rw[hs] at e;exact Zf9 I W r q e
 | .exv C,v,u,r,q=>trivial
theorem in1_units(A:P3):A.in1.units=A.units+1:=rfl
theorem Zc5(I:Inv X pins σ H s)(W:WR X.K O H st):∀(n:Nat) (a b:D) (k:Bool),eqN st n a b=some k->∀(A:P3) (x y:V) (u w:P6),
  Rep X.K O H a x->Rep X.K O H b y->RelV x u->RelV y w->A.units+n<cLine->Ans A s u w k
 | 0,a,b,k,h=>by cases h
 | n+1,a,b,k,h=>by
  intro A x y u w ra rb qa qb hn;have hu:A.units<cLine:=by omega
  have same:u=w->k=true:=by
   intro e;subst e;have e2:x=y:=qa.inj qb;subst e2;have e3:=Rep.inj I W a b x ra rb;subst e3;exact ZeO (n+1) a k h
  have ka:=kdV I W ra qa;have kb:=kdV I W rb qb;have items:∀{xs ys:List D} {vs ws:List V} {its its2:List P6},ZU (eqN st n) xs ys=some k->Reps X.K O H xs vs->Reps X.K O H ys ws->Vals vs its->Vals ws its2 ->
    (∀j (h1:j<its.toArray.size) (h2:j<its2.toArray.size),SeqAt.EqAt A.in1 s its.toArray[j] its2.toArray[j] ((xs[j]?.bind fun x=>ys[j]?.bind fun y=>eqN st n x y).getD false)) /\
    k=((List.range (min its.toArray.size its2.toArray.size)).all (fun j=>((xs[j]?.bind fun x=>ys[j]?.bind fun y=>eqN st n x y).getD false)) && its.toArray.size == its2.toArray.size):=by
   intro xs ys vs ws its its2 he r1 r2 v1 v2;obtain⟨h1,h2⟩:=Zhk xs ys k he;have l1:its.toArray.size=xs.length:=by rw[Yn,<-v1.length,r1.length]
   have l2:its2.toArray.size=ys.length:=by rw[Yn,<-v2.length,r2.length]
   refine⟨fun j j1 j2 => ?_,by rw[l1,l2]; exact h2⟩;have j1':j<xs.length:=by rw[<-l1]; exact j1
   have j2':j<ys.length:=by rw[<-l2]; exact j2
   have ex:xs[j]?=some xs[j]:=Yd j1';have ey:ys[j]?=some ys[j]:=Yd j2';obtain⟨kj,ek⟩:=h1 j xs[j] ys[j] ex ey;obtain⟨vx,e3,rx⟩:=r1.get ex;obtain⟨vy,e4,ry⟩:=r2.get ey;obtain⟨ux,e5,qx⟩:=v1.get e3;obtain⟨uy,e6,qy⟩:=v2.get e4;have e7:its.toArray[j]=ux:=by
    have:=(Yo.mp e5).2;simpa using this
   have e8:its2.toArray[j]=uy:=by
    have:=(Yo.mp e6).2;simpa using this
   rw[ex,ey,e7,e8];simp only[Option.bind_some,ek,Option.getD_some];exact (Zc5 I W n xs[j] ys[j] kj ek A.in1 vx vy ux uy rx ry qx qy (by rw[in1_units]; omega)).1
  unfold eqN at h;generalize kd st a=da at h ka;generalize kd st b=db at h kb;cases da with
  | no=>cases db <;> cases h
  | non =>
   cases db with
   | no=>cases h
   | non =>
    have e1:u=_:=ka;subst e1;have e2:w=_:=kb;subst e2;cases h;exact Zpi
   | bl b2 =>
    have e1:u=_:=ka;subst e1;have e2:w=_:=kb;subst e2;cases h;exact ZpJ
   | int i2 =>
    have e1:u=_:=ka;subst e1;obtain⟨t2,rfl⟩:=kb;cases h;exact Zkn
   | str x2 =>
    have e1:u=_:=ka;subst e1;obtain⟨t2,rfl⟩:=kb;cases h;exact ZlY
   | tup ys =>
    have e1:u=_:=ka;subst e1;obtain⟨a2,vs2,its2,rfl,r2,q2,z2⟩:=kb;cases h;exact Zk7 z2 hu
   | lst ys =>
    have e1:u=_:=ka;subst e1;obtain⟨a2,vs2,its2,rfl,r2,q2,z2⟩:=kb;cases h;exact Znl z2 hu
  | bl b1 =>
   cases db with
   | no=>cases h
   | non =>
    have e1:u=_:=ka;subst e1;have e2:w=_:=kb;subst e2;cases h;exact ZmG
   | bl b2 =>
    have e1:u=_:=ka;subst e1;have e2:w=_:=kb;subst e2;cases h;exact Znp
   | int i2 =>
    have e1:u=_:=ka;subst e1;obtain⟨t2,rfl⟩:=kb;cases h;exact Zn8
   | str x2 =>
    have e1:u=_:=ka;subst e1;obtain⟨t2,rfl⟩:=kb;cases h;exact Zp4
   | tup ys =>
    have e1:u=_:=ka;subst e1;obtain⟨a2,vs2,its2,rfl,r2,q2,z2⟩:=kb;cases h;exact ZmK z2 hu
   | lst ys =>
    have e1:u=_:=ka;subst e1;obtain⟨a2,vs2,its2,rfl,r2,q2,z2⟩:=kb;cases h;exact Zmi z2 hu
  | int i1 =>
   cases db with
   | no=>cases h
   | non =>
    obtain⟨t1,rfl⟩:=ka;have e2:w=_:=kb;subst e2;cases h;exact ZqE
   | bl b2 =>
    obtain⟨t1,rfl⟩:=ka;have e2:w=_:=kb;subst e2;cases h;exact Zmf
   | int i2 =>
    obtain⟨t1,rfl⟩:=ka;obtain⟨t2,rfl⟩:=kb;cases h;exact ZnU
   | str x2 =>
    obtain⟨t1,rfl⟩:=ka;obtain⟨t2,rfl⟩:=kb;cases h;exact ZkT
   | tup ys =>
    obtain⟨t1,rfl⟩:=ka;obtain⟨a2,vs2,its2,rfl,r2,q2,z2⟩:=kb;cases h;exact Zny z2 hu
   | lst ys =>
    obtain⟨t1,rfl⟩:=ka;obtain⟨a2,vs2,its2,rfl,r2,q2,z2⟩:=kb;cases h;exact Zqh z2 hu
  | str x1 =>
   cases db with
   | no=>cases h
   | non =>
    obtain⟨t1,rfl⟩:=ka;have e2:w=_:=kb;subst e2;cases h;exact ZkG
   | bl b2 =>
    obtain⟨t1,rfl⟩:=ka;have e2:w=_:=kb;subst e2;cases h;exact ZoK
   | int i2 =>
    obtain⟨t1,rfl⟩:=ka;obtain⟨t2,rfl⟩:=kb;cases h;exact Zqd
   | str x2 =>
    obtain⟨t1,rfl⟩:=ka;obtain⟨t2,rfl⟩:=kb;cases h;exact ZoW
   | tup ys =>
    obtain⟨t1,rfl⟩:=ka;obtain⟨a2,vs2,its2,rfl,r2,q2,z2⟩:=kb;cases h;exact Zqf z2 hu
   | lst ys =>
    obtain⟨t1,rfl⟩:=ka;obtain⟨a2,vs2,its2,rfl,r2,q2,z2⟩:=kb;cases h;exact ZpD z2 hu
  | tup xs =>
   cases db with
   | no=>cases h
   | non =>
    obtain⟨a1,vs1,its1,rfl,r1,q1,z1⟩:=ka;have e2:w=_:=kb;subst e2;cases h;exact ZkE z1 hu
   | bl b2 =>
    obtain⟨a1,vs1,its1,rfl,r1,q1,z1⟩:=ka;have e2:w=_:=kb;subst e2;cases h;exact Zkz z1 hu
   | int i2 =>
    obtain⟨a1,vs1,its1,rfl,r1,q1,z1⟩:=ka;obtain⟨t2,rfl⟩:=kb;cases h;exact Zp7 z1 hu
   | str x2 =>
    obtain⟨a1,vs1,its1,rfl,r1,q1,z1⟩:=ka;obtain⟨t2,rfl⟩:=kb;cases h;exact Zpb z1 hu
   | tup ys =>
    obtain⟨a1,vs1,its1,rfl,r1,q1,z1⟩:=ka;obtain⟨a2,vs2,its2,rfl,r2,q2,z2⟩:=kb;obtain⟨he,hk⟩:=items h r1 r2 q1 q2;have R:=SeqAt.RcAt.tuples z1 z2 hu he;have N:=SeqAt.RcNeAt.tuples z1 z2 hu he;rw[<-hk] at R N;refine⟨?_,R,N⟩;by_cases ea:a1=a2
    ·subst ea;rw[same rfl];exact SeqAt.EqAt.same _
    ·exact SeqAt.EqAt.of_refs ea R
   | lst ys =>
    obtain⟨a1,vs1,its1,rfl,r1,q1,z1⟩:=ka;obtain⟨a2,vs2,its2,rfl,r2,q2,z2⟩:=kb;cases h;exact ZkK z1 z2 hu
  | lst xs =>
   cases db with
   | no=>cases h
   | non =>
    obtain⟨a1,vs1,its1,rfl,r1,q1,z1⟩:=ka;have e2:w=_:=kb;subst e2;cases h;exact Zl8 z1 hu
   | bl b2 =>
    obtain⟨a1,vs1,its1,rfl,r1,q1,z1⟩:=ka;have e2:w=_:=kb;subst e2;cases h;exact Zo4 z1 hu
   | int i2 =>
    obtain⟨a1,vs1,its1,rfl,r1,q1,z1⟩:=ka;obtain⟨t2,rfl⟩:=kb;cases h;exact Znw z1 hu
   | str x2 =>
    obtain⟨a1,vs1,its1,rfl,r1,q1,z1⟩:=ka;obtain⟨t2,rfl⟩:=kb;cases h;exact ZqG z1 hu
   | tup ys =>
    obtain⟨a1,vs1,its1,rfl,r1,q1,z1⟩:=ka;obtain⟨a2,vs2,its2,rfl,r2,q2,z2⟩:=kb;cases h;exact ZkA z1 z2 hu
   | lst ys =>
    obtain⟨a1,vs1,its1,rfl,r1,q1,z1⟩:=ka;obtain⟨a2,vs2,its2,rfl,r2,q2,z2⟩:=kb;obtain⟨he,hk⟩:=items h r1 r2 q1 q2;have RN:SeqAt.RcAt A s (.ref a1) (.ref a2) k/\SeqAt.RcNeAt A s (.ref a1) (.ref a2) (!k):=by
     by_cases hz:its1.toArray.size=its2.toArray.size
     ·have R:=SeqAt.RcAt.lists z1 z2 hz hu he;have N:=SeqAt.RcNeAt.lists z1 z2 hz hu he;have hk2:k=(List.range its1.toArray.size).all (fun j=>((xs[j]?.bind fun x=>ys[j]?.bind fun y=>eqN st n x y).getD false)):=by
       rw[hk,<-hz,Nat.min_self];simp
      rw[<-hk2] at R N;exact⟨R,N⟩
     ·have hk2:k=false:=by
       rw[hk];simp only[Vn.mpr hz,Bool.and_false]
      have hb:(its1.toArray.size != its2.toArray.size)=true:=by simpa using hz
      subst hk2;exact⟨SeqAt.RcAt.lists_lengths z1 z2 hb hu,SeqAt.RcNeAt.lists_lengths z1 z2 hb hu⟩
    refine⟨?_,RN.1,RN.2⟩;by_cases ea:a1=a2
    ·subst ea;rw[same rfl];exact SeqAt.EqAt.same _
    ·exact SeqAt.EqAt.of_refs ea RN.1
end
end DL
end
section
namespace DL
open PySem PySem.Spec PyProof.Rows L2
noncomputable abbrev EXT:=Addr->Sto->List Addr->Hp->Prop
def Run(K:P1)(EX:EXT){α:Type}(O:List Addr)(H:Hp)(r:Out α)(k:α->Sto->List Addr->Hp->Prop):Prop:=match r with
 | .ok a st => ∀O' H',Keep K O H O' H'->WR K O' H' st->k a st O' H'
 | .exc c st => ∀O' H',Keep K O H O' H'->WR K O' H' st->EX c st O' H'
 | .bad=>False
section
variable{K:P1}{EX:EXT}{α β:Type}{O O':List Addr}{H H':Hp}{st:Sto}
theorem Run.now{a:α}{k:α->Sto->List Addr->Hp->Prop}(h:Run K EX O H (.ok a st) k)(W:WR K O H st):k a st O H:=h O H Keep.refl W
theorem Run.later{r:Out α}{k:α->Sto->List Addr->Hp->Prop}(h:Run K EX O H r k)(kp:Keep K O H O' H'):Run K EX O' H' r k:=by
 cases r with
 | ok a st=>exact fun O2 H2 k2 W2=>h O2 H2 (kp.trans k2) W2
 | exc c st=>exact fun O2 H2 k2 W2=>h O2 H2 (kp.trans k2) W2
 | bad=>exact h
theorem Run.mono{r:Out α}{k k':α->Sto->List Addr->Hp->Prop}(h:Run K EX O H r k)(f:∀a st O' H',Keep K O H O' H'->WR K O' H' st->k a st O' H'->k' a st O' H'):Run K EX O H r k':=by
 cases r with
 | ok a st=>exact fun O' H' kp W=>f a st O' H' kp W (h O' H' kp W)
 | exc c st=>exact h
 | bad=>exact h
theorem Run.bind{r:Out α}{g:α->Sto->Out β}{k:β->Sto->List Addr->Hp->Prop}(h:Run K EX O H (r.bind g) k):Run K EX O H r (fun a st O' H'=>Run K EX O' H' (g a st) k):=by
 cases r with
 | ok a st=>exact fun O' H' kp W=>Run.later (r:=g a st) h kp
 | exc c st=>exact h
 | bad=>exact h
end
structure REnv(K:P1)(O:List Addr)(H:Hp)(ρ:Ev)(σ:L2.St):Prop where
 len:ρ.length=σ.length
 at_:∀(i:Nat) (d:D),ρ[i]?=some (some d)->∃v,σ[i]?=some (some v)/\Rep K O H d v
section
variable{K:P1}{O O':List Addr}{H H':Hp}{ρ:Ev}{σ:L2.St}
theorem REnv.mono(E:REnv K O H ρ σ)(k:Keep K O H O' H'):REnv K O' H' ρ σ :=
 ⟨E.len,fun i d e=>let ⟨v,h,r⟩:=E.at_ i d e; ⟨v,h,Rep.mono k d v r⟩⟩
theorem REnv.set(E:REnv K O H ρ σ){i:Nat}{d:D}{v:V}(r:Rep K O H d v):REnv K O H (ρ.set i (some d)) (σ.set i (some v)):=by
 refine⟨by rw[QZ,QZ,E.len],fun j e h => ?_⟩;by_cases hij:i=j
 ·subst hij;have hl:i<ρ.length:=by
   have:=(Yo.mp h).1;rwa[QZ] at this
  rw[W0 hl] at h;cases h;exact⟨v,W0 (by rw[<-E.len]; exact hl),r⟩
 ·rw[WS hij] at h;obtain⟨u,h1,h2⟩:=E.at_ j e h;exact⟨u,by rw[WS hij]; exact h1,h2⟩
end
noncomputable abbrev DE:=Ev->Sto->Out D
noncomputable abbrev DT:=Ev->Sto->Out Bool
noncomputable abbrev DA:=Ev->Sto->Out (List D)
def EX0:EXT:=fun _ _ _ _=>False
section
variable(K:P1)(EX:EXT)
def Val(Q:VK)(d:D)(_:Sto)(O:List Addr)(H:Hp):Prop:=∀v,Rep K O H d v->Q v H
def Vls(Q:List V->Hp->Prop)(ds:List D)(_:Sto)(O:List Addr)(H:Hp):Prop:=∀vs,Reps K O H ds vs->Q vs H
def New(Q:VK)(ds:List D)(_:Sto)(O:List Addr)(H:Hp):Prop:=∀p vs,Reps K O H ds vs->H p=none->Q (.ref p) (upd H p (.lst vs))
def tD(f:DE):TE:=fun σ H Q => ∃O ρ st,WR K O H st/\REnv K O H ρ σ/\Run K EX O H (f ρ st) (Val K Q)
def tDT(f:DT):TT:=fun σ H Q => ∃O ρ st,WR K O H st/\REnv K O H ρ σ/\Run K EX O H (f ρ st) (fun b _ _ H'=>Q b H')
def tDA(f:DA):TA:=fun σ H Q => ∃O ρ st,WR K O H st/\REnv K O H ρ σ/\Run K EX O H (f ρ st) (Vls K Q)
def tDF(f:DA):TE:=fun σ H Q => ∃O ρ st,WR K O H st/\REnv K O H ρ σ/\Run K EX O H (f ρ st) (New K Q)
def rD2(g:D->D->Sto->Out D):R2:=fun x y H Q => ∃O a b st,WR K O H st/\Rep K O H a x/\Rep K O H b y/\Run K EX O H (g a b st) (Val K Q)
def Zjt(g:D->D->Sto->Out (List D)):R2:=fun x y H Q => ∃O a b st,WR K O H st/\Rep K O H a x/\Rep K O H b y/\Run K EX O H (g a b st) (New K Q)
def rDC(g:List D->Sto->Out D):List V->Hp->VK->Prop:=fun xs H Q => ∃O ds st,WR K O H st/\Reps K O H ds xs/\Run K EX O H (g ds st) (Val K Q)
def ZgB(g:List D->Sto->Out (List D)):List V->Hp->VK->Prop:=fun xs H Q => ∃O ds st,WR K O H st/\Reps K O H ds xs/\Run K EX O H (g ds st) (New K Q)
end
section
variable(X:Cx)(EX:EXT)
def PD(e:Expr)(f:DE):Prop:=PE X e (tD X.K EX f)
def PDT(e:Expr)(f:DT):Prop:=PT X e (tDT X.K EX f)
def PDW(e:Expr)(f:DT):Prop:=PW X e (tDT X.K EX f)
def PDA(es:List Expr)(f:DA):Prop:=PA X es (tDA X.K EX f)
def PDF(e:Expr)(f:DA):Prop:=PE X e (tDF X.K EX f)
def OpD(f:P6->P6->Sem P6)(g:D->D->Sto->Out D):Prop:=OpR X f (rD2 X.K EX g)
def OpF(f:P6->P6->Sem P6)(g:D->D->Sto->Out (List D)):Prop:=OpR X f (Zjt X.K EX g)
def Zc6(f:P6)(g:List D->Sto->Out D):Prop:=Za5 X f (rDC X.K EX g)
def Zdb(f:P6)(g:List D->Sto->Out (List D)):Prop:=Za5 X f (ZgB X.K EX g)
end
theorem PE.mono{X:Cx}{e:Expr}{t t':TE}(h:PE X e t)(f:∀σ H Q,t' σ H Q->t σ H Q):PE X e t':=fun pins s σ H Q I q=>h pins s σ H Q I (f σ H Q q)
theorem PT.mono{X:Cx}{e:Expr}{t t':TT}(h:PT X e t)(f:∀σ H Q,t' σ H Q->t σ H Q):PT X e t':=fun pins s σ H Q I q=>h pins s σ H Q I (f σ H Q q)
theorem PW.mono{X:Cx}{e:Expr}{t t':TT}(h:PW X e t)(f:∀σ H Q,t' σ H Q->t σ H Q):PW X e t':=fun wh pins s σ H Q I q=>h wh pins s σ H Q I (f σ H Q q)
theorem PA.mono{X:Cx}{es:List Expr}{t t':TA}(h:PA X es t)(f:∀σ H Q,t' σ H Q->t σ H Q):PA X es t':=fun pos pins s σ H Q I q=>h pos pins s σ H Q I (f σ H Q q)
theorem PS.mono{X:Cx}{e:Stmt}{t t':TS}(h:PS X e t)(f:∀D σ H,t' D σ H->t D σ H):PS X e t':=fun pins s σ H D I q=>h pins s σ H D I (f D σ H q)
theorem PSs.mono{X:Cx}{e:List Stmt}{t t':TS}(h:PSs X e t)(f:∀D σ H,t' D σ H->t D σ H):PSs X e t':=fun pins s σ H D I q=>h pins s σ H D I (f D σ H q)
theorem OpR.mono{X:Cx}{f:P6->P6->Sem P6}{r r':R2}(h:OpR X f r)(g:∀x y H Q,r' x y H Q->r x y H Q):OpR X f r':=fun pins s σ H x y v u Q I rx ry q=>h pins s σ H x y v u Q I rx ry (g x y H Q q)
section
variable{X:Cx}{EX:EXT}{a b c e:Expr}{fa fb fc:DE}{pos:Pos}{ta tb:DT}
def Za(i:Nat):DE:=fun ρ st=>match ρ[i]? with
 | some (some d) => .ok d st
 | _ => .bad
theorem Zb(i:Nat){x:Str}{pos:Pos}(hN:X.N[i]?=some x:=by rfl)(hv:Vis X.env.scope x:=by first | exact Or.inl rfl | exact Or.inr (Or.inl rfl) | exact Or.inr (Or.inr rfl))(hd:(x == ("__debug__" : Str))=false:=by decide)
  (hcd:(x == ("__classdict__" : Str))=false:=by decide):PD X EX (.Name x pos) (Za i):=by
 refine PE.mono (Zp0 hN hv hd hcd) ?_;rintro σ H Q ⟨O,ρ,st,W,E,R⟩;unfold Za at R;cases h:ρ[i]? with
 | none=>rw[h] at R; exact R.elim
 | some z =>
  cases z with
  | none=>rw[h] at R; exact R.elim
  | some d =>
   rw[h] at R;obtain⟨v,h1,r⟩:=E.at_ i d h;exact⟨v,h1,R.now W v r⟩
def dC(d:D):DE:=fun _ st => .ok d st
theorem Zfb{v:V}{d:D}(h:PE X e (tC v))(hr:∀O H,Rep X.K O H d v):PD X EX e (dC d):=by
 refine PE.mono h ?_;rintro σ H Q ⟨O,ρ,st,W,E,R⟩;exact R.now W v (hr O H)
theorem Zt{i j pos}:PD X EX (.Constant (.int i) j pos) (dC (.int i)):=Zfb Znf fun _ _=>Rep.int_i.mpr rfl
theorem ZcZ{b j pos}:PD X EX (.Constant (.bool b) j pos) (dC (.bl b)):=Zfb ZlN fun _ _=>Rep.bl_i.mpr rfl
theorem Zmd{x j pos}:PD X EX (.Constant (.str x) j pos) (dC (.str x)):=Zfb ZlL fun _ _=>Rep.str_i.mpr rfl
def Zl(g:D->D->Sto->Out D)(fa fb:DE):DE:=fun ρ st=>(fa ρ st).bind fun x st1=>(fb ρ st1).bind fun y st2=>g x y st2
def ZbE(g:D->D->Sto->Out (List D))(fa fb:DE):DA:=fun ρ st=>(fa ρ st).bind fun x st1=>(fb ρ st1).bind fun y st2=>g x y st2
theorem ZdY{g:D->D->Sto->Out D}:∀σ H Q,tD X.K EX (Zl g fa fb) σ H Q->tOp (rD2 X.K EX g) (tD X.K EX fa) (tD X.K EX fb) σ H Q:=by
 rintro σ H Q ⟨O,ρ,st,W,E,R⟩;refine⟨O,ρ,st,W,E,R.bind.mono fun x st1 O1 H1 k1 W1 R1 v r => ?_⟩;refine⟨O1,ρ,st1,W1,E.mono k1,R1.bind.mono fun y st2 O2 H2 k2 W2 R2 u r2 => ?_⟩;exact⟨O2,x,y,st2,W2,Rep.mono k2 x v r,r2,R2⟩
theorem Zqe{g:D->D->Sto->Out (List D)}:∀σ H Q,tDF X.K EX (ZbE g fa fb) σ H Q->tOp (Zjt X.K EX g) (tD X.K EX fa) (tD X.K EX fb) σ H Q:=by
 rintro σ H Q ⟨O,ρ,st,W,E,R⟩;refine⟨O,ρ,st,W,E,R.bind.mono fun x st1 O1 H1 k1 W1 R1 v r => ?_⟩;refine⟨O1,ρ,st1,W1,E.mono k1,R1.bind.mono fun y st2 O2 H2 k2 W2 R2 u r2 => ?_⟩;exact⟨O2,x,y,st2,W2,Rep.mono k2 x v r,r2,R2⟩
theorem Zv{op:Operator}{g:D->D->Sto->Out D}(ho:OpD X EX (binaryOp op) g)(ha:PD X EX a fa)(hb:PD X EX b fb):PD X EX (.BinOp a op b pos) (Zl g fa fb) :=
 PE.mono (Zif ho ha hb) ZdY
theorem Zel{op:Operator}{g:D->D->Sto->Out (List D)}(ho:OpF X EX (binaryOp op) g)(ha:PD X EX a fa)(hb:PD X EX b fb):PDF X EX (.BinOp a op b pos) (ZbE g fa fb) :=
 PE.mono (Zif ho ha hb) Zqe
theorem Zdc{op:CmpOp}{g:D->D->Sto->Out D}(ho:OpD X EX (compareOp op) g)(ha:PD X EX a fa)(hb:PD X EX b fb)(hm:behindInMarks op b=false:=by first | exact Zim _ (by decide) (by decide) | with_unfolding_all rfl):PD X EX (.Compare a [op] [b] pos) (Zl g fa fb) :=
 PE.mono (ZnS ho ha hb hm) ZdY
def asB:D->Sto->Out Bool
 | .bl b,st => .ok b st
 | _,_ => .bad
def dB(f:DE):DT:=fun ρ st=>(f ρ st).bind asB
theorem ZhQ{O:List Addr}{H:Hp}{st:Sto}{d:D}{v:V}{Q:Bool->Hp->Prop}(W:WR X.K O H st)(r:Rep X.K O H d v)(R:Run X.K EX O H (asB d st) (fun b _ _ H'=>Q b H')):∃k,v = .bl k/\Q k H:=by
 cases d with
 | bl b=>exact⟨b,Rep.bl_i.mp r,Run.now (k:=fun b _ _ H'=>Q b H') R W⟩
 | _=>exact R.elim
theorem ZaK{op:CmpOp}{g:D->D->Sto->Out D}(ho:OpD X EX (compareOp op) g)(ha:PD X EX a fa)(hb:PD X EX b fb)(hm:behindInMarks op b=false:=by first | exact Zim _ (by decide) (by decide) | with_unfolding_all rfl):PDT X EX (.Compare a [op] [b] pos) (dB (Zl g fa fb)):=by
 refine PT.mono (ZmQ ho ha hb hm) ?_;rintro σ H Q ⟨O,ρ,st,W,E,R⟩;exact ZdY (X:=X) (EX:=EX) σ H _ ⟨O,ρ,st,W,E,R.bind.mono fun d st1 O1 H1 k1 W1 R1 v r=>ZhQ W1 r R1⟩
theorem Zf5{f:DE}(h:PD X EX e f)(he:∀whole,isTrue e X.env whole=(do let v <-whole; standAt e.pos; holding [v] (truthy v)):=by intro _; rfl):PDT X EX e (dB f):=by
 refine PT.mono (Zki h he) ?_;rintro σ H Q ⟨O,ρ,st,W,E,R⟩;exact⟨O,ρ,st,W,E,R.bind.mono fun d st1 O1 H1 k1 W1 R1 v r=>ZhQ W1 r R1⟩
def Zgc(ta tb:DT):DT:=fun ρ st=>(ta ρ st).bind fun x st1=>if x=true then tb ρ st1 else .ok false st1
def Zfu(ta:DT):DT:=fun ρ st=>(ta ρ st).bind fun x st1 => .ok (!x) st1
theorem Zlh(ha:PDT X EX a ta):PDW X EX (.BoolOp .And [a] pos) ta:=Zpm ha
theorem ZpM{rest:List Expr}(ha:PDT X EX a ta)(hb:PDW X EX (.BoolOp .And (b :: rest) pos) tb):PDW X EX (.BoolOp .And (a :: b :: rest) pos) (Zgc ta tb):=by
 refine PW.mono (ZnA ha hb) ?_;rintro σ H Q ⟨O,ρ,st,W,E,R⟩;refine⟨O,ρ,st,W,E,R.bind.mono fun x st1 O1 H1 k1 W1 R1 => ?_⟩;cases x with
 | true=>exact⟨O1,ρ,st1,W1,E.mono k1,R1⟩
 | false=>exact Run.now (k:=fun b _ _ H'=>Q b H') R1 W1
theorem PDW.pt(h:PDW X EX e ta):PDT X EX e ta:=PW.pt h
theorem Znr(ha:PDT X EX a ta):PDT X EX (.UnaryOp .Not a pos) (Zfu ta):=by
 refine PT.mono (ZoF ha) ?_;rintro σ H Q ⟨O,ρ,st,W,E,R⟩;exact⟨O,ρ,st,W,E,R.bind.mono fun x st1 O1 H1 k1 W1 R1=>Run.now (k:=fun b _ _ H'=>Q b H') R1 W1⟩
def Zd6(fa fb:DE):DE:=fun ρ st=>(fa ρ st).bind fun d st1=>(asB d st1).bind fun x st2=>if x=true then fb ρ st2 else .ok (.bl false) st2
theorem ZmF{O:List Addr}{H:Hp}{st:Sto}{d:D}{v:V}{β:Type}{g:Bool->Sto->Out β}{k:β->Sto->List Addr->Hp->Prop}(r:Rep X.K O H d v)(R:Run X.K EX O H ((asB d st).bind g) k):∃x,v = .bl x/\Run X.K EX O H (g x st) k:=by
 cases d with
 | bl b=>exact⟨b,Rep.bl_i.mp r,R⟩
 | _=>exact R.elim
theorem Zi4{op}(h:PD X EX a fa):PD X EX (.BoolOp op [a] pos) fa:=Zol h
theorem Zh8{rest:List Expr}(ha:PD X EX a fa)(hb:PD X EX (.BoolOp .And (b :: rest) pos) fb):PD X EX (.BoolOp .And (a :: b :: rest) pos) (Zd6 fa fb):=by
 refine PE.mono (ZkX ha hb) ?_;rintro σ H Q ⟨O,ρ,st,W,E,R⟩;refine⟨O,ρ,st,W,E,R.bind.mono fun d st1 O1 H1 k1 W1 R1 v r => ?_⟩;obtain⟨x,rfl,R2⟩:=ZmF r R1;refine⟨x,rfl,?_⟩;cases x with
 | true=>exact⟨O1,ρ,st1,W1,E.mono k1,R2⟩
 | false=>exact Run.now (k:=Val X.K Q) R2 W1 _ (Rep.bl_i.mpr rfl)
def Zg:DA:=fun _ st => .ok [] st
def Zc(f:DE)(g:DA):DA:=fun ρ st=>(f ρ st).bind fun x st1=>(g ρ st1).bind fun xs st2 => .ok (x :: xs) st2
theorem Zm:PDA X EX [] Zg:=by
 refine PA.mono ZlQ ?_;rintro σ H Q ⟨O,ρ,st,W,E,R⟩;exact Run.now (k:=Vls X.K Q) R W _ (Reps.nil_i.mpr rfl)
theorem Zf{es:List Expr}{g:DA}(ha:PD X EX a fa)(hr:PDA X EX es g)(hs:starEach (a :: es) X.env=(false,eval a X.env) :: starEach es X.env:=by rfl):PDA X EX (a :: es) (Zc fa g):=by
 refine PA.mono (ZqK ha hr hs) ?_;rintro σ H Q ⟨O,ρ,st,W,E,R⟩;refine⟨O,ρ,st,W,E,R.bind.mono fun x st1 O1 H1 k1 W1 R1 v r => ?_⟩;refine⟨O1,ρ,st1,W1,E.mono k1,R1.bind.mono fun xs st2 O2 H2 k2 W2 R2 vs rs => ?_⟩;exact Run.now (k:=Vls X.K Q) R2 W2 _ (Reps.cons_i.mpr ⟨v,vs,rfl,Rep.mono k2 x v r,rs⟩)
def small:Nat:=10000
theorem ZaJ:small<=sizeLine:=by rw[YN]; decide
def ZdN(g:DA):DE:=fun ρ st=>(g ρ st).bind fun xs st1=>if xs.length<=small then .ok (.tup xs) st1 else .bad
def Zax(g:DA):DA:=fun ρ st=>(g ρ st).bind fun xs st1=>if xs.length<=small then .ok xs st1 else .bad
theorem Zey{O:List Addr}{H:Hp}{st:Sto}{xs:List D}{vs:List V}{p:Addr}{Q:VK}(W:WR X.K O H st)(r:Reps X.K O H xs vs)(hp:H p=none)(R:Run X.K EX O H (.ok (.tup xs) st) (Val X.K Q)):Q (.ref p) (upd H p (.tup vs)) :=
 R O (upd H p (.tup vs)) (Keep.laid hp) (W.laid hp) _ (Rep.tup_i.mpr ⟨p,vs,rfl,ZW,Reps.mono (Keep.laid hp) _ _ r⟩)
theorem Zmb{O:List Addr}{H:Hp}{st:Sto}{xs:List D}{vs:List V}{p:Addr}{Q:VK}(W:WR X.K O H st)(r:Reps X.K O H xs vs)(hp:H p=none)(R:Run X.K EX O H (.ok (.lst xs) st) (Val X.K Q)):Q (.ref p) (upd H p (.lst vs)):=by
 refine R O (upd H p (.lst vs)) (Keep.laid hp) (W.laid hp) _ (Rep.lst_i.mpr ⟨p,vs,rfl,fun hm => ?_,ZW,Reps.mono (Keep.laid hp) _ _ r⟩);obtain⟨i,hi⟩:=Vb.mp hm;exact W.ne hi hp rfl
theorem Zir{es:List Expr}{x1}{g:DA}(h:PDA X EX es g):PD X EX (.Tuple es x1 pos) (ZdN g):=by
 refine PE.mono (Zoy h) ?_;rintro σ H Q ⟨O,ρ,st,W,E,R⟩;refine⟨O,ρ,st,W,E,R.bind.mono fun xs st1 O1 H1 k1 W1 R1 vs r => ?_⟩;by_cases hz:xs.length<=small
 ·rw[Yi hz] at R1;exact⟨by rw[<-r.length]; exact YH hz ZaJ,fun p hp=>Zey W1 r hp R1⟩
 ·rw[Yh hz] at R1;exact R1.elim
theorem Za4{es:List Expr}{g:DA}(h:PDA X EX es g):PDF X EX (.List es pos) (Zax g):=by
 refine PE.mono (Zlb h) ?_;rintro σ H Q ⟨O,ρ,st,W,E,R⟩;refine⟨O,ρ,st,W,E,R.bind.mono fun xs st1 O1 H1 k1 W1 R1 vs r => ?_⟩;by_cases hz:xs.length<=small
 ·rw[Yi hz] at R1;exact⟨by rw[<-r.length]; exact YH hz ZaJ,fun p hp=>Run.now (k:=New X.K Q) R1 W1 p vs r hp⟩
 ·rw[Yh hz] at R1;exact R1.elim
def dF(f:DA):DE:=fun ρ st=>(f ρ st).bind fun xs st1 => .ok (.lst xs) st1
theorem ZA{f:DA}(h:PDF X EX e f):PD X EX e (dF f):=by
 refine PE.mono h ?_;rintro σ H Q ⟨O,ρ,st,W,E,R⟩;exact⟨O,ρ,st,W,E,R.bind.mono fun xs st1 O1 H1 k1 W1 R1 p vs r hp=>Zmb W1 r hp R1⟩
end
end DL
end
section
namespace HT
open PySem PyProof.Rows
section
open PySem.SeqAt
open PySem.AutoSeq1 (wpAny_loadPart')
open PySem.MeetsSeq PySem.MeetsSeq2 PySem.MeetsSeq3
variable{prog:P4}{w:World}{A:P3}{E:P6->P0->Prop}{s:P0}
theorem cat_tup0{t b:Addr}{ws:List P6}{Q:P6->P0->Prop}(ht:IsTup s.heap t #[])(hb:IsTup s.heap b ws.toArray)(h:Q (.ref b) s):wpAny (model prog w) A (binaryOp .Add (.ref t) (.ref b)) Q E s:=by
 obtain⟨⟨cls,dd,data,sl⟩,ho,hc,n,hd⟩:=id ht;obtain⟨⟨cls2,dd2,data2,sl2⟩,ho2,hc2,n2,hd2⟩:=id hb;simp only at hc hd hc2 hd2;subst hc hd hc2 hd2;exact concat_meets ⟨_,ho,rfl⟩ ⟨_,ho2,rfl⟩ UC seq_tuple_add VM VE (Vu _ _)
   (tuple_addW0 t b #[] ws.toArray n n2 dd dd2 sl sl2 rfl) ⟨ho,ho2,h⟩
theorem getItem_tuple_whole{t sl:Addr}{items:Array P6}{vl vu:P6}{lo hi:Option Int}{Q:P6->P0->Prop}(ht:IsTup s.heap t items)(hs:s.heap.IsSliceOf sl vl vu .none)(pl:IsPart vl lo)(pu:IsPart vu hi)
  (hw:sIx items.size 0 lo=0/\sIx items.size items.size hi=items.size) (h:Q (.ref t) s):wpAny (model prog w) A (getItem (.ref t) (.ref sl)) Q E s:=by
 obtain⟨os,hos,hcs,hds⟩:=id hs;have hTs:s.TypeIs (.ref sl) "slice":=⟨os,hos,hcs⟩;unfold getItem
 try with_reducible refine Y1 ?_
 first | refine Ya (Yb ?_) | skip
 refine Ya (wpAny_sequenceKey ht.typeIs (by decide) ?_);refine Ya (Y4 (name:=Str.ofString "__getitem__") ht.typeIs Wh
  (YI Wh ht.typeIs entry_tuple_getitem ?_ (args_tuple_getitem _ _)))
 show wpAny _ _ (Builtin.Tuple.tupleItemsOf (.ref t) >>= _) _ _ s;refine Ya (tupleItemsOf_ ht ?_);refine Ya (Q9 hTs ?_);rw[Yi (by decide)];refine Ya (Zh4 hs pl pu ?_);have hyes:((((sIx items.size 0 lo:Nat):Int) == 0 && (1:Int) == 1 && (sIx items.size items.size hi - sIx items.size 0 lo) == items.size)=true):=by
  rw[hw.1,hw.2];simp
 show wpAny _ _ (if (((sIx items.size 0 lo:Nat):Int) == 0 && (1:Int) == 1 && (sIx items.size items.size hi - sIx items.size 0 lo) == items.size)=true then _ else _) _ _ s;rw[Yi hyes];unfold Builtin.Tuple.tupleIsExact;refine Ya (Ya (Q9 ht.typeIs (Yb ?_)));rw[Yi (by decide)];refine Ya (Wz ?_)
 first
  | exact Ya (Yb (Yb ⟨_,rfl,Yb h⟩))
  | exact Ya (Ya (Yb (Yb ⟨_,rfl,Yb h⟩)))
  | exact Yb ⟨_,rfl,Yb h⟩
end
end HT
namespace DL
open PySem PySem.Spec PyProof.Rows L2
section
variable{X:Cx}{EX:EXT}
def ZL:D->D->Sto->Out D
 | .int a,.int b,st => .ok (.int (a+b)) st
 | .str a,.str b,st=>if a.length+b.length<=small then .ok (.str (a++b)) st else .bad
 | .tup xs,.tup ys,st=>if xs.length+ys.length<=small then .ok (.tup (xs++ys)) st else .bad
 | _,_,_ => .bad
theorem ZY:OpD X EX (binaryOp .Add) ZL:=by
 intro pins s σ H x y v u Q I rx ry h;obtain⟨O,a,b,st,W,ra,rb,R⟩:=h;cases a <;> cases b <;> first | exact R.elim | skip
 case int.int i j =>
  rw[Rep.int_i] at ra rb;subst ra rb;exact Zmp pins s σ H _ _ v u Q I rx ry ⟨i,j,rfl,rfl,Run.now (k:=Val X.K Q) R W _ (Rep.int_i.mpr rfl)⟩
 case str.str i j =>
  rw[Rep.str_i] at ra rb;subst ra rb;dsimp only[ZL] at R;by_cases hz:i.length+j.length<=small
  ·rw[Yi hz] at R;exact ZlO pins s σ H _ _ v u Q I rx ry ⟨i,j,rfl,rfl,YH hz ZaJ,Run.now (k:=Val X.K Q) R W _ (Rep.str_i.mpr rfl)⟩
  ·rw[Yh hz] at R; exact R.elim
 case tup.tup xs ys =>
  dsimp only[ZL] at R;by_cases hz:xs.length+ys.length<=small
  ·rw[Yi hz] at R;rw[Rep.tup_i] at ra rb;obtain⟨a,vs,rfl,q1,r1⟩:=ra;obtain⟨b,ws,rfl,q2,r2⟩:=rb;by_cases h0:xs=[]
   ·subst h0;rw[Reps.nil_i] at r1;subst r1;cases rx;cases ry;obtain⟨its,v1,p1,_⟩:=I.tuple (SqT.of q1);obtain⟨its2,v2,p2,_⟩:=I.tuple (SqT.of q2);cases v1;exact HT.cat_tup0 p1 p2 ⟨.ref b,H,I,rfl,Run.now (k:=Val X.K Q) R W _ (Rep.tup_i.mpr ⟨b,ws,rfl,q2,r2⟩)⟩
   ·refine ZmL pins s σ H _ _ v u Q I rx ry ⟨a,b,vs,ws,rfl,rfl,SqT.of q1,SqT.of q2,fun z=>h0 ?_,?_,fun z => ?_,fun z p hp => ?_⟩
    ·have:=r1.length; rw[z] at this; exact WU.mp this
    ·rw[<-r1.length,<-r2.length]; exact YH hz ZaJ
    ·have e:ys=[]:=by have:=r2.length; rw[z] at this; exact WU.mp this
     subst e;rw[Qt] at R;exact Run.now (k:=Val X.K Q) R W _ (Rep.tup_i.mpr ⟨a,vs,rfl,q1,r1⟩)
    ·exact Zey W (r1.append r2) hp R
  ·rw[Yh hz] at R; exact R.elim
def ZaB(a b:D)(st:Sto):Out (List D):=match ZaI st a,ZaI st b with
 | some xs,some ys=>if xs.length+ys.length<=small then .ok (xs++ys) st else .bad
 | _,_ => .bad
theorem Zej:OpF X EX (binaryOp .Add) ZaB:=by
 intro pins s σ H x y v u Q I rx ry h;obtain⟨O,a,b,st,W,ra,rb,R⟩:=h;unfold ZaB at R;cases ea:ZaI st a with
 | none=>rw[ea] at R; exact R.elim
 | some xs =>
  cases eb:ZaI st b with
  | none=>rw[ea,eb] at R; exact R.elim
  | some ys =>
   rw[ea,eb] at R;dsimp only at R;by_cases hz:xs.length+ys.length<=small
   ·rw[Yi hz] at R;obtain⟨p1,vs,rfl,q1,r1⟩:=rdO W ra ea;obtain⟨p2,ws,rfl,q2,r2⟩:=rdO W rb eb;exact ZnL pins s σ H _ _ v u Q I rx ry ⟨p1,p2,vs,ws,rfl,rfl,q1,q2,by rw[<-r1.length,<-r2.length]; exact YH hz ZaJ,fun p hp=>Run.now (k:=New X.K Q) R W p _ (r1.append r2) hp⟩
   ·rw[Yh hz] at R; exact R.elim
def intOp(C:Int->Int->Bool)(g:Int->Int->Int):D->D->Sto->Out D
 | .int a,.int b,st=>if C a b=true then .ok (.int (g a b)) st else .bad
 | _,_,_ => .bad
theorem ZfZ{f:P6->P6->Sem P6}{C:Int->Int->Bool}{P:Int->Int->Prop}{g:Int->Int->Int}(h:OpR X f (rI P fun i j => .int (g i j)))(hC:∀i j,C i j=true->P i j):OpD X EX f (intOp C g):=by
 intro pins s σ H x y v u Q I rx ry h';obtain⟨O,a,b,st,W,ra,rb,R⟩:=h';cases a <;> cases b <;> first | exact R.elim | skip
 rename_i i j;rw[Rep.int_i] at ra rb;subst ra rb;dsimp only[intOp] at R;by_cases hz:C i j=true
 ·rw[Yi hz] at R;exact h pins s σ H _ _ v u Q I rx ry ⟨i,j,rfl,rfl,hC i j hz,Run.now (k:=Val X.K Q) R W _ (Rep.int_i.mpr rfl)⟩
 ·rw[Yh hz] at R; exact R.elim
def Zdm:D->D->Sto->Out D
 | .int a,.int b,st => .ok (.int (a - b)) st
 | _,_,_ => .bad
theorem Zgt:OpD X EX (binaryOp .Sub) Zdm:=by
 intro pins s σ H x y v u Q I rx ry h;obtain⟨O,a,b,st,W,ra,rb,R⟩:=h;cases a <;> cases b <;> first | exact R.elim | skip
 rename_i i j;rw[Rep.int_i] at ra rb;subst ra rb;exact Zpx pins s σ H _ _ v u Q I rx ry ⟨i,j,rfl,rfl,Run.now (k:=Val X.K Q) R W _ (Rep.int_i.mpr rfl)⟩
def Zch(i j:Int):Bool:=(decide (-(2 ^ 64)<i) && decide (i<2 ^ 64)) || (decide (-(2 ^ 64)<j) && decide (j<2 ^ 64))
def Zaw:D->D->Sto->Out D:=intOp Zch fun i j=>i * j
theorem Zb6:OpD X EX (binaryOp .Mult) Zaw:=ZfZ Znk fun i j h=>by
 unfold Zch at h;rw[Q0,YE,YE] at h;rcases h with⟨h1,h2⟩ | ⟨h1,h2⟩
 ·exact .inl ⟨WV h1,WV h2⟩
 ·exact .inr ⟨WV h1,WV h2⟩
def ZjL(_ j:Int):Bool:=@decide (0<j/\j<1073741824) (Classical.propDecidable _)
def ZbW:D->D->Sto->Out D:=intOp ZjL fun i j=>i / j
theorem ZdZ:OpD X EX (binaryOp .FloorDiv) ZbW:=ZfZ Zmj fun i j h => @WV (0<j/\j<1073741824) (Classical.propDecidable _) h
def Zbg:D->D->Sto->Out D:=intOp (fun _ j=>decide (0<j)) fun i j=>i % j
theorem ZcK:OpD X EX (binaryOp .Mod) Zbg:=ZfZ Zlw fun i j h=>WV h
def depth:Nat:=50
def eqD(a b:D)(st:Sto):Out D:=match eqN st depth a b with
 | some k => .ok (.bl k) st
 | none => .bad
def neD(a b:D)(st:Sto):Out D:=match eqN st depth a b with
 | some k => .ok (.bl (!k)) st
 | none => .bad
theorem Zb4(hu:X.A.units+64<cLine):OpD X EX (compareOp .Eq) eqD:=by
 intro pins s σ H x y v u Q I rx ry h;obtain⟨O,a,b,st,W,ra,rb,R⟩:=h;unfold eqD at R;cases e:eqN st depth a b with
 | none=>rw[e] at R; exact R.elim
 | some k =>
  rw[e] at R;have h:=(Zc5 I W depth a b k e X.A x y v u ra rb rx ry (by show X.A.units+50<cLine; omega)).2.1;exact h X.prog X.w X.xe _ ⟨.bl k,H,I,rfl,Run.now (k:=Val X.K Q) R W _ (Rep.bl_i.mpr rfl)⟩
theorem ZfP(hu:X.A.units+64<cLine):OpD X EX (compareOp .NotEq) neD:=by
 intro pins s σ H x y v u Q I rx ry h;obtain⟨O,a,b,st,W,ra,rb,R⟩:=h;unfold neD at R;cases e:eqN st depth a b with
 | none=>rw[e] at R; exact R.elim
 | some k =>
  rw[e] at R;have h:=(Zc5 I W depth a b k e X.A x y v u ra rb rx ry (by show X.A.units+50<cLine; omega)).2.2;exact h X.prog X.w X.xe _ ⟨.bl (!k),H,I,rfl,Run.now (k:=Val X.K Q) R W _ (Rep.bl_i.mpr rfl)⟩
def ZjU(g:Int->Int->Bool):D->D->Sto->Out D
 | .int a,.int b,st => .ok (.bl (g a b)) st
 | _,_,_ => .bad
theorem ZlW{f:P6->P6->Sem P6}{g:Int->Int->Bool}(h:OpR X f (rI0 fun i j => .bl (g i j))):OpD X EX f (ZjU g):=by
 intro pins s σ H x y v u Q I rx ry h';obtain⟨O,a,b,st,W,ra,rb,R⟩:=h';cases a <;> cases b <;> first | exact R.elim | skip
 rename_i i j;rw[Rep.int_i] at ra rb;subst ra rb;exact h pins s σ H _ _ v u Q I rx ry ⟨i,j,rfl,rfl,Run.now (k:=Val X.K Q) R W _ (Rep.bl_i.mpr rfl)⟩
def gtD:=ZjU fun i j=>decide (j<i)
theorem Zh7:OpD X EX (compareOp .Gt) gtD:=ZlW ZkH
def inN(st:Sto)(n:Nat)(x:D):List D->Option Bool
 | []=>some false
 | y :: ys=>match eqN st n y x,inN st n x ys with
  | some a,some b=>some (a || b)
  | _,_=>none
def itemsOf(st:Sto):D->Option (List D)
 | .tup xs=>some xs
 | d=>Zj st d
def inD(x c:D)(st:Sto):Out D:=match itemsOf st c with
 | some ys=>match inN st depth x ys with
  | some k => .ok (.bl k) st
  | none => .bad
 | none => .bad
def Zds(x c:D)(st:Sto):Out D:=match itemsOf st c with
 | some ys=>match inN st depth x ys with
  | some k => .ok (.bl (!k)) st
  | none => .bad
 | none => .bad
open Classical in
theorem Zdp{pins:List (Addr×Obj)}{σ:L2.St}{s:P0}{O:List Addr}{H:Hp}{st:Sto}(I:Inv X pins σ H s)(W:WR X.K O H st){x:D}{vx:V}{ux:P6}(rx:Rep X.K O H x vx)(qx:RelV vx ux){A:P3}(hA:A.units+depth<cLine) :
  ∀{ys:List D} {vs:List V} {its:List P6} {k:Bool},inN st depth x ys=some k->Reps X.K O H ys vs->Vals vs its ->
   ∃e:P6->Bool,(∀z,e z=decide (∃d v,Rep X.K O H d v/\RelV v z/\eqN st depth d x=some true))/\(∀z∈its,SeqAt.EqAt A s z ux (e z))/\its.any e=k
 | [],vs,its,k,h,r,q=>by
  rw[Reps.nil_i] at r;subst r;cases q;simp only[inN,Yu] at h;subst h;exact⟨fun z=>decide (∃d v,Rep X.K O H d v/\RelV v z/\eqN st depth d x=some true),fun _=>rfl,(fun z hz=>(by cases hz)),rfl⟩
 | y :: ys,vs,its,k,h,r,q=>by
  obtain⟨v,vs',rfl,ry,rs⟩:=Reps.cons_i.mp r;cases q with
  | cons q1 q2 =>
   rename_i u us;unfold inN at h;cases e1:eqN st depth y x with
   | none=>rw[e1] at h; cases h
   | some a =>
    cases e2:inN st depth x ys with
    | none=>rw[e1,e2] at h; cases h
    | some b =>
     rw[e1,e2] at h;simp only[Yu] at h;obtain⟨e,he,h1,h2⟩:=Zdp I W rx qx hA e2 rs q2;have hu:e u=a:=by
      rw[he u];cases a with
      | true=>exact YS ⟨y,v,ry,q1,e1⟩
      | false =>
       refine YQ ?_;rintro⟨d,v',r',q',e'⟩;have ev:v'=v:=q'.inj q1;subst ev;have ed:=Rep.inj I W d y v' r' ry;subst ed;rw[e1] at e';cases e'
     refine⟨e,he,fun z hz => ?_,?_⟩
     ·rcases Yl.mp hz with rfl | hz
      ·rw[hu];exact (Zc5 I W depth y x a e1 A v vx z ux ry rx q1 qx hA).1
      ·exact h1 z hz
     ·rw[QW,hu,h2];exact h
theorem ZcW{A:P3}(hu:A.units+64<cLine):A.in1.units+depth<cLine:=by
 show A.units+1+50<cLine;omega
theorem Zoo(hu:X.A.units+64<cLine):OpD X EX (compareOp .In) inD:=by
 intro pins s σ H x y v u Q I rx ry h;obtain⟨O,a,b,st,W,ra,rb,R⟩:=h;unfold inD at R;cases e1:itemsOf st b with
 | none=>rw[e1] at R; exact R.elim
 | some ys =>
  rw[e1] at R;dsimp only at R;cases e2:inN st depth a ys with
  | none=>rw[e2] at R; exact R.elim
  | some k =>
   rw[e2] at R;have fin:EP X pins σ Q (.bool k) s:=⟨.bl k,H,I,rfl,Run.now (k:=Val X.K Q) R W _ (Rep.bl_i.mpr rfl)⟩;by_cases hb:∃zs,b = .tup zs
   ·obtain⟨zs,rfl⟩:=hb;simp only[itemsOf,Yu] at e1;subst e1;rw[Rep.tup_i] at rb;obtain⟨p,vs,rfl,q,r⟩:=rb;cases ry;obtain⟨its,hv,hp,_⟩:=I.tuple (SqT.of q);obtain⟨e,_,h1,h2⟩:=Zdp I W ra rx (ZcW hu) e2 r hv;exact SeqAt.in_tupleAt e hp (fun z hz=>h1 z (by simpa using hz)) (by simpa[h2] using fin)
   ·have e3:Zj st b=some ys:=by
     cases b <;> first | exact e1 | exact absurd ⟨_,rfl⟩ hb
    obtain⟨p,vs,rfl,q,r⟩:=rdL W rb e3;cases ry;obtain⟨its,hv,hp,_⟩:=I.list q;obtain⟨e,_,h1,h2⟩:=Zdp I W ra rx (ZcW hu) e2 r hv;exact SeqAt.in_listAt e hp.isList (fun z hz=>h1 z (by simpa using hz)) (by simpa[h2] using fin)
theorem Zoq(hu:X.A.units+64<cLine):OpD X EX (compareOp .NotIn) Zds:=by
 intro pins s σ H x y v u Q I rx ry h;obtain⟨O,a,b,st,W,ra,rb,R⟩:=h;unfold Zds at R;cases e1:itemsOf st b with
 | none=>rw[e1] at R; exact R.elim
 | some ys =>
  rw[e1] at R;dsimp only at R;cases e2:inN st depth a ys with
  | none=>rw[e2] at R; exact R.elim
  | some k =>
   rw[e2] at R;have fin:EP X pins σ Q (.bool (!k)) s:=⟨.bl (!k),H,I,rfl,Run.now (k:=Val X.K Q) R W _ (Rep.bl_i.mpr rfl)⟩;by_cases hb:∃zs,b = .tup zs
   ·obtain⟨zs,rfl⟩:=hb;simp only[itemsOf,Yu] at e1;subst e1;rw[Rep.tup_i] at rb;obtain⟨p,vs,rfl,q,r⟩:=rb;cases ry;obtain⟨its,hv,hp,_⟩:=I.tuple (SqT.of q);obtain⟨e,_,h1,h2⟩:=Zdp I W ra rx (ZcW hu) e2 r hv;exact SeqAt.notIn_tupleAt e hp (fun z hz=>h1 z (by simpa using hz)) (by simpa[h2] using fin)
   ·have e3:Zj st b=some ys:=by
     cases b <;> first | exact e1 | exact absurd ⟨_,rfl⟩ hb
    obtain⟨p,vs,rfl,q,r⟩:=rdL W rb e3;cases ry;obtain⟨its,hv,hp,_⟩:=I.list q;obtain⟨e,_,h1,h2⟩:=Zdp I W ra rx (ZcW hu) e2 r hv;exact SeqAt.notIn_listAt e hp.isList (fun z hz=>h1 z (by simpa using hz)) (by simpa[h2] using fin)
end
end DL
end
section
namespace DL
open PySem PySem.Spec PyProof.Rows L2
section
variable{X:Cx}{EX:EXT}{a b c e:Expr}{fa fb fc:DE}{pos p2:Pos}{ta tb:DT}
noncomputable abbrev DO:=Ev->Sto->Out (Option Int)
def tDO(K:P1)(EX:EXT)(f:DO):TO:=fun σ H Q => ∃O ρ st,WR K O H st/\REnv K O H ρ σ/\Run K EX O H (f ρ st) (fun o _ _ H'=>Q o H')
def PDO(X:Cx)(EX:EXT)(e:Option Expr)(f:DO):Prop:=PO X e (tDO X.K EX f)
def ZaF:DO:=fun _ st => .ok none st
def ZfB:D->Sto->Out (Option Int)
 | .int i,st => .ok (some i) st
 | _,_ => .bad
def ZaD(f:DE):DO:=fun ρ st=>(f ρ st).bind ZfB
theorem PO.mono{e:Option Expr}{t t':TO}(h:PO X e t)(f:∀σ H Q,t' σ H Q->t σ H Q):PO X e t':=fun pins s σ H Q I q=>h pins s σ H Q I (f σ H Q q)
theorem ZaZ:PDO X EX none ZaF:=by
 refine PO.mono Zoc ?_;rintro σ H Q ⟨O,ρ,st,W,E,R⟩;exact Run.now (k:=fun o _ _ H'=>Q o H') R W
theorem Za0{f:DE}(h:PD X EX e f):PDO X EX (some e) (ZaD f):=by
 refine PO.mono (ZkI h) ?_;rintro σ H Q ⟨O,ρ,st,W,E,R⟩;refine⟨O,ρ,st,W,E,R.bind.mono fun d st1 O1 H1 k1 W1 R1 v r => ?_⟩;cases d with
 | int i=>exact⟨i,Rep.int_i.mp r,Run.now (k:=fun o _ _ H'=>Q o H') R1 W1⟩
 | _=>exact R1.elim
def Zao{α:Type}(xs:List α)(lo hi:Option Int):List α:=(xs.drop (HT.sIx xs.length 0 lo)).take (HT.sIx xs.length xs.length hi - HT.sIx xs.length 0 lo)
theorem Reps.cut{K:P1}{O:List Addr}{H:Hp}{ds:List D}{vs:List V}(r:Reps K O H ds vs)(lo hi:Option Int):Reps K O H (Zao ds lo hi) (Zbu vs lo hi):=by
 unfold Zao Zbu;rw[r.length];exact (r.drop _).take _
def rDS(K:P1)(EX:EXT)(g:D->Option Int->Option Int->Sto->Out D):V->Option Int->Option Int->Hp->VK->Prop:=fun x lo hi H Q => ∃O d st,WR K O H st/\Rep K O H d x/\Run K EX O H (g d lo hi st) (Val K Q)
def ZiV(K:P1)(EX:EXT)(g:D->Option Int->Option Int->Sto->Out (List D)):V->Option Int->Option Int->Hp->VK->Prop:=fun x lo hi H Q => ∃O d st,WR K O H st/\Rep K O H d x/\Run K EX O H (g d lo hi st) (New K Q)
def dSl{α:Type}(g:D->Option Int->Option Int->Sto->Out α)(f:DE)(l h:DO):Ev->Sto->Out α:=fun ρ st=>(f ρ st).bind fun x st1=>(l ρ st1).bind fun lo st2=>(h ρ st2).bind fun hi st3=>g x lo hi st3
theorem Zgk{g:D->Option Int->Option Int->Sto->Out D}{lo hi:Option Expr}{fl fh:DO}(hr:SlR X (rDS X.K EX g))(he:PD X EX e fa)(hl:PDO X EX lo fl)(hh:PDO X EX hi fh):PD X EX (.Subscript e (.Slice lo hi none p2) pos) (dSl g fa fl fh):=by
 refine PE.mono (ZgS hr he hl hh) ?_;rintro σ H Q ⟨O,ρ,st,W,E,R⟩;refine⟨O,ρ,st,W,E,R.bind.mono fun x st1 O1 H1 k1 W1 R1 v r => ?_⟩;refine⟨O1,ρ,st1,W1,E.mono k1,R1.bind.mono fun lo st2 O2 H2 k2 W2 R2 => ?_⟩;refine⟨O2,ρ,st2,W2,E.mono (k1.trans k2),R2.bind.mono fun hi st3 O3 H3 k3 W3 R3 => ?_⟩;exact⟨O3,x,st3,W3,Rep.mono (k2.trans k3) x v r,R3⟩
theorem ZbR{g:D->Option Int->Option Int->Sto->Out (List D)}{lo hi:Option Expr}{fl fh:DO}(hr:SlR X (ZiV X.K EX g))(he:PD X EX e fa)(hl:PDO X EX lo fl)(hh:PDO X EX hi fh):PDF X EX (.Subscript e (.Slice lo hi none p2) pos) (dSl g fa fl fh):=by
 refine PE.mono (ZgS hr he hl hh) ?_;rintro σ H Q ⟨O,ρ,st,W,E,R⟩;refine⟨O,ρ,st,W,E,R.bind.mono fun x st1 O1 H1 k1 W1 R1 v r => ?_⟩;refine⟨O1,ρ,st1,W1,E.mono k1,R1.bind.mono fun lo st2 O2 H2 k2 W2 R2 => ?_⟩;refine⟨O2,ρ,st2,W2,E.mono (k1.trans k2),R2.bind.mono fun hi st3 O3 H3 k3 W3 R3 => ?_⟩;exact⟨O3,x,st3,W3,Rep.mono (k2.trans k3) x v r,R3⟩
def ZbU:D->Option Int->Option Int->Sto->Out D
 | .tup xs,lo,hi,st => .ok (.tup (Zao xs lo hi)) st
 | _,_,_,_ => .bad
theorem Zff:SlR X (rDS X.K EX ZbU):=by
 intro pins s σ H x v vl vu lo hi sl Q I rx hs pl pu h;obtain⟨O,d,st,W,r,R⟩:=h;cases d with
 | tup xs =>
  rw[Rep.tup_i] at r;obtain⟨a,vs,rfl,q,rs⟩:=r;by_cases hw:HT.sIx vs.length 0 lo=0/\HT.sIx vs.length vs.length hi=vs.length
  ·cases rx;obtain⟨its,hv,ht,hz⟩:=I.tuple (SqT.of q);have hlen:its.toArray.size=vs.length:=by rw[Yn]; exact hv.length.symm
   refine⟨"tuple",_,Wh.lookup,ht.typeIs,HT.getItem_tuple_whole ht hs pl pu (by rw[hlen]; exact hw) ?_⟩;have e:Zao xs lo hi=xs:=by
    unfold Zao;rw[rs.length,hw.1,hw.2,Va,Nat.sub_zero,<-rs.length,QN]
   refine⟨.ref a,H,I,rfl,?_⟩;dsimp only[ZbU] at R;rw[e] at R;exact Run.now (k:=Val X.K Q) R W _ (Rep.tup_i.mpr ⟨a,vs,rfl,q,rs⟩)
  ·exact Zo7 pins s σ H _ v vl vu lo hi sl Q I rx hs pl pu ⟨a,vs,rfl,SqT.of q,hw,fun p hp=>Zey W (rs.cut lo hi) hp R⟩
 | _=>exact R.elim
def ZQ(d:D)(lo hi:Option Int)(st:Sto):Out (List D):=match Zj st d with
 | some xs => .ok (Zao xs lo hi) st
 | none => .bad
theorem Zb3:SlR X (ZiV X.K EX ZQ):=by
 intro pins s σ H x v vl vu lo hi sl Q I rx hs pl pu h;obtain⟨O,d,st,W,r,R⟩:=h;unfold ZQ at R;cases e:Zj st d with
 | none=>rw[e] at R; exact R.elim
 | some xs =>
  rw[e] at R;obtain⟨a,vs,rfl,q,rs⟩:=rdL W r e;exact Zkl pins s σ H _ v vl vu lo hi sl Q I rx hs pl pu ⟨a,vs,rfl,q,fun p hp=>Run.now (k:=New X.K Q) R W p _ (rs.cut lo hi) hp⟩
def ixD(d:D)(i:D)(st:Sto):Out D:=match i with
 | .int k=>match d with
  | .str z=>if z.length<=small then (match atI z.cps.toList k with
   | some c => .ok (.str ⟨#[c]⟩) st
   | none => .bad) else .bad
  | _=>match itemsOf st d with
   | some xs=>match atI xs k with
    | some x => .ok x st
    | none => .bad
   | none => .bad
 | _ => .bad
theorem Reps.atI{K:P1}{O:List Addr}{H:Hp}{ds:List D}{vs:List V}{k:Int}{d:D}(r:Reps K O H ds vs)(h:L2.atI ds k=some d):∃v,L2.atI vs k=some v/\Rep K O H d v:=by
 unfold L2.atI at h ⊢;rw[<-r.length];cases e:ixN ds.length k with
 | none=>rw[e] at h; cases h
 | some j =>
  rw[e] at h;obtain⟨v,h1,h2⟩:=r.get (i:=j) (d:=d) h;exact⟨v,h1,h2⟩
theorem Zk1:IxR X (rD2 X.K EX ixD):=by
 intro value slice pins s σ H x y v u Q I rx ry h hsub;obtain⟨O,d,i,st,W,rd,ri,R⟩:=h;cases i with
 | int k =>
  rw[Rep.int_i] at ri;subst ri;have seq:∀xs,itemsOf st d=some xs->Run X.K EX O H (match L2.atI xs k with
    | some x => .ok x st
    | none => .bad) (Val X.K Q)->wpAny (model X.prog X.w) X.A (subscriptTail value slice v u) (EP X pins σ Q) X.xe s:=by
   intro xs e1 R';clear R;cases e2:L2.atI xs k with
   | none=>rw[e2] at R'; exact R'.elim
   | some z =>
    rw[e2] at R';by_cases hb:∃zs,d = .tup zs
    ·obtain⟨zs,rfl⟩:=hb;simp only[itemsOf,Yu] at e1;subst e1;rw[Rep.tup_i] at rd;obtain⟨p,vs,rfl,q,r⟩:=rd;obtain⟨w,h1,h2⟩:=r.atI e2;exact Znj value slice pins s σ H _ _ v u Q I rx ry ⟨p,vs,k,w,rfl,rfl,SqT.of q,h1,Run.now (k:=Val X.K Q) R' W _ h2⟩ hsub
    ·have e3:Zj st d=some xs:=by
      cases d <;> first | exact e1 | exact absurd ⟨_,rfl⟩ hb
     obtain⟨p,vs,rfl,q,r⟩:=rdL W rd e3;obtain⟨w,h1,h2⟩:=r.atI e2;exact Znt value slice pins s σ H _ _ v u Q I rx ry ⟨p,vs,k,w,rfl,rfl,q,h1,Run.now (k:=Val X.K Q) R' W _ h2⟩ hsub
  cases d with
  | str z =>
   rw[Rep.str_i] at rd;subst rd;dsimp only[ixD] at R;by_cases hz:z.length<=small
   ·rw[Yi hz] at R;cases e:L2.atI z.cps.toList k with
    | none=>rw[e] at R; exact R.elim
    | some c =>
     rw[e] at R;exact ZlT value slice pins s σ H _ _ v u Q I rx ry ⟨z,k,c,rfl,rfl,YH hz ZaJ,e,Run.now (k:=Val X.K Q) R W _ (Rep.str_i.mpr rfl)⟩ hsub
   ·rw[Yh hz] at R; exact R.elim
  | tup xs=>exact seq xs rfl R
  | lst xs=>exact seq xs rfl R
  | scr xs=>exact seq xs rfl R
  | res j =>
   dsimp only[ixD] at R;cases e:itemsOf st (.res j) with
   | none=>rw[e] at R; exact R.elim
   | some xs=>rw[e] at R; exact seq xs e R
  | _=>exact R.elim
 | _=>exact R.elim
theorem Zbv(ha:PD X EX a fa)(hb:PD X EX b fb)(hs:ZgY b:=by intro _ _; rfl):PD X EX (.Subscript a b pos) (Zl ixD fa fb):=PE.mono (ZmX Zk1 ha hb hs) ZdY
def Zn{α:Type}(g:List D->Sto->Out α)(f:DA):Ev->Sto->Out α:=fun ρ st=>(f ρ st).bind g
theorem ZjP{g:List D->Sto->Out D}{f:DA}:∀σ H Q,tD X.K EX (Zn g f) σ H Q->tCB (rDC X.K EX g) (tDA X.K EX f) σ H Q:=by
 rintro σ H Q ⟨O,ρ,st,W,E,R⟩;exact⟨O,ρ,st,W,E,R.bind.mono fun ds st1 O1 H1 k1 W1 R1 vs r=>⟨O1,ds,st1,W1,r,R1⟩⟩
theorem ZeB{g:List D->Sto->Out (List D)}{f:DA}:∀σ H Q,tDF X.K EX (Zn g f) σ H Q->tCB (ZgB X.K EX g) (tDA X.K EX f) σ H Q:=by
 rintro σ H Q ⟨O,ρ,st,W,E,R⟩;exact⟨O,ρ,st,W,E,R.bind.mono fun ds st1 O1 H1 k1 W1 R1 vs r=>⟨O1,ds,st1,W1,r,R1⟩⟩
theorem Zar{x:Str}{p:Pos}{es:List Expr}{id:String}{g:List D->Sto->Out D}{f:DA}(hc:Zc6 X EX (.builtin id) g)(hg:Gl X x)(hm:X.mg x=none)(hv:bootBuiltins x=some (.builtin id))(ha:PDA X EX (e :: es) f)(hn:x≠"__name__":=by decide)(hdb:(x == ("__debug__" : Str))=false:=by decide)
  (he:starEach (e :: es) X.env=(false,eval e X.env) :: starEach es X.env:=by rfl) (hpl:(backTo pos (starEach es X.env)).any (·.1)=false:=by rfl):PD X EX (.Call (.Name x p) (e :: es) [] pos) (Zn g f):=PE.mono (Zhg hc hg hm hv ha hn hdb he hpl) ZjP
theorem Zn3{x:Str}{p:Pos}{es:List Expr}{T:String}{g:List D->Sto->Out D}{f:DA}(hc:Zc6 X EX (.type T) g)(hg:Gl X x)(hm:X.mg x=none)(hv:bootBuiltins x=some (.type T))(ha:PDA X EX (e :: es) f)(hn:x≠"__name__":=by decide)(hdb:(x == ("__debug__" : Str))=false:=by decide)
  (he:starEach (e :: es) X.env=(false,eval e X.env) :: starEach es X.env:=by rfl) (hpl:(backTo pos (starEach es X.env)).any (·.1)=false:=by rfl):PD X EX (.Call (.Name x p) (e :: es) [] pos) (Zn g f):=PE.mono (ZgV hc hg hm hv ha hn hdb he hpl) ZjP
theorem ZdD{x:Str}{p:Pos}{es:List Expr}{T:String}{g:List D->Sto->Out (List D)}{f:DA}(hc:Zdb X EX (.type T) g)(hg:Gl X x)(hm:X.mg x=none)(hv:bootBuiltins x=some (.type T))(ha:PDA X EX (e :: es) f)(hn:x≠"__name__":=by decide)(hdb:(x == ("__debug__" : Str))=false:=by decide)
  (he:starEach (e :: es) X.env=(false,eval e X.env) :: starEach es X.env:=by rfl) (hpl:(backTo pos (starEach es X.env)).any (·.1)=false:=by rfl):PDF X EX (.Call (.Name x p) (e :: es) [] pos) (Zn g f):=PE.mono (ZgV hc hg hm hv ha hn hdb he hpl) ZeB
def ZK:List D->Sto->Out D
 | [.str x],st=>if x.length<=small then .ok (.int x.length) st else .bad
 | [d],st=>match itemsOf st d with
  | some xs => .ok (.int xs.length) st
  | none => .bad
 | _,_ => .bad
theorem ZeI{O:List Addr}{H:Hp}{st:Sto}(W:WR X.K O H st){d:D}{v:V}{xs:List D}(r:Rep X.K O H d v)(e:itemsOf st d=some xs):∃p vs,v = .ref p/\(SqL X.K H p vs\/H p=some (.tup vs))/\Reps X.K O H xs vs:=by
 by_cases hb:∃zs,d = .tup zs
 ·obtain⟨zs,rfl⟩:=hb;simp only[itemsOf,Yu] at e;subst e;rw[Rep.tup_i] at r;obtain⟨p,vs,rfl,q,r⟩:=r;exact⟨p,vs,rfl,.inr q,r⟩
 ·have e3:Zj st d=some xs:=by
   cases d <;> first | exact e | exact absurd ⟨_,rfl⟩ hb
  obtain⟨p,vs,rfl,q,r⟩:=rdL W r e3;exact⟨p,vs,rfl,.inl q,r⟩
theorem Reps.one_of{K:P1}{O:List Addr}{H:Hp}{d:D}{vs:List V}(h:Reps K O H [d] vs):∃v,vs=[v]/\Rep K O H d v:=by
 obtain⟨v,r,rfl,q,t⟩:=Reps.cons_i.mp h;rw[Reps.nil_i] at t;subst t;exact⟨v,rfl,q⟩
theorem Reps.two_of{K:P1}{O:List Addr}{H:Hp}{d e:D}{vs:List V}(h:Reps K O H [d,e] vs):∃v w,vs=[v,w]/\Rep K O H d v/\Rep K O H e w:=by
 obtain⟨v,r,rfl,q,t⟩:=Reps.cons_i.mp h;obtain⟨w,rfl,q2⟩:=t.one_of;exact⟨v,w,rfl,q,q2⟩
theorem Zav:Zc6 X EX (.builtin "len") ZK:=by
 intro pins s σ H xs us Q I rx h;obtain⟨O,ds,st,W,r,R⟩:=h
 match ds,r,R with
 | [],_,R=>exact R.elim
 | [d],r,R =>
  obtain⟨v,rfl,rv⟩:=r.one_of;have seq:∀zs,itemsOf st d=some zs->Run X.K EX O H (.ok (.int zs.length) st) (Val X.K Q)->wpAny (model X.prog X.w) X.A (PySem.call (.builtin "len") us) (EP X pins σ Q) X.xe s:=by
   intro zs e R;obtain⟨p,vs,rfl,q,rs⟩:=ZeI W rv e;exact Zmm pins s σ H _ us Q I rx ⟨p,vs,rfl,q.imp_right SqT.of,by rw[<-rs.length]; exact Run.now (k:=Val X.K Q) R W _ (Rep.int_i.mpr rfl)⟩
  cases d with
  | str x =>
   rw[Rep.str_i] at rv;subst rv;dsimp only[ZK] at R;by_cases hz:x.length<=small
   ·rw[Yi hz] at R;exact Zoi pins s σ H _ us Q I rx ⟨x,rfl,YH hz ZaJ,Run.now (k:=Val X.K Q) R W _ (Rep.int_i.mpr rfl)⟩
   ·rw[Yh hz] at R; exact R.elim
  | tup zs=>exact seq zs rfl R
  | lst zs=>exact seq zs rfl R
  | scr zs=>exact seq zs rfl R
  | res j =>
   dsimp only[ZK] at R;cases e:itemsOf st (.res j) with
   | none=>rw[e] at R; exact R.elim
   | some xs=>rw[e] at R; exact seq xs e R
  | _=>exact R.elim
 | d1 :: _ :: _,_,R=>cases d1 <;> exact R.elim
def Za2:List D->Sto->Out (List D)
 | [d],st=>match itemsOf st d with
  | some xs => .ok xs st
  | none => .bad
 | _,_ => .bad
def ZdK:List D->Sto->Out D
 | [d],st=>match itemsOf st d with
  | some xs => .ok (.tup xs) st
  | none => .bad
 | _,_ => .bad
theorem ZfJ:Zdb X EX (.type "list") Za2:=by
 intro pins s σ H xs us Q I rx h;obtain⟨O,ds,st,W,r,R⟩:=h
 match ds,r,R with
 | [],_,R=>exact R.elim
 | [d],r,R =>
  obtain⟨v,rfl,rv⟩:=r.one_of;dsimp only[Za2] at R;cases e:itemsOf st d with
  | none=>rw[e] at R; exact R.elim
  | some zs =>
   rw[e] at R;obtain⟨p,vs,rfl,q,rs⟩:=ZeI W rv e;exact ZlF pins s σ H _ us Q I rx ⟨p,vs,rfl,q.imp_right SqT.of,fun l hl=>Run.now (k:=New X.K Q) R W l _ rs hl⟩
 | _ :: _ :: _,_,R=>exact R.elim
theorem Zqo:Zc6 X EX (.type "tuple") ZdK:=by
 intro pins s σ H xs us Q I rx h;obtain⟨O,ds,st,W,r,R⟩:=h
 match ds,r,R with
 | [],_,R=>exact R.elim
 | [d],r,R =>
  obtain⟨v,rfl,rv⟩:=r.one_of;dsimp only[ZdK] at R;cases e:itemsOf st d with
  | none=>rw[e] at R; exact R.elim
  | some zs =>
   rw[e] at R;obtain⟨p,vs,rfl,q,rs⟩:=ZeI W rv e;rcases q with q | q
   ·exact ZiJ pins s σ H _ us Q I rx ⟨p,vs,rfl,.inl ⟨q,fun l hl=>Zey W rs hl R⟩⟩
   ·exact ZiJ pins s σ H _ us Q I rx ⟨p,vs,rfl,.inr ⟨SqT.of q,Run.now (k:=Val X.K Q) R W _ (Rep.tup_i.mpr ⟨p,vs,rfl,q,rs⟩)⟩⟩
 | _ :: _ :: _,_,R=>exact R.elim
def Zc2:List D->Sto->Out D
 | [.int i,.int j],st => .ok (.int (if j > i then j else i)) st
 | _,_ => .bad
theorem ZmY(hc:X.calm=true):Zc6 X EX (.builtin "max") Zc2:=by
 intro pins s σ H xs us Q I rx h;obtain⟨O,ds,st,W,r,R⟩:=h;unfold Zc2 at R;split at R
 ·obtain⟨v,w,rfl,r1,r2⟩:=r.two_of;rw[Rep.int_i] at r1 r2;subst r1 r2;exact Zkh hc pins s σ H _ us Q I rx ⟨_,_,rfl,Run.now (k:=Val X.K Q) R W _ (Rep.int_i.mpr rfl)⟩
 ·exact R.elim
end
end DL
end
section
namespace DL
open PySem PySem.Spec PyProof.Rows L2
noncomputable abbrev FD:=List D->Sto->Out D
def spD(K:P1)(F:FD):Sp:=fun vs H Q E => ∃O ds st,WR K O H st/\Reps K O H ds vs/\Run K (fun c _ _ H'=>E (.ref c) Option.none H') O H (F ds st) (Val K Q)
def eOf(EX:EXT):XK:=fun Cv _ H' => ∃c st O',Cv = .ref c/\EX c st O' H'
noncomputable abbrev Zg7(CX:CXT)(X:Cx)(EX:EXT):Prop:=Passes CX X (eOf EX)
theorem xe0{X:Cx}{EX:EXT}:Zg7 CX0 X EX:=fun _ _ _ _ _ _ _ h=>h.elim
theorem Run.ex{K:P1}{EX EX':EXT}{α:Type}{O:List Addr}{H:Hp}{r:Out α}{k:α->Sto->List Addr->Hp->Prop}(h:Run K EX O H r k)(f:∀c st O' H',EX c st O' H'->EX' c st O' H'):Run K EX' O H r k:=by
 cases r with
 | ok a st=>exact h
 | exc c st=>exact fun O' H' kp W=>f _ _ _ _ (h O' H' kp W)
 | bad=>exact h
theorem Run.eOf{K:P1}{EX:EXT}{α:Type}{O:List Addr}{H:Hp}{r:Out α}{k:α->Sto->List Addr->Hp->Prop}(h:Run K EX O H r k):Run K (fun c _ _ H'=>eOf EX (.ref c) Option.none H') O H r k :=
 h.ex fun c st O' H' z=>⟨c,st,O',rfl,z⟩
def Ze8(f:Str)(d:D):List (Str×D)->List (Str×D)
 | []=>[(f,d)]
 | (g,x) :: r=>if g=f then (g,d) :: r else (g,x) :: Ze8 f d r
theorem Flds.put{K:P1}{O:List Addr}{H:Hp}{f:Str}{d:D}{v:V}(q:Rep K O H d v):∀{ds:List (Str×D)} {vs:List (Str×V)},Flds K O H ds vs->Flds K O H (Ze8 f d ds) (ZdA f v vs)
 | [],vs,h=>by
  unfold Flds at h;subst h;show Flds K O H [(f,d)] [(f,v)];unfold Flds;exact⟨v,[],rfl,q,by unfold Flds; rfl⟩
 | (x,e) :: ds,vs,h=>by
  unfold Flds at h;obtain⟨u,r,rfl,q',t⟩:=h;unfold Ze8 ZdA;by_cases hx:x=f
  ·rw[Yi hx,Yi hx];unfold Flds;exact⟨v,r,rfl,q,t⟩
  ·rw[Yh hx,Yh hx];unfold Flds;exact⟨u,ZdA f v r,rfl,q',Flds.put q t⟩
theorem Flds.length{K:P1}{O:List Addr}{H:Hp}:∀{ds:List (Str×D)} {vs:List (Str×V)},Flds K O H ds vs->ds.length=vs.length
 | [],vs,h=>by unfold Flds at h; subst h; rfl
 | (x,e) :: ds,vs,h=>by
  unfold Flds at h;obtain⟨u,r,rfl,q',t⟩:=h;rw[Yx,Yx,Flds.length t]
section
variable{X:Cx}{EX:EXT}{a b c e o:Expr}{fa fb fc fo:DE}{pos p apos:Pos}{ta tb:DT}{CX:CXT}{k:Nat}{f C:Addr}{fd:P5}{ps:List Str}{n:Nat}{F:FD}{x m:Str}{es:List Expr}{g:DA}
theorem Zn9(G:FnOk X.prog X.w X.K X.mg X.base CX k f fd ps (spD X.K F))(hr:Room k X.A)(hg:Gl X x)(hm:X.mg x=some (.ref f))(hk:PySem.W.keepIn X.K (.ref f)=true)(hb:Binds X.K fd ps [])(hx:Zg7 CX X EX)(ha:PDA X EX (e :: es) g)
  (hdb:(x == ("__debug__" : Str))=false:=by decide) (he:starEach (e :: es) X.env=(false,eval e X.env) :: starEach es X.env:=by rfl) (hpl:(backTo pos (starEach es X.env)).any (·.1)=false:=by rfl) :
  PD X EX (.Call (.Name x p) (e :: es) [] pos) (Zn F g):=by
 refine PE.mono (Zng G hr hg hm hk hb .nil hx ha hdb he hpl) ?_;rintro σ H Q ⟨O,ρ,st,W,E,R⟩;refine⟨O,ρ,st,W,E,R.bind.mono fun ds st1 O1 H1 k1 W1 R2 vs r => ?_⟩;dsimp only;rw[Qt];exact⟨O1,ds,st1,W1,r,R2.eOf⟩
end
inductive OutS where
 | nx (ρ:Ev) (st:Sto) | rt (d:D) (st:Sto) | bk (ρ:Ev) (st:Sto) | ct (ρ:Ev) (st:Sto) | exc (c:Addr) (st:Sto) | bad
noncomputable abbrev DS:=Ev->Sto->OutS
def RunS(K:P1)(EX:EXT)(Dn:Ends)(O:List Addr)(H:Hp):OutS->Prop
 | .nx ρ st => ∀O' H' σ,Keep K O H O' H'->WR K O' H' st->REnv K O' H' ρ σ->Dn.nx σ H'
 | .bk ρ st => ∀O' H' σ,Keep K O H O' H'->WR K O' H' st->REnv K O' H' ρ σ->Dn.bk σ H'
 | .ct ρ st => ∀O' H' σ,Keep K O H O' H'->WR K O' H' st->REnv K O' H' ρ σ->Dn.ct σ H'
 | .rt d st => ∀O' H' v,Keep K O H O' H'->WR K O' H' st->Rep K O' H' d v->Dn.rt v H'
 | .exc c st => ∀O' H',Keep K O H O' H'->WR K O' H' st->EX c st O' H'
 | .bad=>False
def tDS(K:P1)(EX:EXT)(g:DS):TS:=fun Dn σ H => ∃O ρ st,WR K O H st/\REnv K O H ρ σ/\RunS K EX Dn O H (g ρ st)
def PDs(X:Cx)(EX:EXT)(s:Stmt)(g:DS):Prop:=PS X s (tDS X.K EX g)
def PDS(X:Cx)(EX:EXT)(ss:List Stmt)(g:DS):Prop:=PSs X ss (tDS X.K EX g)
theorem RunS.later{K:P1}{EX:EXT}{Dn:Ends}{O O':List Addr}{H H':Hp}{r:OutS}(h:RunS K EX Dn O H r)(kp:Keep K O H O' H'):RunS K EX Dn O' H' r:=by
 cases r with
 | bad=>exact h
 | exc c st=>exact fun O2 H2 k2 W2=>h O2 H2 (kp.trans k2) W2
 | rt d st=>exact fun O2 H2 v k2 W2 r2=>h O2 H2 v (kp.trans k2) W2 r2
 | nx ρ st=>exact fun O2 H2 v k2 W2 r2=>h O2 H2 v (kp.trans k2) W2 r2
 | bk ρ st=>exact fun O2 H2 v k2 W2 r2=>h O2 H2 v (kp.trans k2) W2 r2
 | ct ρ st=>exact fun O2 H2 v k2 W2 r2=>h O2 H2 v (kp.trans k2) W2 r2
def Out.to{α:Type}(r:Out α)(k:α->Sto->OutS):OutS:=match r with
 | .ok a st=>k a st
 | .exc c st => .exc c st
 | .bad => .bad
theorem RunS.to{K:P1}{EX:EXT}{Dn:Ends}{α:Type}{O:List Addr}{H:Hp}{r:Out α}{g:α->Sto->OutS}(h:RunS K EX Dn O H (r.to g)):Run K EX O H r (fun a st O' H'=>RunS K EX Dn O' H' (g a st)):=by
 cases r with
 | ok a st=>exact fun O' H' kp W=>RunS.later (r:=g a st) h kp
 | exc c st=>exact h
 | bad=>exact h
section
variable{X:Cx}{EX:EXT}{a b c e o tg:Expr}{fa fb fc fo:DE}{pos p apos:Pos}{ta tb:DT}{s:Stmt}{ss:List Stmt}{g g':DS}{x:Str}{C:Addr}
def ZbB:DS:=fun ρ st => .nx ρ st
def Zr(g g':DS):DS:=fun ρ st=>match g ρ st with
 | .nx ρ' st'=>g' ρ' st'
 | r=>r
theorem ZcN:PDS X EX [] ZbB:=by
 refine PSs.mono Zqc ?_;rintro Dn σ H ⟨O,ρ,st,W,E,R⟩;exact R O H σ Keep.refl W E
theorem Zu(h1:PDs X EX s g)(h2:PDS X EX ss g'):PDS X EX (s :: ss) (Zr g g'):=by
 refine PSs.mono (Zms h1 h2) ?_;rintro Dn σ H ⟨O,ρ,st,W,E,R⟩;refine⟨O,ρ,st,W,E,?_⟩;unfold Zr at R;cases hg:g ρ st with
 | nx ρ' st' =>
  rw[hg] at R;exact fun O' H' σ' kp W' E'=>⟨O',ρ',st',W',E',RunS.later R kp⟩
 | _=>rw[hg] at R; exact R
theorem ZC(h1:PDs X EX s g):PDS X EX [s] g:=ZoE h1
def Zed(f:DE):DS:=fun ρ st=>(f ρ st).to fun _ st1 => .nx ρ st1
theorem ZiO(he:PD X EX e fa)(hs:swapsWith e none pos.line X.env=pure false:=by rfl):PDs X EX (.Expr e pos) (Zed fa):=by
 refine PS.mono (Zk4 he hs) ?_;rintro Dn σ H ⟨O,ρ,st,W,E,R⟩;exact⟨O,ρ,st,W,E,R.to.mono fun d st1 O1 H1 k1 W1 R1 v r=>R1 O1 H1 σ Keep.refl W1 (E.mono k1)⟩
def ZM(f:DE):DS:=fun ρ st=>(f ρ st).to fun d st1 => .rt d st1
theorem ZS(he:PD X EX e fa):PDs X EX (.Return (some e) pos) (ZM fa):=by
 refine PS.mono (Zop he) ?_;rintro Dn σ H ⟨O,ρ,st,W,E,R⟩;exact⟨O,ρ,st,W,E,R.to.mono fun d st1 O1 H1 k1 W1 R1 v r=>R1 O1 H1 v Keep.refl W1 r⟩
def sIf(t:DT)(g g':DS):DS:=fun ρ st=>(t ρ st).to fun x st1=>if x=true then g ρ st1 else g' ρ st1
theorem Zcg{sa sb:List Stmt}(hc:PDT X EX c ta)(ha:PDS X EX sa g)(hb:PDS X EX sb g'):PDs X EX (.If c sa sb pos) (sIf ta g g'):=by
 refine PS.mono (ZkQ hc ha hb) ?_;rintro Dn σ H ⟨O,ρ,st,W,E,R⟩;refine⟨O,ρ,st,W,E,R.to.mono fun x st1 O1 H1 k1 W1 R1 => ?_⟩;cases x with
 | true=>exact⟨O1,ρ,st1,W1,E.mono k1,R1⟩
 | false=>exact⟨O1,ρ,st1,W1,E.mono k1,R1⟩
def Zz(i:Nat)(f:DE):DS:=fun ρ st=>(f ρ st).to fun d st1 => .nx (ρ.set i (some d)) st1
theorem ZR(i:Nat){pos':Pos}(hN:X.N.Nodup)(hi:X.N[i]?=some x)(hx:Loc X.env.scope x)(he:PD X EX e fa)(hs:swapsWith e (some (.Name x pos')) pos.line X.env=pure false:=by rfl)
  (hf:X.fn x=true\/X.env.scope.names.lookup x=some .local:=by first | exact .inl rfl | exact .inr rfl | assumption):PDs X EX (.Assign [.Name x pos'] e pos) (Zz i fa):=by
 refine PS.mono (ZjI hN hi hx he hs hf) ?_;rintro Dn σ H ⟨O,ρ,st,W,E,R⟩;exact⟨O,ρ,st,W,E,R.to.mono fun d st1 O1 H1 k1 W1 R1 v r=>R1 O1 H1 _ Keep.refl W1 ((E.mono k1).set r)⟩
def Zcl(i:Nat)(f:DA):DS:=fun ρ st=>(f ρ st).to fun ds st1 => .nx (ρ.set i (some (.res st1.length))) (st1++[.lst ds])
theorem ZeJ(i:Nat){f:DA}{pos':Pos}(hN:X.N.Nodup)(hi:X.N[i]?=some x)(hx:Loc X.env.scope x)(he:PDF X EX e f)(hs:swapsWith e (some (.Name x pos')) pos.line X.env=pure false:=by rfl)
  (hf:X.fn x=true\/X.env.scope.names.lookup x=some .local:=by first | exact .inl rfl | exact .inr rfl | assumption):PDs X EX (.Assign [.Name x pos'] e pos) (Zcl i f):=by
 refine PS.mono (ZjI hN hi hx he hs hf) ?_;rintro Dn σ H ⟨O,ρ,st,W,E,R⟩;exact⟨O,ρ,st,W,E,R.to.mono fun ds st1 O1 H1 k1 W1 R1 p vs r hp=>R1 (O1++[p]) _ _ (Keep.push hp) (W1.push hp r) ((E.mono (k1.trans (Keep.push hp))).set (Zkd W1.len))⟩
def ZH(N n:Nat)(g:DS):FD:=fun ds st=>if ds.length=n then (match g (ds.map some++List.replicate (N - n) none) st with
 | .nx _ st' => .ok .non st'
 | .rt d st' => .ok d st'
 | _ => .bad) else .bad
end
section
variable{P:P4}{w:World}{K:P1}{mg:Str->Option P6}{base:Heap}
theorem ZiU{O:List Addr}{H:Hp}{N:List Str}:∀{ds:List D} {vs:List V} (m:Nat),Reps K O H ds vs->REnv K O H (ds.map some++List.replicate m none) (vs.map some++List.replicate m none):=by
 intro ds vs m r;refine⟨by simp[r.length],fun i d h => ?_⟩;by_cases hi:i<ds.length
 ·rw[Y6 (by simpa using hi)] at h;rw[Yw] at h;cases e:ds[i]? with
  | none=>rw[e] at h; cases h
  | some d' =>
   rw[e] at h;simp only[Vp,Yu] at h;subst h;obtain⟨v,h1,h2⟩:=r.get e;exact⟨v,by rw[Y6 (by rw[Yp,<-r.length]; exact hi),Yw,h1]; rfl,h2⟩
 ·rw[Wi (by rw[Yp]; omega),QS] at h;split at h <;> cases h
theorem fnD{x qual:Str}{st:Stmt}{f:Addr}{fd:P5}{N ps:List Str}{k:Nat}{g:DS}(F:Fun K x qual st f fd)(S:FnScope N ps (Ze st))
  (hbody:∀(cdv:P6) (A:P3) (outer:List Env) (s:P0) (H:Hp) (E:XK),Room k (A.deeper (envOfC qual (Ze st) s.heap.objs.size f cdv)) ->
   PDS (ZD CX0 P w K mg base N qual (Ze st) f cdv A outer s H E).nox EX0 (Zs st) g):FnOk P w K mg base CX0 (k+1) f fd ps (spD K (ZH N.length ps.length g)):=by
 have hlen:∀vs H Q E,spD K (ZH N.length ps.length g) vs H Q E->vs.length=ps.length:=by
  rintro vs H Q E ⟨O,ds,st,W,r,R⟩;unfold ZH at R;by_cases hl:ds.length=ps.length
  ·rw[<-r.length]; exact hl
  ·rw[Yh hl] at R; exact R.elim
 refine F.ok S hlen fun cdv A outer s H vs Q E hr h => ?_;refine⟨_,hbody cdv A outer s H E hr,?_⟩;have hl:=hlen vs H Q E h;obtain⟨O,ds,st,W,r,R⟩:=h;have hd:ds.length=ps.length:=by rw[r.length]; exact hl
 unfold ZH at R;rw[Yi hd] at R;refine⟨O,ds.map some++List.replicate (N.length - ps.length) none,st,W,?_,?_⟩
 ·unfold L2.start;rw[hl];exact ZiU (N:=N) _ r
 ·cases hg:g (ds.map some++List.replicate (N.length - ps.length) none) st with
  | nx ρ st'=>rw[hg] at R; exact fun O' H' σ kp W' _=>R O' H' kp W' _ (Rep.non_i.mpr rfl)
  | rt d st'=>rw[hg] at R; exact fun O' H' v kp W' rv=>R O' H' kp W' v rv
  | exc c st'=>rw[hg] at R; exact R.elim
  | bad=>rw[hg] at R; exact R
  | bk ρ st'=>rw[hg] at R; exact R.elim
  | ct ρ st'=>rw[hg] at R; exact R.elim
end
end DL
end
section
namespace DL
open PySem PySem.Spec PyProof.Rows L2
noncomputable abbrev TgD:=D->Ev->Option Ev
def tgD(K:P1)(t:TgD):TG:=fun v σ H Q => ∃O d ρ ρ',Rep K O H d v/\REnv K O H ρ σ/\t d ρ=some ρ'/\∀σ',REnv K O H ρ' σ'->Q σ' H
def PGD(X:Cx)(tg:Expr)(t:TgD):Prop:=PG X tg (tgD X.K t)
theorem PG.mono{X:Cx}{tg:Expr}{t t':TG}(h:PG X tg t)(f:∀v σ H Q,t' v σ H Q->t v σ H Q):PG X tg t':=fun pins s σ H v u Q I r q=>h pins s σ H v u Q I r (f v σ H Q q)
theorem PGs.mono{X:Cx}{tg:List Expr}{t t':TGs}(h:PGs X tg t)(f:∀v σ H Q,t' v σ H Q->t v σ H Q):PGs X tg t':=fun pins s σ H v u Q I r q=>h pins s σ H v u Q I r (f v σ H Q q)
def Zw(i:Nat):TgD:=fun d ρ=>some (ρ.set i (some d))
def Zgs:List Nat->List D->Ev->Ev
 | i :: is,d :: ds,ρ=>Zgs is ds (ρ.set i (some d))
 | _,_,ρ=>ρ
def ZdC(K:P1)(is:List Nat):TGs:=fun vs σ H Q => ∃O ds ρ,Reps K O H ds vs/\REnv K O H ρ σ/\ds.length=is.length/\∀σ',REnv K O H (Zgs is ds ρ) σ'->Q σ' H
def Zat(is:List Nat):TgD
 | .tup ds,ρ=>if ds.length=is.length then some (Zgs is ds ρ) else none
 | _,_=>none
section
variable{X:Cx}{EX:EXT}{pos:Pos}{x:Str}
theorem Zai(i:Nat)(hN:X.N.Nodup)(hi:X.N[i]?=some x)(hx:Loc X.env.scope x)(hf:X.fn x=true\/X.env.scope.names.lookup x=some .local:=by first | exact .inl rfl | exact .inr rfl | assumption):PGD X (.Name x pos) (Zw i):=by
 refine PG.mono (ZjZ hN hi hx hf) ?_;rintro v σ H Q ⟨O,d,ρ,ρ',r,E,ht,q⟩;cases ht;exact q _ (E.set r)
theorem Zdq:PGs X [] (ZdC X.K []):=by
 refine PGs.mono Zn5 ?_;rintro vs σ H Q ⟨O,ds,ρ,r,E,hl,q⟩;have e:ds=[]:=WU.mp hl;subst e;rw[Reps.nil_i] at r;exact⟨r,q _ E⟩
theorem ZaN(i:Nat){is:List Nat}{es:List Expr}(hN:X.N.Nodup)(hi:X.N[i]?=some x)(hx:Loc X.env.scope x)(h2:PGs X es (ZdC X.K is))(hf:X.fn x=true\/X.env.scope.names.lookup x=some .local:=by first | exact .inl rfl | exact .inr rfl | assumption)
  (hs:(assignEach (.Name x pos :: es) X.env).map (·.2)=assign (.Name x pos) X.env :: (assignEach es X.env).map (·.2):=by rfl):PGs X (.Name x pos :: es) (ZdC X.K (i :: is)):=by
 refine PGs.mono (ZmS (ZjZ hN hi hx hf) h2 hs) ?_;rintro vs σ H Q ⟨O,ds,ρ,r,E,hl,q⟩;cases ds with
 | nil=>cases hl
 | cons d ds =>
  obtain⟨v,vs',rfl,q1,t⟩:=Reps.cons_i.mp r;exact⟨v,vs',rfl,O,ds,_,t,E.set q1,by simpa using hl,q⟩
theorem Zdr{is:List Nat}{es:List Expr}{k:Nat}(hc:X.calm=true)(h:PGs X es (ZdC X.K is))(hn:(assignEach es X.env).length=is.length:=by rfl)(hst:(assignEach es X.env).findIdx? (·.1)=none:=by rfl):PGD X (.Tuple es k pos) (Zat is):=by
 refine PG.mono (ZpQ hc h hn hst) ?_;rintro v σ H Q ⟨O,d,ρ,ρ',r,E,ht,q⟩;cases d with
 | tup ds =>
  dsimp only[Zat] at ht;by_cases hl:ds.length=is.length
  ·rw[Yi hl] at ht;cases ht;rw[Rep.tup_i] at r;obtain⟨a,vs,rfl,hq,rs⟩:=r;exact⟨a,vs,rfl,SqT.of hq,by rw[<-rs.length]; exact hl,O,ds,ρ,rs,E,hl,q⟩
  ·rw[Yh hl] at ht; cases ht
 | _=>cases ht
end
noncomputable abbrev Wk:=List D×(Sto->Prop)
def ItD(K:P1)(J:It)(O0:List Addr)(H0:Hp)(q:Wk):Prop :=
 ∀(i:Nat) (O:List Addr) (H:Hp) (st:Sto),Keep K O0 H0 O H->WR K O H st->q.2 st ->
  (∀d,q.1[i]?=some d->J.go i H/\∀x H',J.yld i H x H'->Keep K O H O H'/\WR K O H' st/\Rep K O H' d x)/\(q.1.length<=i->J.stop i H)
noncomputable abbrev DI:=Ev->Sto->Out Wk
def wiD(K:P1)(EX:EXT)(f:DI):TI:=fun σ H R => ∃O ρ st,WR K O H st/\REnv K O H ρ σ/\Run K EX O H (f ρ st) (fun q _ O' H' => ∀J,ItD K J O' H' q->R J H')
def PID(X:Cx)(EX:EXT)(tg iter:Expr)(f:DI):Prop:=PI X tg iter (wiD X.K EX f)
theorem PI.mono{X:Cx}{tg it:Expr}{t t':TI}(h:PI X tg it t)(f:∀σ H Q,t' σ H Q->t σ H Q):PI X tg it t':=fun pins s σ H Q I q=>h pins s σ H Q I (f σ H Q q)
theorem PI.or{X:Cx}{tg it:Expr}{t t':TI}(h:PI X tg it t)(h':PI X tg it t'):PI X tg it (fun σ H R=>t σ H R\/t' σ H R):=fun pins s σ H Q I q=>by
 rcases q with q | q
 ·exact h pins s σ H Q I q
 ·exact h' pins s σ H Q I q
section
variable{K:P1}{O:List Addr}{H:Hp}{st:Sto}
theorem ZpC{a:Addr}{vs:List V}{xs:List D}{P:Sto->Prop}(q:H a=some (.tup vs))(r:Reps K O H xs vs):ItD K (Itt K a) O H (xs,P):=by
 intro i O' H' st' kp W' _;refine⟨fun d hd => ?_,fun hl=>⟨vs,SqT.of (kp.tup _ _ q),by rw[<-r.length]; exact hl⟩⟩;obtain⟨v,h1,h2⟩:=r.get hd;refine⟨⟨vs,v,SqT.of (kp.tup _ _ q),h1⟩,?_⟩;rintro x H2 ⟨rfl,h3⟩;have h4:=h3 vs (SqT.of (kp.tup _ _ q));rw[h1] at h4;cases h4;exact⟨Keep.refl,W',Rep.mono kp _ _ h2⟩
theorem Zo3{a:Addr}{xs:List D}{P:Sto->Prop}(h:∀(O':List Addr) (H':Hp) (st':Sto),Keep K O H O' H'->WR K O' H' st'->P st'->∃vs,SqL K H' a vs/\Reps K O' H' xs vs):ItD K (Itl K a) O H (xs,P):=by
 intro i O' H' st' kp W' hp;obtain⟨vs,q,r⟩:=h O' H' st' kp W' hp;refine⟨fun d hd => ?_,fun hl=>⟨vs,q,by rw[<-r.length]; exact hl⟩⟩;obtain⟨v,h1,h2⟩:=r.get hd;refine⟨⟨vs,v,q,h1⟩,?_⟩;rintro x H2 ⟨rfl,h3⟩;have h4:=h3 vs q;rw[h1] at h4;cases h4;exact⟨Keep.refl,W',h2⟩
theorem ZnT{lo:Int}{n:Nat}{P:Sto->Prop}:ItD K (Itr lo n) O H ((List.range n).map (fun (i:Nat)=>D.int (lo+i)),P):=by
 intro i O' H' st' kp W' hp;refine⟨fun d hd => ?_,fun hl=>(show n<=i by simpa using hl)⟩;have hi:i<n:=by
  have:=(Yo.mp hd).1;simpa using this
 have e:d=D.int (lo+i):=by
  rw[Yw,List.getElem?_range hi] at hd;simpa using hd.symm
 subst e;refine⟨hi,?_⟩;rintro x H2 ⟨rfl,rfl⟩;exact⟨Keep.refl,W',Rep.int_i.mpr rfl⟩
end
section
variable{X:Cx}{EX:EXT}{tg e a b:Expr}{f:DE}{g:DA}{pos p:Pos}
def Z5(f:DE):DI:=fun ρ st=>(f ρ st).bind fun d st1=>match itemsOf st1 d with
 | some xs => .ok (xs,fun st=>itemsOf st d=some xs) st1
 | none => .bad
theorem ZaE(h:PD X EX e f):PID X EX tg e (Z5 f):=by
 refine PI.mono (PI.or (Zpd h) (Zkc h)) ?_;rintro σ H R ⟨O,ρ,st,W,E,R0⟩;have R1:=R0.bind;cases hf:f ρ st with
 | bad=>rw[hf] at R1; exact R1.elim
 | exc c st' =>
  rw[hf] at R1;exact .inl ⟨O,ρ,st,W,E,by rw[hf]; exact R1⟩
 | ok d st' =>
  rw[hf] at R1;by_cases hb:∃zs,d = .tup zs
  ·obtain⟨zs,rfl⟩:=hb;refine .inl ⟨O,ρ,st,W,E,?_⟩;rw[hf];intro O1 H1 k1 W1 v r;have R2:=R1 O1 H1 k1 W1;rw[Rep.tup_i] at r;obtain⟨q,vs,rfl,hq,rs⟩:=r;exact⟨q,rfl,⟨vs,SqT.of hq⟩,Run.now (k:=fun q _ O' H' => ∀J,ItD X.K J O' H' q->R J H') R2 W1 _ (ZpC hq rs)⟩
  ·refine .inr ⟨O,ρ,st,W,E,?_⟩;rw[hf];intro O1 H1 k1 W1 v r;have R2:=R1 O1 H1 k1 W1;have ei:∀s',itemsOf s' d=Zj s' d:=by
    intro s';cases d <;> first | rfl | exact absurd ⟨_,rfl⟩ hb
   dsimp only at R2;rw[ei] at R2;cases e1:Zj st' d with
   | none=>rw[e1] at R2; exact R2.elim
   | some xs =>
    rw[e1] at R2;obtain⟨q,vs,rfl,hq,rs⟩:=rdL W1 r e1;refine⟨q,rfl,⟨vs,hq⟩,Run.now (k:=fun q _ O' H' => ∀J,ItD X.K J O' H' q->R J H') R2 W1 _ (Zo3 fun O' H' st2 kp W' hp => ?_)⟩;rw[ei] at hp;obtain⟨q',vs',e2,hq',rs'⟩:=rdL W' (Rep.mono kp _ _ r) hp;cases e2;exact⟨vs',hq',rs'⟩
def Zby(j:Int):Bool:=@decide (-(2 ^ 62)<=j/\j<2 ^ 62) (Classical.propDecidable _)
theorem rngOk_iff{j:Int}:Zby j=true ↔ (-(2 ^ 62)<=j/\j<2 ^ 62):=by
 unfold Zby;exact @decide_eq_true_iff _ (Classical.propDecidable _)
theorem Zft{j:Int}(h1 : -1000000<=j)(h2:j<=1000000):Zby j=true:=rngOk_iff.mpr ⟨by omega,by omega⟩
def Zcn(g:DA):DI:=fun ρ st=>(g ρ st).bind fun ds st1=>match ds with
 | [.int j]=>if Zby j=true then .ok ((List.range j.toNat).map (fun (i:Nat)=>D.int (0+i)),fun _=>True) st1 else .bad
 | _ => .bad
theorem Zfd(hg:Gl X "range")(hm:X.mg "range" = none)(ha:PDA X EX [a] g)(hs:starEach [a] X.env=[(false,eval a X.env)]:=by rfl):PID X EX tg (.Call (.Name "range" p) [a] [] pos) (Zcn g):=by
 refine PI.mono (ZpV hg hm ha hs) ?_;rintro σ H R ⟨O,ρ,st,W,E,R0⟩;refine⟨O,ρ,st,W,E,R0.bind.mono fun ds st1 O1 H1 k1 W1 R1 vs r => ?_⟩;split at R1
 ·rename_i j;obtain⟨v,rfl,rv⟩:=r.one_of;rw[Rep.int_i] at rv;subst rv;by_cases hj:Zby j=true
  ·rw[Yi hj] at R1;exact⟨j,rfl,(rngOk_iff.mp hj).1,(rngOk_iff.mp hj).2,Run.now (k:=fun q _ O' H' => ∀J,ItD X.K J O' H' q->R J H') R1 W1 _ ZnT⟩
  ·rw[Yh hj] at R1; exact R1.elim
 ·exact R1.elim
end
open Classical in
def ZX(chk:Sto->Prop)(t:TgD)(g:DS):List D->DS
 | [],ρ,st=>if chk st then .nx ρ st else .bad
 | x :: xs,ρ,st=>if chk st then (match t x ρ with
  | none => .bad
  | some ρ1=>match g ρ1 st with
   | .nx ρ' st'=>ZX chk t g xs ρ' st'
   | .ct ρ' st'=>ZX chk t g xs ρ' st'
   | .bk ρ' st' => .nx ρ' st'
   | r=>r) else .bad
def ZaO(f:DI)(t:TgD)(g:DS):DS:=fun ρ st=>(f ρ st).to fun q st1=>ZX q.2 t g q.1 ρ st1
section
variable{X:Cx}{EX:EXT}{tg it:Expr}{f:DI}{t:TgD}{g:DS}{pos:Pos}{body:List Stmt}
theorem Zbf(hp:PassesOwn (model X.prog X.w) X.A X.env X.xe)(hc:X.calm=true)(hi:PID X EX tg it f)(hg:PGD X tg t)(hb:PDS X EX body g)(hs:∀x,foldedSetIterable it X.env x=pure x:=by intro _; rfl):PDs X EX (.For tg it body [] pos) (ZaO f t g):=by
 refine PS.mono (ZkS hp hc hi hg hb hs) ?_;rintro Dn σ H ⟨O,ρ,st,W,E,R⟩;refine⟨O,ρ,st,W,E,R.to.mono fun q st1 O1 H1 k1 W1 R1 J hJ => ?_⟩;refine⟨fun i m σ' H'=>m+i=q.1.length/\∃O' ρ' st',Keep X.K O1 H1 O' H'/\WR X.K O' H' st'/\REnv X.K O' H' ρ' σ'/\RunS X.K EX Dn O' H' (ZX q.2 t g (q.1.drop i) ρ' st'),⟨q.1.length,rfl,O1,ρ,st1,Keep.refl,W1,E.mono k1,R1⟩,?_⟩;rintro i m σ' H' ⟨hm,O',ρ',st',kp,W',E',R'⟩;cases hd:q.1.drop i with
 | nil =>
  rw[hd] at R';unfold ZX at R';have hl:q.1.length<=i:=List.drop_eq_nil_iff.mp hd;by_cases hch:q.2 st'
  ·rw[Yi hch] at R';exact .inl ⟨(hJ i O' H' st' kp W' hch).2 hl,R' O' H' σ' Keep.refl W' E'⟩
  ·rw[Yh hch] at R'; exact R'.elim
 | cons x xs =>
  rw[hd] at R';unfold ZX at R';have hx:q.1[i]?=some x:=by
   have:=List.getElem?_drop (xs:=q.1) (i:=i) (j:=0);rw[hd] at this;simpa using this.symm
  have hxs:q.1.drop (i+1)=xs:=by
   have:=VB (i:=1) (j:=i) (l:=q.1);rw[hd] at this;simpa using this.symm
  have hi:i<q.1.length:=(Yo.mp hx).1;by_cases hch:q.2 st'
  ·rw[Yi hch] at R';obtain⟨hgo,hy⟩:=(hJ i O' H' st' kp W' hch).1 x hx;refine .inr ⟨hgo,fun σ2 H2=>(m - 1)+(i+1)=q.1.length/\∃O' ρ' st',True/\WR X.K O' H2 st'/\Keep X.K O1 H1 O' H2/\REnv X.K O' H2 ρ' σ2/\RunS X.K EX Dn O' H2 (ZX q.2 t g (q.1.drop (i+1)) ρ' st'),?_,?_⟩
   ·rintro σ2 H2 ⟨h1,O2,ρ2,st2,_,W2,kp2,E2,R2⟩;exact⟨m - 1,by omega,h1,O2,ρ2,st2,kp2,W2,E2,R2⟩
   ·intro v H2 hv;obtain⟨ky,Wy,ry⟩:=hy v H2 hv;cases ht:t x ρ' with
    | none=>rw[ht] at R'; exact R'.elim
    | some ρ1 =>
     rw[ht] at R';dsimp only at R';refine⟨O',x,ρ',ρ1,ry,E'.mono ky,ht,fun σ2 E2=>⟨O',ρ1,st',Wy,E2,?_⟩⟩;cases hgr:g ρ1 st' with
     | nx ρ2 st2 =>
      rw[hgr] at R';intro O3 H3 σ3 k3 W3 E3;exact⟨by omega,O3,ρ2,st2,trivial,W3,kp.trans (ky.trans k3),E3,by rw[hxs]; exact RunS.later R' (ky.trans k3)⟩
     | ct ρ2 st2 =>
      rw[hgr] at R';intro O3 H3 σ3 k3 W3 E3;exact⟨by omega,O3,ρ2,st2,trivial,W3,kp.trans (ky.trans k3),E3,by rw[hxs]; exact RunS.later R' (ky.trans k3)⟩
     | bk ρ2 st2 =>
      rw[hgr] at R';exact fun O3 H3 σ3 k3 W3 E3=>R' O3 H3 σ3 (ky.trans k3) W3 E3
     | rt d st2 =>
      rw[hgr] at R';exact fun O3 H3 σ3 k3 W3 E3=>R' O3 H3 σ3 (ky.trans k3) W3 E3
     | exc c st2 =>
      rw[hgr] at R';exact fun O3 H3 k3 W3=>R' O3 H3 (ky.trans k3) W3
     | bad=>rw[hgr] at R'; exact R'
  ·rw[Yh hch] at R'; exact R'.elim
end
end DL
end
section
namespace DL
open PySem PySem.Spec PyProof.Rows L2
section
variable{prog:P4}{w:World}{A:P3}{E:P6->P0->Prop}{R:Result->P0->Prop}{s:P0}
theorem Zmu{elt target iter:Expr}{ifs:List Expr}{scope:Scope}{pos:Pos}{it acc:P6}{env:Env}(I:Nat->P0->Prop)
  (turn:∀n s,I n s->wpAny (model prog w) A (pyNext it) (fun r s₁=>match r with
   | none=>R (.ok .next) s₁
   | some v=>wpAny (model prog w) A (letOwnedTupleGo target it v) (fun _ s₁'=>wpAny (model prog w) A (assign target env v) (fun _ s₂ =>
     wpAny (model prog w) A (forIn ifs true fun c r=>if r=true then do let ok <-isTrue c env (eval c env); pure (ForInStep.yield ok) else pure (ForInStep.yield r)) (fun ok s₃ =>
      if ok=true then wpAny (model prog w) A (eval elt env) (fun x s₄ =>
       wpAny (model prog w) A (call (.builtin "list.append") [acc,x]) (fun _ s₅ => ∃m,m<n/\I m s₅) (fun _ _=>False) s₄) (fun _ _=>False) s₃
      else ∃m,m<n/\I m s₃) (fun _ _=>False) s₂) (fun _ _=>False) s₁') (fun _ _=>False) s₁) (fun _ _=>False) s)
  (n:Nat) (h:I n s) :
  codeAny (model prog w) A (.compLoop (.ListComp elt [⟨target,iter,ifs,0⟩] scope pos) 0 it acc env) R s:=by
 refine codeAny_loop rfl I (fun n s hI => ?_) n h;show wpAny _ A ((compTurn (.ListComp elt [⟨target,iter,ifs,0⟩] scope pos) 0 it acc env).onRaise (fun x=>do noteFrame x env; theTreesLotGoes x)) _ _ s;refine wpAny_noted ?_;rw[compTurn_list];refine Ya (wpAny_standAt (Ya (YM (turn n s hI) (fun r s₁ h₁ => ?_) fun _ _ h'=>h'.elim)));cases r with
 | none=>exact Yb h₁
 | some v =>
  refine Ya (YM h₁ (fun _ s₁' h₁' => ?_) fun _ _ h'=>h'.elim);refine Ya (YM h₁' (fun _ s₂ h₂=>Ya (YM h₂ (fun ok s₃ h₃ => ?_) fun _ _ h'=>h'.elim)) fun _ _ h'=>h'.elim);cases ok with
  | false=>exact Yb ⟨rfl,h₃⟩
  | true =>
   exact Ya (Ya (YM h₃ (fun x s₄ h₄=>Ya (YM h₄ (fun _ s₅ h₅=>Yb (Yb ⟨rfl,h₅⟩)) fun _ _ h'=>h'.elim)) fun _ _ h'=>h'.elim))
theorem Zpq{l:Addr}{items:List P6}{n:Nat}{x:P6}{Q:P6->P0->Prop}(ho:s.heap.get? l=some { cls:=.type "list",data:=.seq items.toArray n })
  (hQ:∀h',h'.get? l=some { cls:=.type "list",data:=.seq (items++[x]).toArray (n+1) }->Heap.SameBut l s.heap h'->Q .none { s with heap:=h' }) (hsz:items.length<=sizeLine) :
  wpAny (model prog w) A (call (.builtin "list.append") [.ref l,x]) Q E s:=by
 have hl:s.heap.IsList l items.toArray:=⟨_,ho,rfl,n,rfl⟩;refine YI slot_list_append hl.typeIs entry_list_append ?_ (args_list_append _ _);show wpAny _ _ (updateSeq l (·.push x) >>= fun _=>ret .none) _ _ s;refine Ya ?_;refine Qd (hz:=by rw[Yn]; exact hsz) ho rfl (Yb ⟨.none,rfl,hQ _ ?_ (Yy ..)⟩);rw[YJ _ ho (by rfl)];simp[Obj.mapSeq]
end
def Zag(env:Env):List (Str×NameKind)->List (Str×Addr)->List (Str×Addr)
 | [],acc=>acc
 | (n,k) :: r,acc=>if k == .free then (match env.cells.lookup n with
  | some a=>Zag env r ((n,a) :: acc)
  | none=>Zag env r acc) else Zag env r acc
theorem ZgQ(env:Env):∀(names:List (Str×NameKind)) (acc:List (Str×Addr)),(∀y∈names,y.2 = .free->∃a,env.cells.lookup y.1=some a) ->
  (forIn names acc fun (x:Str×NameKind) (cs:List (Str×Addr))=>(if (x.2 == NameKind.free)=true then do let a <-cellOf env x.1; pure (ForInStep.yield ((x.1,a) :: cs)) else pure (ForInStep.yield cs):Sem (ForInStep (List (Str×Addr)))))=pure (Zag env names acc)
 | [],acc,_=>rfl
 | (n,k) :: r,acc,h=>by
  have ih:=fun acc=>ZgQ env r acc fun y hy=>h y (Yv _ hy);rw[V9];unfold Zag;by_cases hk:(k == NameKind.free)=true
  ·obtain⟨a,ha⟩:=h (n,k) Yz (by simpa using hk);have e:cellOf env n=pure a:=by unfold cellOf; rw[ha]
   simp only[hk,Wq,e,ha,pure_bind];exact ih _
  ·have hk':(k == NameKind.free)=false:=by simpa using hk
   simp only[hk',YG,Wc,pure_bind];exact ih _
theorem ZlS{scope:Scope}{env:Env}(h:∀y∈scope.names,y.2 = .free->∃a,env.cells.lookup y.1=some a):closureFor scope env=pure (Zag env scope.names []):=by
 have e:=ZgQ env scope.names [] h;unfold closureFor;simp only[bind_pure];refine Eq.trans ?_ e;rfl
theorem Zcp{env:Env}{x:Str}{c:Addr}:∀(names:List (Str×NameKind)) (acc:List (Str×Addr)),(∀y a,acc.lookup y=some a->env.cells.lookup y=some a)->(Zag env names acc).lookup x=some c->env.cells.lookup x=some c
 | [],acc,h,e=>h x c e
 | (n,k) :: r,acc,h,e=>by
  unfold Zag at e;split at e
  ·split at e
   ·rename_i a ha;refine Zcp r _ (fun y b hb => ?_) e;rw[VU] at hb;cases hy:y == n with
    | true =>
     rw[hy] at hb;have ey:y=n:=eq_of_beq hy;subst ey;cases hb;exact ha
    | false=>rw[hy] at hb; exact h y b hb
   ·exact Zcp r _ h e
  ·exact Zcp r _ h e
theorem Zdk{env:Env}{x:Str}{c:Addr}(hx:env.cells.lookup x=some c):∀(names:List (Str×NameKind)) (acc:List (Str×Addr)),acc.lookup x=some c\/(x,NameKind.free)∈names->(Zag env names acc).lookup x=some c
 | [],acc,h=>by
  rcases h with h | h
  ·exact h
  ·cases h
 | (n,k) :: r,acc,h=>by
  unfold Zag;have keep:∀a,env.cells.lookup n=some a->acc.lookup x=some c->((n,a) :: acc).lookup x=some c:=by
   intro a ha hl;rw[VU];cases hy:x == n with
   | true =>
    have ey:x=n:=eq_of_beq hy;subst ey;rw[hx] at ha;cases ha;rfl
   | false=>exact hl
  split
  ·rename_i hk;split
   ·rename_i a ha;refine Zdk hx r _ ?_;rcases h with h | h
    ·exact .inl (keep a ha h)
    ·rcases Yl.mp h with e | h
     ·cases e;refine .inl ?_;rw[hx] at ha;cases ha;simp
     ·exact .inr h
   ·rename_i hn;refine Zdk hx r _ ?_;rcases h with h | h
    ·exact .inl h
    ·rcases Yl.mp h with e | h
     ·cases e;rw[hx] at hn;cases hn
     ·exact .inr h
  ·rename_i hk;refine Zdk hx r _ ?_;rcases h with h | h
   ·exact .inl h
   ·rcases Yl.mp h with e | h
    ·cases e;exact absurd rfl hk
    ·exact .inr h
def ZaU(scope sc:Scope):Scope :=
 { scope with names:=scope.names.map fun (n,k)=>if (k == .free && sc.kind == .function && sc.names.lookup n == some .cell) then (n,.cell) else (n,k) }
structure Blk(sc scope:Scope)(N0 N:List Str)(caps:List Nat)(nT:Nat):Prop where
 kind:scope.kind = .function
 nocell:∀y∈scope.names,y.2≠.cell
 names:∀y∈scope.names,y.2 = .local->scope.names.lookup y.1=some .local
 free:∀y∈scope.names,y.2 = .free->sc.names.lookup y.1=some .cell\/sc.names.lookup y.1=some .free
 len:N.length=nT+caps.length
 cap:∀q∈(List.range caps.length),∃i x,caps[q]?=some i/\N[nT+q]?=some x/\N0[i]?=some x/\(x,NameKind.free)∈scope.names/\((ZaU scope sc).names.lookup x=some .cell\/(ZaU scope sc).names.lookup x=some .free)
def Zas(sc scope:Scope)(N0 N:List Str)(caps:List Nat)(nT:Nat):Bool :=
 (scope.kind == .function) && scope.names.all (fun y => !(y.2 == .cell)) && scope.names.all (fun y => !(y.2 == .local) || scope.names.lookup y.1 == some .local) &&
  scope.names.all (fun y => !(y.2 == .free) || (sc.names.lookup y.1 == some .cell || sc.names.lookup y.1 == some .free)) && (N.length == nT+caps.length) &&
  (List.range caps.length).all fun q=>match caps[q]?,N[nT+q]? with
   | some i,some x=>(N0[i]? == some x) && scope.names.any (fun y=>y.1 == x && y.2 == .free) && ((ZaU scope sc).names.lookup x == some .cell || (ZaU scope sc).names.lookup x == some .free)
   | _,_=>false
theorem Blk.of{sc scope:Scope}{N0 N:List Str}{caps:List Nat}{nT:Nat}(h:Zas sc scope N0 N caps nT=true):Blk sc scope N0 N caps nT:=by
 unfold Zas at h;simp only[YE] at h;obtain⟨⟨⟨⟨⟨h1,h2⟩,h3⟩,h4⟩,h5⟩,h6⟩:=h;refine⟨eq_of_beq h1,fun y hy => ?_,fun y hy hl => ?_,fun y hy hl => ?_,eq_of_beq h5,fun q hq => ?_⟩
 ·have:=YB.mp h2 y hy;simpa using this
 ·have:=YB.mp h3 y hy;rw[hl] at this;simpa using this
 ·have:=YB.mp h4 y hy;rw[hl] at this;simpa using this
 ·have:=YB.mp h6 q hq;split at this
  ·rename_i i x e1 e2;simp only[YE,Q0,List.any_eq_true,beq_iff_eq] at this;obtain⟨⟨g1,⟨y,g2,g3,g4⟩⟩,g5⟩:=this;refine⟨i,x,e1,e2,g1,?_,g5⟩;obtain⟨y1,y2⟩:=y;simp only at g3 g4;subst g3 g4;exact g2
  ·cases this
def cxC(X:Cx)(N:List Str)(scope:Scope)(acc:Addr)(fp:List Addr)(s3:P0)(H:Hp):Cx :=
 { X with N:=N,s₀:=s3,H₀:=H,env:=compEnvC scope (Zag X.env scope.names []) s3.heap.objs.size X.env,outer:=X.stack,ex:=acc :: fp,fn:=fun _=>false,pn:=[],xe:=fun _ _=>False }
def Zaa(ρ:Ev)(caps:List Nat)(nT:Nat):Ev:=List.replicate nT none++caps.map fun i=>(ρ[i]?).join
def Zbl(σ:L2.St)(caps:List Nat)(nT:Nat):L2.St:=List.replicate nT none++caps.map fun i=>(σ[i]?).join
theorem Zoj{K:P1}{O:List Addr}{H:Hp}{ρ:Ev}{σ:L2.St}(E:REnv K O H ρ σ)(caps:List Nat)(nT:Nat):REnv K O H (Zaa ρ caps nT) (Zbl σ caps nT):=by
 refine⟨by simp[Zaa,Zbl],fun i d h => ?_⟩;unfold Zaa at h;unfold Zbl;by_cases hi:i<nT
 ·rw[Y6 (by simpa using hi),QS] at h;split at h <;> cases h
 ·rw[Wi (by simpa using hi)] at h ⊢;rw[V0,Yw] at h ⊢;cases hc:caps[i - nT]? with
  | none=>rw[hc] at h; cases h
  | some j =>
   rw[hc] at h;simp only[Vp,Yu] at h ⊢;cases hj:ρ[j]? with
   | none=>rw[hj] at h; cases h
   | some z =>
    rw[hj] at h;simp only[Option.join_some] at h;subst h;obtain⟨v,h1,h2⟩:=E.at_ j d hj;exact⟨v,by rw[h1]; rfl,h2⟩
section
variable{X:Cx}{pins:List (Addr×Obj)}{σ:L2.St}{H:Hp}{s:P0}{scope:Scope}{N:List Str}{caps:List Nat}{nT:Nat}{fp:List Addr}
theorem ZqC(B:Blk X.env.scope scope X.N N caps nT)(I:Inv X pins σ H s)(hf:∀b∈fp,Zay X pins H b)(ho:∀b∈fp,∃o,s.heap.get? b=some o){h4:Heap}{tk:Nat}
  (hns:h4.Ns (s.heap.push { cls:=.type "list",data:=.seq ([]:List P6).toArray }).objs.size (fun x=>([]:List (Str×P6)).reverse.lookup x))
  (hsb:Heap.SameBut (s.heap.push { cls:=.type "list",data:=.seq ([]:List P6).toArray }).objs.size ((s.heap.push { cls:=.type "list",data:=.seq ([]:List P6).toArray }).push { cls:=.type "dict",data:=.dict #[] }) h4) :
  Inv (cxC X N scope s.heap.objs.size fp { s with heap:=s.heap.push { cls:=.type "list",data:=.seq ([]:List P6).toArray } } H) [] (Zbl σ caps nT) H { s with heap:=h4,toks:=tk }:=by
 generalize hH2:s.heap.push { cls:=.type "list",data:=.seq ([]:List P6).toArray }=h3 at hns hsb ⊢;have hC:h3.objs.size=s.heap.objs.size+1:=by rw[<-hH2,Y9]
 have k3:∀b o,s.heap.get? b=some o->h3.get? b=some o:=fun b o e=>hH2 ▸ Yc _ e;have I3:Inv X pins σ H { s with heap:=h3 }:=I.kept (t':=s.toks) k3;have k4:∀b o,h3.get? b=some o->h4.get? b=some o:=fun b o e=>hsb.extBut b o (Yr (Yk e)) (Yc _ e);have lt3:∀b o,s.heap.get? b=some o->b<h3.objs.size:=fun b o e=>Yk (k3 b o e);have cells:∀x c,(Zag X.env scope.names []).lookup x=some c->X.env.cells.lookup x=some c:=fun x c e=>Zcp scope.names [] (fun y a z=>by cases z) e;have ok:(cxC X N scope s.heap.objs.size fp { s with heap:=h3 } H).Ok:=by
  refine⟨I.ok.mod,B.kind,I.ok.glob,I.ok.blt,Yj _,fun x y c h1 h2=>I.ok.inj x y c (cells _ _ h1) (cells _ _ h2),?_,fun x c hx=>(by cases hx),I.ok.hd,I.ok.frames,.inl rfl,?_,I3.bs,YH I.ok.bsz (YH I.sz (by show s.heap.objs.size<=h3.objs.size; omega)),?_,?_,I3.stack,I3.stkFree⟩
  ·intro x hx;have hx':(ZaU scope X.env.scope).names.lookup x=some .cell\/(ZaU scope X.env.scope).names.lookup x=some .free:=hx;have hm:(x,NameKind.free)∈scope.names:=by
    have mem:∀(l:List (Str×NameKind)),((l.map fun (n,k)=>if (k == NameKind.free && X.env.scope.kind == .function && X.env.scope.names.lookup n == some .cell) then (n,NameKind.cell) else (n,k)).lookup x=some .cell\/(l.map fun (n,k)=>if (k == NameKind.free && X.env.scope.kind == .function && X.env.scope.names.lookup n == some .cell) then (n,NameKind.cell) else (n,k)).lookup x=some .free)->(∀y∈l,y.2≠.cell)->(x,NameKind.free)∈l:=by
     intro l
     induction l with
     | nil=>intro h _; rcases h with h | h <;> cases h
     | cons y l ih =>
      obtain⟨n,k⟩:=y;intro h hnc;rw[Ys] at h;by_cases hc:(k == NameKind.free && X.env.scope.kind == .function && X.env.scope.names.lookup n == some .cell)=true
      ·simp only[hc,Wq,VU] at h;have hk:k = .free:=by simp only[YE] at hc; simpa using hc.1.1
       cases hy:x == n with
       | true=>rw[eq_of_beq hy,hk]; exact Yz
       | false =>
        rw[hy] at h;exact Yv _ (ih h fun z hz=>hnc z (Yv _ hz))
      ·simp only[hc,Wc,VU,YG] at h;cases hy:x == n with
       | true =>
        rw[hy] at h;have hk:k = .free:=by
         rcases h with h | h
         ·exact absurd (Option.some.inj h) (hnc (n,k) Yz)
         ·exact Option.some.inj h
        rw[eq_of_beq hy,hk]; exact Yz
       | false =>
        rw[hy] at h;exact Yv _ (ih h fun z hz=>hnc z (Yv _ hz))
    exact mem scope.names hx' B.nocell
   obtain⟨c,hc⟩:=I.ok.has x (B.free _ hm rfl);exact⟨c,Zdk hc scope.names [] (.inr hm)⟩
  ·intro b hb;rcases Yl.mp hb with rfl | hb
   ·refine⟨?_,fun x c h1 h2 => ?_⟩
    ·show s.heap.objs.size≠h3.objs.size;omega
    ·obtain⟨v,o,ho',_⟩:=I.cell x c (cells _ _ h1);exact absurd (h2 ▸ Yk ho') (YY _)
   ·obtain⟨o,ho'⟩:=ho b hb;refine⟨?_,fun x c h1=>(hf b hb).2.2.2.2.1 x c (cells _ _ h1)⟩;exact Yr (lt3 b o ho')
  ·intro b o hb;intro hm;rcases Yl.mp hm with rfl | hm
   ·exact absurd (Yk (I.bk _ _ hb)) (YY _)
   ·rcases (hf b hm).2.2.2.1 with h1 | h1
    ·exact I.ok.noex b o hb h1
    ·exact absurd (Yq (Yk (I.ok.bs b o hb).1) h1) (YY _)
  ·intro b hb hm;rcases Yl.mp hb with rfl | hb
   ·rcases Yl.mp (I.stkSub _ hm) with h1 | h1
    ·have:=I.lt;rw[<-h1] at this;exact absurd this (YY _)
    ·exact I.nofs (Yj _) h1
   ·rcases Yl.mp (I.stkSub _ hm) with h1 | h1
    ·exact (hf b hb).2.1 h1
    ·exact (hf b hb).2.2.1 h1
 refine⟨ok,rfl,I.bare,Un.kept k4,?_,?_,?_,?_,(fun p hp=>(by cases hp)),I3.hok.kept k4,?_⟩
 ·refine⟨_,hns,fun i x v h1 h2 hv => ?_⟩;by_cases hi:i<nT
  ·unfold Zbl at h2;rw[Y6 (by simpa using hi),QS] at h2;split at h2 <;> cases h2
  ·unfold Zbl at h2;rw[Wi (by simpa using hi),V0,Yw] at h2;cases hc:caps[i - nT]? with
   | none=>rw[hc] at h2; cases h2
   | some j =>
    rw[hc] at h2;simp only[Vp,Yu] at h2;cases hj:σ[j]? with
    | none=>rw[hj] at h2; cases h2
    | some z =>
     rw[hj] at h2;simp only[Option.join_some] at h2;subst h2;have hq:i - nT<caps.length:=(Yo.mp hc).1;obtain⟨j',x',e1,e2,e3,e4,e5⟩:=B.cap (i - nT) (W7.mpr hq);rw[hc] at e1;cases e1;have en:nT+(i - nT)=i:=by omega
     rw[en] at e2;have ex:x'=x:=Option.some.inj (e2.symm.trans h1);subst ex;have hk:=B.free _ e4 rfl;obtain⟨m,hm,hloc⟩:=I.loc;obtain⟨u,ru,lk⟩:=hloc j x' v e3 hj (hk.elim (fun z => .inr (.inl z)) fun z => .inr (.inr z));rcases lk with⟨hl,_⟩ | ⟨_,c,hc1,hc2⟩
     ·rcases hk with hk | hk
      ·have:X.env.scope.names.lookup x'=some .local:=hl;rw[hk] at this; cases this
      ·have:X.env.scope.names.lookup x'=some .local:=hl;rw[hk] at this; cases this
     ·refine⟨u,ru,.inr ⟨e5,c,Zdk hc1 scope.names [] (.inr e4),?_⟩⟩;obtain⟨o,ho',hd⟩:=hc2;exact⟨o,k4 _ _ (k3 _ _ ho'),hd⟩
 ·intro x c h1;obtain⟨v,o,ho',hd⟩:=I.cell x c (cells _ _ h1);exact⟨v,o,k4 _ _ (k3 _ _ ho'),hd⟩
 ·exact I3.hok.fresh (Yj _)
 ·intro x c h1;exact I.freeC x c (cells _ _ h1)
 ·show (Zbl σ caps nT).length=N.length;rw[B.len];simp[Zbl]
end
end DL
end
section
namespace DL
open PySem PySem.Spec PyProof.Rows L2
section
variable{X:Cx}{pins:List (Addr×Obj)}{σ:L2.St}{H:Hp}{s:P0}{scope:Scope}{N:List Str}{fp:List Addr}
theorem Znq(I:Inv X pins σ H s)(hf:∀b∈fp,Zay X pins H b){σc:L2.St}{H':Hp}{s':P0}{vs:List V}{its:List P6}{n:Nat}
  (J:Inv (cxC X N scope s.heap.objs.size fp { s with heap:=s.heap.push { cls:=.type "list",data:=.seq ([]:List P6).toArray } } H) [] σc H' s')
  (ha:s'.heap.get? s.heap.objs.size=some { cls:=.type "list",data:=.seq its.toArray n }) (hn:H' s.heap.objs.size=none) (hv:Vals vs its) (hz:vs.length<=sizeLine):Inv X pins σ (upd H' s.heap.objs.size (.lst vs)) s':=by
 have u:=J.base;have push:∀b o,s.heap.get? b=some o->(s.heap.push { cls:=.type "list",data:=.seq ([]:List P6).toArray }).get? b=some o:=fun b o e=>Yc _ e;have ne:∀b o,s.heap.get? b=some o->b≠s.heap.objs.size:=fun b o e=>Yr (Yk e);have nex:∀b o,s.heap.get? b=some o->b ∉ fp->b ∉ s.heap.objs.size :: fp:=fun b o e hb hm=>by
  rcases Yl.mp hm with h | h
  ·exact ne b o e h
  ·exact hb h
 refine I.call' (ch:=fp) J.os ?_ ?_ J.bare fun b hb=>⟨(hf b hb).2.2.2.1,(hf b hb).2.1,(hf b hb).2.2.2.2.1,(hf b hb).2.2.2.2.2⟩
 ·refine⟨fun b o e h0 h1 h2=>u.keep b o (push b o e) h0 h1 (nex b o e h2),fun b o e h0 h1 h2=>u.slot b o (push b o e) h0 h1 (nex b o e h2),fun b o e h0 h2 => ?_,fun b o e h2=>u.there b o (push b o e) (nex b o e h2),fun b xs e => ?_,fun b o w e => ?_,fun b ps e => ?_⟩
  ·rw[Zk (ne b o e)];exact u.free b o (push b o e) h0 (nex b o e h2)
  ·have h1:=u.tups b xs e;rw[Zk (Zy h1 hn)];exact h1
  ·have h1:=u.frzs b o w e;rw[Zk (Zy h1 hn)];exact h1
  ·obtain⟨more,h1⟩:=u.tbls b ps e;exact⟨more,by rw[Zk (Zy h1 hn)]; exact h1⟩
 ·intro a o e;by_cases haa:a=s.heap.objs.size
  ·subst haa;rw[ZW] at e;cases e;exact⟨hz,its,n,hv,ha⟩
  ·rw[Zk haa] at e;exact (J.hok a o e).stay (fun b u _ q=>q) (fun b q=>by rw[Zk (Zy q hn)]; exact q) fun b xs q=>by rw[Zk (Zy q hn)]; exact q
end
def Zah:DT:=fun _ st => .ok true st
open Classical in
def ZG(chk:Sto->Prop)(t:TgD)(cond:DT)(fe:DE):List D->Ev->Sto->List D->Out (List D)
 | [],_,st,acc=>if chk st then .ok acc st else .bad
 | x :: xs,ρ,st,acc=>if chk st/\acc.length<small then (match t x ρ with
  | none => .bad
  | some ρ1=>match cond ρ1 st with
   | .ok true st1=>(match fe ρ1 st1 with
    | .ok d st2=>ZG chk t cond fe xs ρ1 st2 (acc++[d])
    | _ => .bad)
   | .ok false st1=>ZG chk t cond fe xs ρ1 st1 acc
   | _ => .bad) else .bad
def Zak(caps:List Nat)(nT:Nat)(f:DI)(t:TgD)(cond:DT)(fe:DE):DA:=fun ρ st=>(f ρ st).bind fun q st1=>ZG q.2 t cond fe q.1 (Zaa ρ caps nT) st1 []
def PTs(X:Cx)(ifs:List Expr)(cond:DT):Prop:=∀(pins:List (Addr×Obj)) (s:P0) (σ:L2.St) (H:Hp) (Q:Bool->Hp->Prop),Inv X pins σ H s->tDT X.K EX0 cond σ H Q ->
 wpAny (model X.prog X.w) X.A (forIn ifs true fun c r=>if r=true then do let ok <-isTrue c X.env (eval c X.env); pure (ForInStep.yield ok) else pure (ForInStep.yield r)) (TP X pins σ Q) X.xe s
theorem ZcC{X:Cx}:PTs X [] Zah:=by
 rintro pins s σ H Q I ⟨O,ρ,st,W,E,R⟩;exact wpAny_tests_nil ⟨H,I,Run.now (k:=fun b _ _ H'=>Q b H') R W⟩
theorem Zcw{X:Cx}{c:Expr}{t:DT}(h:PDT X EX0 c t):PTs X [c] t:=fun pins s σ H Q I q=>wpAny_tests_one (h pins s σ H Q I q)
section
variable{X:Cx}{EX:EXT}{scope:Scope}{N:List Str}{caps:List Nat}{nT:Nat}{elt tg iter:Expr}{ifs:List Expr}{pos:Pos}{f:DI}{t:TgD}{cond:DT}{fe:DE}
structure BlkOk(X:Cx)(scope:Scope)(N:List Str)(caps:List Nat)(nT:Nat)(tg elt:Expr)(ifs:List Expr)(t:TgD)(cond:DT)(fe:DE):Prop where
 blk:Blk X.env.scope scope X.N N caps nT
 tgt:∀acc fp s3 H,PGD (cxC X N scope acc fp s3 H) tg t
 tst:∀acc fp s3 H,PTs (cxC X N scope acc fp s3 H) ifs cond
 elt:∀acc fp s3 H,PD (cxC X N scope acc fp s3 H) EX0 elt fe
def ItF(K:P1)(J:It)(O0:List Addr)(H0:Hp)(q:Wk):Prop :=
 ∀(i:Nat) (O:List Addr) (H:Hp) (st:Sto),Keep K O0 H0 O H->(∀b o u,H0 b=some (.frz o u)->H b=some (.frz o u))->WR K O H st->q.2 st ->
  (∀d,q.1[i]?=some d->J.go i H/\∀x H',J.yld i H x H'->Keep K O H O H'/\WR K O H' st/\Rep K O H' d x)/\(q.1.length<=i->J.stop i H)
theorem ItD.fz{K:P1}{J:It}{O0:List Addr}{H0:Hp}{q:Wk}(h:ItD K J O0 H0 q):ItF K J O0 H0 q:=fun i O H st k _=>h i O H st k
theorem ZiG(hc:X.calm=true)(B:BlkOk X scope N caps nT tg elt ifs t cond fe){pins:List (Addr×Obj)}{σ:L2.St}{H:Hp}{s:P0}{O:List Addr}{ρ:Ev}{st:Sto}{q:Wk}{J:It}{fp:List Addr}{it:Addr}{tn:Nat->Heap->Prop}{Q:VK}{E:P6->P0->Prop}
  {RR:P6->Addr->Result->P0->Prop}
  (I:Inv X pins σ H s) (T:Turn X.prog X.w X.K tg J fp it tn) (h0:tn 0 s.heap) (hf:∀b∈fp,Zay X pins H b) (hJ:ItF X.K J O H q) (W:WR X.K O H st) (Er:REnv X.K O H ρ σ)
  (R:Run X.K EX O H (ZG q.2 t cond fe q.1 (Zaa ρ caps nT) st []) (New X.K Q))
  (hRR:∀(p C:Addr) (H':Hp) (vs:List V) (s':P0) (m:Str->Option P6),s.heap.objs.size<=C->H' C=none->s'.heap.Ns C m->p≠C->Inv X pins σ (upd H' p (.lst vs)) s'->Q (.ref p) (upd H' p (.lst vs))->RR (.ref p) C (.ok .next) s') :
  wpAny (model X.prog X.w) X.A (newList []) (fun acc s₃=>wpAny (model X.prog X.w) X.A (newFunctionEnv scope X.env.globals (Zag X.env scope.names []) [] X.env.qual none .none (some X.env)) (fun cenv s₄ =>
   codeAny (model X.prog X.w) X.A (.compStart (.ListComp elt [⟨tg,iter,ifs,0⟩] scope pos) 0 (.ref it) acc { cenv with scope:=relabel scope X.env }) (RR acc cenv.locals) s₄) E s₃) E s:=by
 refine YZ (wpAny_newFunctionEnv B.blk.nocell (by intro y hy; simp at hy) (fun h₁ hns₁ hsb₁ => ?_) B.blk.kind);dsimp only at hns₁ hsb₁ ⊢;have ltC:s.heap.objs.size<(s.heap.push { cls:=.type "list",data:=.seq ([]:List P6).toArray }).objs.size:=by rw[Y9]; exact VV _
 have fpo:∀b∈fp,∃o,s.heap.get? b=some o:=fun b hb=>let ⟨o,e,_⟩:=T.obj 0 _ h0 b hb; ⟨o,e⟩
 have I4:=ZqC (tk:=s.toks+([]:List (Str×P6)).length) B.blk I hf fpo hns₁ hsb₁;have fpne:∀b∈fp,b≠s.heap.objs.size:=fun b hb=>let ⟨o,e⟩:=fpo b hb; Yr (Yk e)
 generalize hXC:cxC X N scope s.heap.objs.size fp { s with heap:=s.heap.push { cls:=.type "list",data:=.seq ([]:List P6).toArray } } H=XC at I4;have fok:∀(H':Hp) (P:List (Addr×Obj)),(∀b∈fp,H' b=none)->(∀p∈P,p.1 ∉ fp)->∀b∈fp,Zay XC P H' b:=by
  intro H' P h1 h2 b hb;subst hXC;obtain⟨o,e⟩:=fpo b hb;refine⟨h1 b hb,Yr (UD (Yk e) ltC),fun hm => ?_,.inl (Yv _ hb),fun x c hx=>(hf b hb).2.2.2.2.1 x c (Zcp scope.names [] (fun y a z=>(by cases z)) hx),fun p hp hpe=>h2 p (by have hp':p∈[]++P:=hp; simpa using hp') (hpe ▸ hb)⟩;rcases Yl.mp (I.stkSub _ hm) with z | z
  ·exact (hf b hb).2.1 z
  ·exact (hf b hb).2.2.1 z
 have aok:∀(H':Hp),H' s.heap.objs.size=none->Zay XC [] H' s.heap.objs.size:=by
  intro H' h1;subst hXC;refine⟨h1,Yr ltC,fun hm => ?_,.inl Yz,fun x c hx z => ?_,fun p hp=>by cases hp⟩
  ·rcases Yl.mp (I.stkSub _ hm) with z | z
   ·have:=I.lt;rw[<-z] at this;exact absurd this (YY _)
   ·exact I.nofs (Yj _) z
  ·obtain⟨v,o,ho',_⟩:=I.cell x c (Zcp scope.names [] (fun y a z=>(by cases z)) hx);exact absurd (z ▸ Yk ho') (YY _)
 have k4:∀b o,s.heap.get? b=some o->h₁.get? b=some o:=fun b o e=>hsb₁.extBut b o (Yr (UD (Yk e) ltC)) (Yc _ (Yc _ e));have hacc0:h₁.get? s.heap.objs.size=some { cls:=.type "list",data:=.seq ([]:List P6).toArray }:=hsb₁.extBut _ _ (Yr ltC) (Yc _ (Ym _ rfl));have eP:XC.prog=X.prog:=by subst hXC; rfl
 have eW:XC.w=X.w:=by subst hXC; rfl
 have eK:XC.K=X.K:=by subst hXC; rfl
 have eA:XC.A=X.A:=by subst hXC; rfl
 have eC:XC.calm=true:=by subst hXC; exact hc
 have eX:XC.xe=fun _ _=>False:=by subst hXC; rfl
 have eE:XC.env=compEnvC scope (Zag X.env scope.names []) (s.heap.push { cls:=.type "list",data:=.seq ([]:List P6).toArray }).objs.size X.env:=by subst hXC; rfl
 have loop:∀s4:P0,s4 = { s with heap:=h₁,toks:=s.toks+([]:List (Str×P6)).length } ->
   codeAny (model X.prog X.w) X.A (.compLoop (.ListComp elt [⟨tg,iter,ifs,0⟩] scope pos) 0 (.ref it) (.ref s.heap.objs.size) XC.env) (RR (.ref s.heap.objs.size) (s.heap.push { cls:=.type "list",data:=.seq ([]:List P6).toArray }).objs.size) s4:=by
  intro s4 es4;refine Zmu (fun n s' => ∃(i:Nat) (O':List Addr) (ρ':Ev) (st':Sto) (ds:List D) (vs:List V) (its:List P6) (nn:Nat) (H':Hp) (σc:L2.St),n+i=q.1.length/\Inv XC [] σc H' s'/\Keep X.K O H O' H'/\WR X.K O' H' st'/\REnv X.K O' H' ρ' σc/\tn i s'.heap /\
   (∀b∈fp,H' b=none)/\s'.heap.get? s.heap.objs.size=some { cls:=.type "list",data:=.seq its.toArray nn }/\H' s.heap.objs.size=none/\Vals vs its/\Reps X.K O' H' ds vs/\ds.length<=small/\Run X.K EX O' H' (ZG q.2 t cond fe (q.1.drop i) ρ' st' ds) (New X.K Q)) ?_ q.1.length ?_
  ·rintro n s' ⟨i,O',ρ',st',ds,vs,its,nn,H',σc,hn,Ic,kp,W',E',htn,hfn,hacc,haccH,hv,hr,hz,hR⟩;have IcA:Inv XC (ZaA [s.heap.objs.size] s'.heap) σc H' s':=by
    have:=Ic.pinned (fp:=[s.heap.objs.size]) (fun b hb=>by rw[YA] at hb; subst hb; exact aok H' haccH) (fun b hb=>by rw[YA] at hb; subst hb; exact⟨_,hacc,fun v z=>by cases z⟩);simpa using this
   have pA:∀p∈ZaA [s.heap.objs.size] s'.heap,p.1 ∉ fp:=fun p hp hm=>by
    have:=(ZhU hp).1;rw[YA] at this;exact fpne _ hm this
   have fz:∀b o u,H b=some (.frz o u)->H' b=some (.frz o u):=by subst hXC; exact Ic.base.frzs
   have hpin:(s.heap.objs.size,({ cls:=.type "list",data:=.seq its.toArray nn }:Obj))∈ZaA [s.heap.objs.size] s'.heap:=ZdM (YA.mpr rfl) hacc;cases hd:q.1.drop i with
   | nil =>
    rw[hd] at hR;unfold ZG at hR;by_cases hch:q.2 st'
    ·rw[Yi hch] at hR;have hl:q.1.length<=i:=List.drop_eq_nil_iff.mp hd;have hstop:=(hJ i O' H' st' kp fz W' hch).2 hl;have hw:=T.done XC eP eW eK eC i (ZaA [s.heap.objs.size] s'.heap) s' σc H' (fun _ _=>False) IcA (fok H' _ hfn pA) htn hstop;rw[eA] at hw;refine YM hw (fun r s1 hr1 => ?_) fun _ _ z=>z;obtain⟨rfl,I1⟩:=hr1;obtain⟨p1,p2,_⟩:=I1.pin _ (YU _ hpin);obtain⟨m,hm,_⟩:=I1.loc;have I1':Inv XC [] σc H' s1:=I1.pins_of fun p hp=>I1.pin p (Wx _ (by simpa using hp));have hCf:=I1.free;rw[eE] at hm hCf;refine hRR _ _ H' vs s1 m (V6 ltC) hCf hm (Yr ltC) ?_ (Run.now (k:=New X.K Q) hR W' _ vs hr haccH);subst hXC;exact Znq I hf I1' p1 haccH hv (by rw[<-hr.length]; exact YH hz ZaJ)
    ·rw[Yh hch] at hR; exact hR.elim
   | cons x xs =>
    rw[hd] at hR;unfold ZG at hR;have hx:q.1[i]?=some x:=by
     have:=List.getElem?_drop (xs:=q.1) (i:=i) (j:=0);rw[hd] at this;simpa using this.symm
    have hxs:q.1.drop (i+1)=xs:=by
     have:=VB (i:=1) (j:=i) (l:=q.1);rw[hd] at this;simpa using this.symm
    have hi:i<q.1.length:=(Yo.mp hx).1;by_cases hch:q.2 st'/\ds.length<small
    ·rw[Yi hch] at hR;obtain⟨hgo,hy⟩:=(hJ i O' H' st' kp fz W' hch.1).1 x hx;have hw:=T.item XC eP eW eK eC i (ZaA [s.heap.objs.size] s'.heap) s' σc H' (fun _ _=>False) IcA (fok H' _ hfn pA) htn hgo;rw[eA] at hw;refine YM hw (fun r s1 hr1 => ?_) fun _ _ z=>z;obtain⟨u,rfl,hw2⟩:=hr1;refine YM hw2 (fun _ s2 hr2 => ?_) fun _ _ z=>z;obtain⟨x',H1,I1,rx,hyl,htn1,hfn1⟩:=hr2;obtain⟨ky,Wy,ry⟩:=hy x' H1 hyl;cases ht:t x ρ' with
     | none=>rw[ht] at hR; exact hR.elim
     | some ρ1 =>
      rw[ht] at hR;dsimp only at hR;have I1':Inv XC (ZaA [s.heap.objs.size] s'.heap++ZaA fp s2.heap) σc H1 s2:=I1.pinned (fok H1 _ hfn1 pA) fun b hb=>T.obj (i+1) _ htn1 b hb;generalize hP2:ZaA [s.heap.objs.size] s'.heap++ZaA fp s2.heap=P2 at I1';have hpa:(s.heap.objs.size,({ cls:=.type "list",data:=.seq its.toArray nn }:Obj))∈P2:=hP2 ▸ Wx _ hpin;have hpf:∀b∈fp,∀o,s2.heap.get? b=some o->(b,o)∈P2:=fun b hb o e=>hP2 ▸ YU _ (ZdM hb e);have back:∀{σ2:L2.St} {H2:Hp} {s3:P0},Inv XC P2 σ2 H2 s3->s3.heap.get? s.heap.objs.size=some { cls:=.type "list",data:=.seq its.toArray nn }/\H2 s.heap.objs.size=none/\(∀b∈fp,H2 b=none)/\(∀b∈fp,∀o,s2.heap.get? b=some o->s3.heap.get? b=some o)/\Inv XC [] σ2 H2 s3:=by
       intro σ2 H2 s3 I3;refine⟨(I3.pin _ (YU _ hpa)).1,(I3.pin _ (YU _ hpa)).2.1,fun b hb => ?_,fun b hb o e=>(I3.pin _ (YU _ (hpf b hb o e))).1,I3.pins_of fun p hp=>I3.pin p (Wx _ (by simpa using hp))⟩;obtain⟨o,e,_⟩:=T.obj (i+1) _ htn1 b hb;exact (I3.pin _ (YU _ (hpf b hb o e))).2.1
      have PG1:PGD XC tg t:=by subst hXC; exact B.tgt _ _ _ _
      have PT1:PTs XC ifs cond:=by subst hXC; exact B.tst _ _ _ _
      have PE1:PD XC EX0 elt fe:=by subst hXC; exact B.elt _ _ _ _
      have ha:=PG1 P2 s2 σc H1 x' u (fun σ' H''=>H''=H1/\REnv X.K O' H1 ρ1 σ') I1' rx ⟨O',x,ρ',ρ1,by rw[eK]; exact ry,by rw[eK]; exact E'.mono ky,ht,fun σ' E2=>⟨rfl,by rw[eK] at E2; exact E2⟩⟩;rw[eP,eW,eA,eX] at ha;refine YM ha (fun _ s3 hr3 => ?_) fun _ _ z=>z;obtain⟨σ2,H1',I3,rfl,E2⟩:=hr3;have hb:=PT1 P2 s3 σ2 H1' (fun b H'' => ∃O'' stb,cond ρ1 st' = .ok b stb/\Keep X.K O' H1' O'' H''/\WR X.K O'' H'' stb) I3 ⟨O',ρ1,st',by rw[eK]; exact Wy,by rw[eK]; exact E2,by
       rw[eK];cases hcnd:cond ρ1 st' with
       | ok b stb=>exact fun O'' H'' k W=>⟨O'',stb,rfl,k,W⟩
       | exc c stb=>rw[hcnd] at hR; exact hR.elim
       | bad=>rw[hcnd] at hR; exact hR.elim⟩
      rw[eP,eW,eA,eX] at hb;refine YM hb (fun ok s4 hr4 => ?_) fun _ _ z=>z;obtain⟨H2,I4',O2,stb,hcnd,kb,Wb⟩:=hr4;rw[hcnd] at hR;cases ok with
      | false =>
       dsimp only at hR;obtain⟨b1,b2,b3,b4,b5⟩:=back I4';refine⟨n - 1,by omega,i+1,O2,ρ1,stb,ds,vs,its,nn,H2,σ2,by omega,b5,kp.trans (ky.trans kb),Wb,E2.mono kb,T.keep _ _ _ htn1 b4,b3,b1,b2,hv,Reps.mono (ky.trans kb) _ _ hr,hz,?_⟩;rw[hxs];exact Run.later hR (ky.trans kb)
      | true =>
       dsimp only at hR;have he:=PE1 P2 s4 σ2 H2 (fun v H3 => ∃O3 st3 d,fe ρ1 stb = .ok d st3/\Keep X.K O2 H2 O3 H3/\WR X.K O3 H3 st3/\Rep X.K O3 H3 d v) I4' ⟨O2,ρ1,stb,by rw[eK]; exact Wb,by rw[eK]; exact E2.mono kb,by
        rw[eK];cases hfe:fe ρ1 stb with
        | ok d st3=>exact fun O3 H3 k W v r=>⟨O3,st3,d,rfl,k,W,r⟩
        | exc c st3=>rw[hfe] at hR; exact hR.elim
        | bad=>rw[hfe] at hR; exact hR.elim⟩
       rw[eP,eW,eA,eX] at he;refine YM he (fun uv s5 hr5 => ?_) fun _ _ z=>z;obtain⟨v,H3,I5,rv,O3,st3,d,hfe,ke,We,re⟩:=hr5;rw[hfe] at hR;dsimp only at hR;obtain⟨b1,b2,b3,b4,b5⟩:=back I5;refine Zpq b1 (fun h6 hg6 hs6 => ?_) (by rw[<-hv.length,<-hr.length]; exact YH hz ZaJ);obtain⟨f0,f1,f2,f3,f4,f5⟩:=aok H3 b2;have I6:Inv XC [] σ2 H3 { s5 with heap:=h6 }:=b5.turned (t':=s5.toks) (fun b o hb e=>(hs6.2 b hb).trans e) f0 f1 f3 f4 f5;refine⟨n - 1,by omega,i+1,O3,ρ1,st3,ds++[d],vs++[v],its++[uv],nn+1,H3,σ2,by omega,I6,kp.trans (ky.trans (kb.trans ke)),We,E2.mono (kb.trans ke),T.keep _ _ _ htn1 (fun b hb o e=>(hs6.2 b (fpne b hb)).trans (b4 b hb o e)),b3,hg6,b2,hv.append (.cons rv .nil),(Reps.mono (ky.trans (kb.trans ke)) _ _ hr).append (Reps.one re),by rw[WM]; exact hch.2,?_⟩;rw[hxs];exact Run.later hR (ky.trans (kb.trans ke))
    ·rw[Yh hch] at hR; exact hR.elim
  ·subst es4;refine⟨0,O,Zaa ρ caps nT,st,[],[],[],0,H,Zbl σ caps nT,rfl,I4,Keep.refl,W,Zoj Er caps nT,T.keep _ _ _ h0 (fun b hb o e=>k4 b o e),fun b hb=>(hf b hb).1,hacc0,I.hok.fresh (Yj _),.nil,Reps.nil_i.mpr rfl,YT _,?_⟩;rw[Va];exact R
 have e5:({ newEnv scope (s.heap.push { cls:=.type "list",data:=.seq ([]:List P6).toArray }).objs.size X.env.globals (Zag X.env scope.names []) X.env.qual none .none (some X.env) builtinsNs with scope:=relabel scope X.env }:Env)=XC.env:=by rw[eE]; rfl
 have h5:=loop _ rfl;refine codeAny_compStart_list ?_ ?_
 ·exact e5 ▸ h5
 ·exact T.self _ 0 _ _ _ (T.keep _ _ _ h0 (fun b hb o e=>k4 b o e)) (e5 ▸ h5)
end
end DL
end
section
namespace DL
open PySem PySem.Spec PyProof.Rows L2
section
variable{X:Cx}{EX:EXT}{scope:Scope}{N:List Str}{caps:List Nat}{nT:Nat}{elt tg iter:Expr}{ifs:List Expr}{pos spos py:Pos}{f:DI}{t:TgD}{cond:DT}{fe:DE}{y:Str}
theorem gone{pins:List (Addr×Obj)}{σ:L2.St}{H H1:Hp}{s s1:P0}{C:Addr}{h':Heap}(I:Inv X pins σ H s)(hC:s.heap.objs.size<=C){σ1:L2.St}(I1:Inv X pins σ1 H1 s1)(hn:H1 C=none)(hs:Heap.SameBut C s1.heap h'):Inv X pins σ1 H1 { s1 with heap:=h' }:=by
 refine I1.turned (t':=s1.toks) (fun b o hb e=>(hs.2 b hb).trans e) hn ?_ (.inr (YH I.sz hC)) ?_ ?_
 ·intro z;exact absurd (Yq I.lt (z ▸ hC)) (YY _)
 ·intro x c hx z;obtain⟨v,o,ho,_⟩:=I.cell x c hx;exact absurd (Yq (Yk ho) (z ▸ hC)) (YY _)
 ·intro p hp z;obtain⟨h1,_⟩:=I.pin p hp;exact absurd (Yq (Yk h1) (z ▸ hC)) (YY _)
def LcI(X:Cx)(EX:EXT)(pins:List (Addr×Obj))(σ:L2.St)(tg:Expr)(caps:List Nat)(nT:Nat)(t:TgD)(cond:DT)(fe:DE)(Q:VK)(itv:P6)(s2:P0):Prop :=
 ∃(it:Addr) (fp:List Addr) (tn:Nat->Heap->Prop) (J:It) (H1:Hp),itv = .ref it/\Inv X pins σ H1 s2/\Turn X.prog X.w X.K tg J fp it tn/\tn 0 s2.heap/\(∀b∈fp,Zay X pins H1 b) /\
  ∃O1 ρ q st1 Q',ItF X.K J O1 H1 q/\WR X.K O1 H1 st1/\REnv X.K O1 H1 ρ σ/\Run X.K EX O1 H1 (ZG q.2 t cond fe q.1 (Zaa ρ caps nT) st1 []) (New X.K Q') /\
   ∀p vs H2,Q' (.ref p) (upd H2 p (.lst vs))->∃H3,Q (.ref p) H3/\(∀C,C≠p->H2 C=none->H3 C=none)/\∀σ' s',Inv X pins σ' (upd H2 p (.lst vs)) s'->Inv X pins σ' H3 s'
def PLc(X:Cx)(EX:EXT)(tg iter:Expr)(caps:List Nat)(nT:Nat)(t:TgD)(cond:DT)(fe:DE)(F:DA):Prop :=
 ∀(pins:List (Addr×Obj)) (s:P0) (σ:L2.St) (H:Hp) (Q:VK),Inv X pins σ H s->tDF X.K EX F σ H Q ->
  wpAny (model X.prog X.w) X.A (eval iter X.env) (fun v s1=>wpAny (model X.prog X.w) X.A (pyIter v) (LcI X EX pins σ tg caps nT t cond fe Q) X.xe s1) X.xe s
theorem ZhS(hi:PID X EX tg iter f):PLc X EX tg iter caps nT t cond fe (Zak caps nT f t cond fe):=by
 rintro pins s σ H Q I ⟨O,ρ,st,W,E,R⟩;refine YM (hi pins s σ H (fun J H1 => ∃O1 ρ q st1,ItD X.K J O1 H1 q/\WR X.K O1 H1 st1/\REnv X.K O1 H1 ρ σ/\Run X.K EX O1 H1 (ZG q.2 t cond fe q.1 (Zaa ρ caps nT) st1 []) (New X.K Q)) I
  ⟨O,ρ,st,W,E,R.bind.mono fun q st1 O1 H1 k1 W1 R1 J hJ=>⟨O1,ρ,q,st1,hJ,W1,E.mono k1,R1⟩⟩) (fun xv s₁ h₁=>YM h₁ (fun itv s₂ h₂ => ?_) fun _ _ e=>e) fun _ _ e=>e
 obtain⟨it,fp,tn,J,H',rfl,I',T,h0,hf,O1,ρ,q,st1,hJ,W1,E1,R1⟩:=h₂;exact⟨it,fp,tn,J,H',rfl,I',T,h0,hf,O1,ρ,q,st1,Q,hJ.fz,W1,E1,R1,fun p vs H2 hq=>⟨_,hq,fun C hC e=>by rw[Zk hC]; exact e,fun _ _ I=>I⟩⟩
theorem Zhh{pins:List (Addr×Obj)}{σ:L2.St}{H:Hp}{s:P0}(B:Blk X.env.scope scope X.N N caps nT)(I:Inv X pins σ H s):closureFor scope X.env=pure (Zag X.env scope.names []) :=
 ZlS fun y hy hk=>I.ok.has y.1 (B.free y hy hk)
theorem Zlj{F:DA}(hc:X.calm=true)(B:BlkOk X scope N caps nT tg elt ifs t cond fe)(hi:PLc X EX tg iter caps nT t cond fe F)(hs:∀x,foldedSetIterable iter X.env x=pure x:=by intro _; rfl):PDF X EX (.ListComp elt [⟨tg,iter,ifs,0⟩] scope pos) F:=by
 intro pins s σ H Q I h;rw[eval_ListComp];refine wpAny_comprehension_free (use:=none) rfl hs (Zhh B.blk I) B.blk.kind B.blk.names (YM (hi pins s σ H _ I h) (fun xv s₁ h₁=>YM h₁ (fun itv s₂ h₂ => ?_) fun _ _ e=>e) fun _ _ e=>e);obtain⟨it,fp,tn,J,H',rfl,I',T,h0,hf,O1,ρ,q,st1,Q',hJ,W1,E1,R1,thaw⟩:=h₂;refine ZiG (RR:=fun acc C=>compPost (model X.prog X.w) X.A X.xe none (EP X pins σ Q) acc C) hc B I' T h0 hf hJ W1 E1 R1 ?_;intro p C H2 vs s' m hC hn hns hpC I2 hq;obtain⟨H3,q3,n3,i3⟩:=thaw p vs H2 hq;refine⟨m,hns,fun h' hsb=>⟨.ref p,_,gone I' hC (i3 _ _ I2) (n3 C (YW hpC) hn) hsb,rfl,q3⟩⟩
theorem Za9(hc:X.calm=true)(B:BlkOk X scope N caps nT tg elt ifs t cond fe)(hi:PID X EX tg iter f)(hs:∀x,foldedSetIterable iter X.env x=pure x:=by intro _; rfl):PDF X EX (.ListComp elt [⟨tg,iter,ifs,0⟩] scope pos) (Zak caps nT f t cond fe):=Zlj hc B (ZhS hi) hs
theorem ZmT{F:DA}(i:Nat)(hc:X.calm=true)(B:BlkOk X scope N caps nT tg elt ifs t cond fe)(hi:PLc X EX tg iter caps nT t cond fe F)(hN:X.N.Nodup)(hy:X.N[i]?=some y)(hx:Loc X.env.scope y)
  (hsw:swapsWith (.ListComp elt [⟨tg,iter,ifs,0⟩] scope pos) (some (.Name y py)) spos.line X.env=pure true)
  (hs:∀x,foldedSetIterable iter X.env x=pure x:=by intro _; rfl) (hfn:X.fn y=true\/X.env.scope.names.lookup y=some .local:=by first | exact .inl rfl | exact .inr rfl | assumption) :
  PS X (.Assign [.Name y py] (.ListComp elt [⟨tg,iter,ifs,0⟩] scope pos) spos) (fun Dn σ H=>tDF X.K EX F σ H fun v H'=>Dn.nx (σ.set i (some v)) H'):=by
 intro pins s σ H Dn I h;rw[exec_Assign_Name_used _ _ _ _ hsw];refine Ya (wpAny_standAt (Ya ?_));show wpAny _ X.A (do let _ <-comprehension (.ListComp elt [⟨tg,iter,ifs,0⟩] scope pos) scope X.env _ (newList []) false (eval iter X.env) (some (assign (.Name y py) X.env))) _ _ s;refine Ya (YM (wpAny_comprehension_free (use:=some (assign (.Name y py) X.env)) (Q:=fun _ s'=>SP X pins Dn .next s') rfl hs (Zhh B.blk I) B.blk.kind B.blk.names
  (YM (hi pins s σ H _ I h) (fun xv s₁ h₁=>YM h₁ (fun itv s₂ h₂ => ?_) fun _ _ e=>e) fun _ _ e=>e)) (fun _ s' hq=>Yb (Yb hq)) fun _ _ e=>e)
 obtain⟨it,fp,tn,J,H',rfl,I',T,h0,hf,O1,ρ,q,st1,Q',hJ,W1,E1,R1,thaw⟩:=h₂;refine ZiG (RR:=fun acc C=>compPost (model X.prog X.w) X.A X.xe (some (assign (.Name y py) X.env)) (fun _ s'=>SP X pins Dn .next s') acc C) hc B I' T h0 hf hJ W1 E1 R1 ?_;intro p C H2 vs s' m hC hn hns hpC I2 hq;obtain⟨H3,q3,n3,i3⟩:=thaw p vs H2 hq;show wpAny _ X.A (assign (.Name y py) X.env (.ref p)) _ _ _;refine wpAny_assign_Name (Zho (v:=.ref p) (i3 _ _ I2) hN hy hx rfl (fun s'' I3 hsb => ?_) hfn);obtain⟨a,sb,ha⟩:=hsb;have hne:C≠a:=by
  intro z;rcases ha with ha | ha
  ·exact absurd (Yq I'.lt (ha ▸ z ▸ hC)) (YY _)
  ·obtain⟨v,o,ho,_⟩:=I'.cell _ _ ha;exact absurd (Yq (Yk ho) (z ▸ hC)) (YY _)
 exact⟨m,hns.at' fun o e=>(sb.2 C hne).trans e,fun h' hsb=>⟨_,_,gone I' hC I3 (n3 C (YW hpC) hn) hsb,q3⟩⟩
theorem Zo0{F:DA}(i:Nat)(hc:X.calm=true)(B:BlkOk X scope N caps nT tg elt ifs t cond fe)(hi:PLc X EX tg iter caps nT t cond fe F)(hN:X.N.Nodup)(hy:X.N[i]?=some y)(hx:Loc X.env.scope y)
  (hsw:swapsWith (.ListComp elt [⟨tg,iter,ifs,0⟩] scope pos) (some (.Name y py)) spos.line X.env=pure true:=by rfl)
  (hs:∀x,foldedSetIterable iter X.env x=pure x:=by intro _; rfl) (hfn:X.fn y=true\/X.env.scope.names.lookup y=some .local:=by first | exact .inl rfl | exact .inr rfl | assumption) :
  PDs X EX (.Assign [.Name y py] (.ListComp elt [⟨tg,iter,ifs,0⟩] scope pos) spos) (Zz i (dF F)):=by
 refine PS.mono (ZmT i hc B hi hN hy hx hsw hs hfn) ?_;rintro Dn σ H ⟨O,ρ,st,W,E,R⟩;refine⟨O,ρ,st,W,E,?_⟩;refine (R.to.bind).mono fun ds st1 O1 H1 k1 W1 R1 p vs r hp => ?_;have R2:=R1 O1 (upd H1 p (.lst vs)) (Keep.laid hp) (W1.laid hp);refine R2 O1 (upd H1 p (.lst vs)) _ Keep.refl (W1.laid hp) ((E.mono (k1.trans (Keep.laid hp))).set (Rep.lst_i.mpr ⟨p,vs,rfl,fun hm => ?_,ZW,Reps.mono (Keep.laid hp) _ _ r⟩));obtain⟨j,hj⟩:=Vb.mp hm;exact W1.ne hj hp rfl
theorem Zf2(i:Nat)(hc:X.calm=true)(B:BlkOk X scope N caps nT tg elt ifs t cond fe)(hi:PID X EX tg iter f)(hN:X.N.Nodup)(hy:X.N[i]?=some y)(hx:Loc X.env.scope y)
  (hsw:swapsWith (.ListComp elt [⟨tg,iter,ifs,0⟩] scope pos) (some (.Name y py)) spos.line X.env=pure true:=by rfl)
  (hs:∀x,foldedSetIterable iter X.env x=pure x:=by intro _; rfl) (hfn:X.fn y=true\/X.env.scope.names.lookup y=some .local:=by first | exact .inl rfl | exact .inr rfl | assumption) :
  PDs X EX (.Assign [.Name y py] (.ListComp elt [⟨tg,iter,ifs,0⟩] scope pos) spos) (Zz i (dF (Zak caps nT f t cond fe))):=Zo0 i hc B (ZhS hi) hN hy hx hsw hs hfn
end
end DL
end
section
namespace DL
open PySem PySem.Spec PyProof.Rows L2
section
variable{X:Cx}{EX:EXT}{a b e o tg:Expr}{fa fb fo:DE}{g:DA}{pos p px apos cpos:Pos}{x:Str}
def Zdj(fo fa:DE):DE:=fun ρ st=>(fo ρ st).bind fun d st1=>match d with
 | .res i=>match st1[i]? with
  | some (.lst _)=>(fa ρ st1).bind fun v st2=>match st2[i]? with
   | some (.lst xs)=>if xs.length<small then .ok .non (st2.set i (.lst (xs++[v]))) else .bad
   | _ => .bad
  | _ => .bad
 | _ => .bad
theorem Zjs{K:P1}{O:List Addr}{H:Hp}{st:Sto}(W:WR K O H st){i:Nat}{v:V}{xs:List D}(r:Rep K O H (.res i) v)(e:st[i]?=some (.lst xs)):∃a vs,v = .ref a/\O[i]?=some a/\H a=some (.lst vs)/\Reps K O H xs vs:=by
 rw[Rep.res_i] at r;obtain⟨a,rfl,q⟩:=r;obtain⟨vs,h1,h2⟩:=W.at_ _ _ _ q e;exact⟨a,vs,rfl,q,h1,h2⟩
theorem Zg3(ho:PD X EX o fo)(ha:PD X EX a fa)(hbase:attributeBase o "append" X.env (eval o X.env)=eval o X.env:=by rfl)
  (hfew:((backTo cpos (starEach [a] X.env)).all (fun x => !x.1) && (backToKw cpos (keywordEach [] X.env)).all (fun x=>x.1.isSome)
   && decide ([a].length+([]:List Keyword).length+(if ([]:List Keyword).isEmpty then 0 else 1)<30))=true:=by rfl)
  (hline:(apos.endLine == cpos.line)=true:=by rfl) (hs:starEach [a] X.env=(false,eval a X.env) :: starEach [] X.env:=by rfl) (hplain:(backTo cpos (starEach [] X.env)).any (·.1)=false:=by rfl):PD X EX (.Call (.Attribute o "append" apos) [a] [] cpos) (Zdj fo fa):=by
 refine PE.mono (Zhj PySem.F.plainAttrs_list PySem.F.slot_list_append PySem.F.type_list_append Zml ho (Zf ha Zm hs) hbase hfew hline hs hplain) ?_;rintro σ H Q ⟨O,ρ,st,W,E,R⟩;refine⟨O,ρ,st,W,E,R.bind.mono fun d st1 O1 H1 k1 W1 R1 v r => ?_⟩;cases d with
 | res i =>
  dsimp only at R1;cases e1:st1[i]? with
  | none=>rw[e1] at R1; exact R1.elim
  | some s1 =>
   rw[e1] at R1;cases s1 with
   | ins C fs=>exact R1.elim
   | dct kvs=>exact R1.elim
   | dtt kvs=>exact R1.elim
   | fdc kvs=>exact R1.elim
   | fdt o kvs=>exact R1.elim
   | tab P b=>exact R1.elim
   | lst xs0 =>
    dsimp only at R1;obtain⟨pa,vs0,rfl,q0,h0,_⟩:=Zjs W1 r e1;refine⟨.inl ⟨rfl,_,SqL.of h0⟩,O1,ρ,st1,W1,E.mono k1,?_⟩;cases hfa:fa ρ st1 with
    | bad=>rw[hfa] at R1; exact R1.elim
    | exc c st2 =>
     rw[hfa] at R1;show Run X.K EX O1 H1 (Zc fa Zg ρ st1) _;unfold Zc;rw[hfa];exact R1
    | ok w st2 =>
     rw[hfa] at R1;show Run X.K EX O1 H1 (Zc fa Zg ρ st1) _;unfold Zc;rw[hfa];intro O2 H2 k2 W2 ws rs;obtain⟨u,rfl,ru⟩:=Reps.one_of rs;have R2:=Run.later R1 k2;dsimp only[Out.bind] at R2;cases e2:st2[i]? with
     | none=>rw[e2] at R2; exact R2.elim
     | some s2 =>
      rw[e2] at R2;cases s2 with
      | ins C fs=>exact R2.elim
      | dct kvs=>exact R2.elim
      | dtt kvs=>exact R2.elim
      | fdc kvs=>exact R2.elim
      | fdt o kvs=>exact R2.elim
      | tab P b=>exact R2.elim
      | lst xs =>
       dsimp only at R2;by_cases hl:xs.length<small
       ·rw[Yi hl] at R2;obtain⟨pa',vs,e3,q,h1,h2⟩:=Zjs W2 (Rep.mono k2 _ _ r) e2;cases e3;refine⟨pa,vs,u,rfl,rfl,h1,by rw[<-h2.length]; exact Yq hl ZaJ,?_⟩;exact R2 O2 _ (Keep.write W2 q) (W2.writeL q (h2.append (Reps.one ru))) _ (Rep.non_i.mpr rfl)
       ·rw[Yh hl] at R2; exact R2.elim
 | _=>exact R1.elim
end
end DL
end
section
namespace DL
open PySem PySem.Spec PyProof.Rows L2
section
variable{X:Cx}{EX:EXT}{a b c e o:Expr}{fa fb fc fo:DE}{pos p pT apos:Pos}
def ZdG(f:DE):DE:=fun ρ st=>(f ρ st).bind fun d st1=>match d with
 | .int i => .ok (.int (-i)) st1
 | _ => .bad
theorem Zji(ha:PD X EX a fa):PD X EX (.UnaryOp .USub a pos) (ZdG fa):=by
 refine PE.mono (Zp3 ZkD ha) ?_;rintro σ H Q ⟨O,ρ,st,W,E,R⟩;refine⟨O,ρ,st,W,E,R.bind.mono fun d st1 O1 H1 k1 W1 R1 v r => ?_⟩;cases d with
 | int i=>exact⟨i,Rep.int_i.mp r,Run.now (k:=Val X.K Q) R1 W1 _ (Rep.int_i.mpr rfl)⟩
 | _=>exact R1.elim
end
structure FnAt(P:P4)(w:World)(K:P1)(mg:Str->Option P6)(base:Heap)(x:Str)(k:Nat)(F:FD):Prop where
 ex:∃(f:Addr) (fd:P5) (ps:List Str),FnOk P w K mg base CX0 k f fd ps (spD K F)/\mg x=some (.ref f)/\PySem.W.keepIn K (.ref f)=true/\Binds K fd ps []
section
variable{X:Cx}{EX:EXT}{e:Expr}{es:List Expr}{pos p:Pos}{x:Str}{k j:Nat}{F:FD}{g:DA}
theorem ZJ(h:FnAt X.prog X.w X.K X.mg X.base x j F)(hr:Room k X.A)(hj:j<=k)(hg:Gl X x)(ha:PDA X EX (e :: es) g)
  (hdb:(x == ("__debug__" : Str))=false:=by decide) (he:starEach (e :: es) X.env=(false,eval e X.env) :: starEach es X.env:=by rfl) (hpl:(backTo pos (starEach es X.env)).any (·.1)=false:=by rfl) :
  PD X EX (.Call (.Name x p) (e :: es) [] pos) (Zn F g):=by
 obtain⟨f,fd,ps,G,hm,hk,hb⟩:=h.ex;exact Zn9 G (hr.mono hj) hg hm hk hb xe0 ha hdb he hpl
end
theorem fnAt{P:P4}{w:World}{K:P1}{mg:Str->Option P6}{base:Heap}{x qual:Str}{st:Stmt}{f:Addr}{fd:P5}{N ps:List Str}{k:Nat}{g:DS}(F:Fun K x qual st f fd)(S:FnScope N ps (Ze st))(hm:mg x=some (.ref f))(hb:Binds K fd ps [])
  (hbody:∀(cdv:P6) (A:P3) (outer:List Env) (s:P0) (H:Hp) (E:XK),Room k (A.deeper (envOfC qual (Ze st) s.heap.objs.size f cdv)) ->
   PDS (ZD CX0 P w K mg base N qual (Ze st) f cdv A outer s H E).nox EX0 (Zs st) g):FnAt P w K mg base x (k+1) (ZH N.length ps.length g) :=
 ⟨f,fd,ps,fnD F S hbody,hm,F.kp,hb⟩
end DL
end
section
namespace DL
open PySem PySem.Spec PyProof.Rows L2
def Ite(K:P1)(a:Addr):It :=
  ⟨fun i H => ∃xs x,SqL K H a xs/\xs[i]?=some x,
   fun i H v H' => ∃p x,H p=none/\v = .ref p/\H'=upd H p (.tup [.int (i:Int),x])/\∀xs,SqL K H a xs->xs[i]?=some x,
   fun i H => ∃xs,SqL K H a xs/\xs.length<=i⟩
theorem Z6{X:Cx}{pins:List (Addr×Obj)}{σ:L2.St}{H:Hp}{s:P0}(I:Inv X pins σ H s){a b:Addr}{xs:List V}(h:SqL X.K H a xs)(hf:Zay X pins H b):a≠b:=by
 rintro rfl;rcases h with (h | ⟨ob,h⟩) | ⟨o,_,_,h,_⟩
 ·rw[hf.1] at h; cases h
 ·rw[hf.1] at h; cases h
 ·have hb:=I.ok.mod.kin a o h;rcases hf.2.2.2.1 with h1 | h1
  ·exact I.ok.noex a o hb h1
  ·exact absurd (Yq (Yk (I.ok.bs a o hb).1) h1) (YY _)
theorem ZoO{P:P4}{w:World}{K:P1}{es:List Expr}{k:Nat}{pt:Pos}(a e it:Addr)(hei:e≠it) :
  Turn P w K (.Tuple es k pt) (Ite K a) [e,it] e (fun i h=>(∃old,IsEnum h e it ((i:Nat):Int) old)/\h.IsListIter it a i) where
 mem:=by simp
 obj:=fun i h st c hc=>by
  obtain⟨⟨old,h1⟩,o4,h4,_,d4⟩:=st;simp only[Yl,YC,Wg] at hc;rcases hc with rfl | rfl
  ·exact⟨_,h1,fun v z=>by cases z⟩
  ·exact⟨_,h4,fun v z=>by rw[d4] at z; cases z⟩
 keep:=fun i h h' st k=>by
  obtain⟨⟨old,h1⟩,h4⟩:=st;exact⟨⟨old,k e (by simp) _ h1⟩,h4.at fun o q=>k it (by simp) o q⟩
 item:=by
  intro X hP hw hK hc i pins s σ H E I hf st hg;subst hP hw hK;obtain⟨xs,vx,q1,g1⟩:=hg;obtain⟨its1,r1,p1,_⟩:=I.list q1;obtain⟨ux,e1,rx⟩:=r1.get g1;obtain⟨⟨old,hz⟩,h4⟩:=st;have fz:=hf e (by simp);have f1:=hf it (by simp);have heH:e<s.heap.objs.size:=Yk hz;have hiH:it<s.heap.objs.size:=by obtain⟨o,ho,_⟩:=id h4; exact Yk ho
  refine wpAny_pyNext_enum_item hz h4 p1.isList (by simpa using e1) hei fun h' z1 z2 z3 z4 z5 => ?_;refine⟨_,rfl,wpAny_letOwnedTupleGo_enum z1 fun h'' y1 y2 => ?_⟩;replace y2:Heap.SameBut e h' h'':=y2;have up:∀c o,c≠e->h'.get? c=some o->h''.get? c=some o:=fun c o hce ho=>(y2.2 c hce).trans ho;have z7:∀c o,c≠e->c≠it->s.heap.get? c=some o->h''.get? c=some o:=fun c o c1 c2 ho=>up c o c1 (z5 c o c1 c2 ho);have hfr:=I.hok.fresh (Yj s.heap.objs.size);have hT:h''.get? s.heap.objs.size=some { cls:=.type "tuple",data:=.seq #[.int (i:Int) s.toks,ux] }:=up _ _ (WK heH) z3;refine⟨.ref s.heap.objs.size,upd H s.heap.objs.size (.tup [.int (i:Int),vx]),?_,rfl,⟨s.heap.objs.size,vx,hfr,rfl,rfl,fun zs hq=>by rw[I.list_inj hq q1]; exact g1⟩,⟨⟨ux,?_⟩,(z2.at fun o q=>up _ o (YW hei) q)⟩,fun c hc => ?_⟩
  ·show Inv X pins σ _ { s with heap:=h'',toks:=s.toks+1 };refine I.step (ch:=[e,it]) (g':=s.gens) (t':=s.toks+1) (d':=s.drawn) ?_ ?_ ?_ ?_ ?_ ?_ ?_ ?_ ?_ ?_ I.bare
   ·intro c hc;obtain⟨k0,k1,k2,k3,k4,k5⟩:=hf c hc;exact⟨k3,k1,k4,k5⟩
   ·intro c o k1 k2 k3 k4 k5;simp only[Yl,YC,Wg,Vv] at k3;exact z7 c o k3.1 k3.2 k4
   ·intro c o k1 k2 k3 k4 k5;simp only[Yl,YC,Wg,Vv] at k3;exact⟨o.slots,z7 c o k3.1 k3.2 k4⟩
   ·intro c o k3 k4 k5;rw[Zk (Yr (Yk k4))];exact k5
   ·intro c o k3 k4;simp only[Yl,YC,Wg,Vv] at k3;exact⟨o,z7 c o k3.1 k3.2 k4⟩
   ·intro c ws k;rw[Zk (Zy k hfr)]; exact k
   ·intro c ob ws k;rw[Zk (Zy k hfr)]; exact k
   ·intro c ps k;exact⟨#[],by rw[Zk (Zy k hfr),k]; simp⟩
   ·intro m hm;exact hm.at' fun o q=>z7 _ o (YW fz.2.1) (YW f1.2.1) q
   ·intro c o q;by_cases hcc:c=s.heap.objs.size
    ·subst hcc;rw[ZW] at q;cases q;exact⟨(by show 2<=sizeLine; rw[YN]; decide),[.int (i:Int) s.toks,ux],.cons ⟨_,rfl⟩ (.cons rx .nil),⟨_,hT,rfl,_,rfl⟩,fun o2 e2=>by have e3:=e2.symm.trans hT; cases e3; rfl⟩
    ·rw[Zk hcc] at q;refine (I.hok c o q).stay (fun d u hd k => ?_) (fun d k=>by rw[Zk (Zy k hfr)]; exact k) fun d ws k=>by rw[Zk (Zy k hfr)]; exact k
     have hHd:∃o',H d=some o':=by
      rcases hd with rfl | hd
      ·exact⟨o,q⟩
      ·exact⟨_,hd⟩
     obtain⟨o',ho'⟩:=hHd;exact z7 d u (Zy ho' fz.1) (Zy ho' f1.1) k
  ·have ez:(((i+1:Nat):Int))=(i:Int)+1:=by omega
   show IsEnum h'' e it (((i+1:Nat):Int)) ux;rw[ez];exact y1
  ·have hcn:=(hf c hc).1;have hlt:c<s.heap.objs.size:=by
    simp only[Yl,YC,Wg] at hc;rcases hc with rfl | rfl
    ·exact heH
    ·exact hiH
   rw[Zk (Yr hlt)];exact hcn
 done:=by
  intro X hP hw hK hc i pins s σ H E I hf st hg;subst hP hw hK;obtain⟨xs,q1,g⟩:=hg;obtain⟨its1,r1,p1,_⟩:=I.list q1;obtain⟨⟨old,hz⟩,h4⟩:=st;obtain⟨f0,f1,f2,f3,f4,f5⟩:=hf it (by simp);have hl:=r1.length;exact wpAny_pyNext_enum_end (I.ok.hd hc) hz h4 p1.isList (by simp; omega) fun h' eb=>⟨rfl,I.turned (t':=s.toks) (fun b o hb q=>eb b o hb q) f0 f1 f3 f4 f5⟩
 self:=fun _ _ _ _ _ st h=>by
  obtain⟨⟨old,hz⟩,_⟩:=st;exact wpAny_pyIter_enum hz h
section
variable{X:Cx}{EX:EXT}{es:List Expr}{k:Nat}{pt p pos:Pos}{a:Expr}{f:DE}
def Zoa(K:P1)(tl:TA):TI:=fun σ H R=>tl σ H fun vs H1 => ∃a,vs=[.ref a]/\(∃xs,SqL K H1 a xs)/\R (Ite K a) H1
theorem Znm{ta:TA}(hg:Gl X "enumerate")(hm:X.mg "enumerate" = none)(ha:PA X [a] ta)(hs:starEach [a] X.env=[(false,eval a X.env)]:=by rfl):PI X (.Tuple es k pt) (.Call (.Name "enumerate" p) [a] [] pos) (Zoa X.K ta):=by
 intro pins s σ H R I h;refine Call_ (ZaY I hg hm PyProof.Rows.boot_enumerate (Ww (thn (ha pos pins s σ H _ I h) fun us s1 ⟨vs,H1,I1,r1,q1⟩ => ?_) (by rw[hs]; rfl) rfl));obtain⟨pa,e,⟨xs,h1⟩,q⟩:=q1;subst e;cases r1 with
 | cons r rr =>
  cases rr;cases r;obtain⟨its1,v1,p1,_⟩:=I1.list h1;refine call_enumerate_list p1.isList fun h' z1 z2 z3 z4 => ?_;have I2:Inv X pins σ H1 { s1 with heap:=h' }:=I1.kept (t':=s1.toks) z4;have T:=ZoO (P:=X.prog) (w:=X.w) (K:=X.K) (es:=es) (k:=k) (pt:=pt) pa (s1.heap.objs.size+1) s1.heap.objs.size (WK (VV _));have st:(∃old,IsEnum h' (s1.heap.objs.size+1) s1.heap.objs.size ((0:Nat):Int) old)/\h'.IsListIter s1.heap.objs.size pa 0:=⟨⟨_,z1⟩,z2⟩;refine T.self _ 0 _ _ _ st ?_;refine⟨_,_,_,_,H1,rfl,I2,T,st,fun c hc => ?_,q⟩;have hle:s1.heap.objs.size<=c:=by
   simp only[Yl,YC,Wg] at hc;rcases hc with rfl | rfl
   ·exact Qc _
   ·exact Yj _
  exact I1.fpOk hle (I1.hok.fresh hle)
def Zal(n:Nat):List D->List D
 | []=>[]
 | x :: xs => .tup [.int (n:Int),x] :: Zal (n+1) xs
theorem Zfg:∀(xs:List D) (n i:Nat),(Zal n xs)[i]?=(xs[i]?).map fun x=>D.tup [.int ((n+i:Nat):Int),x]
 | [],n,i=>by simp[Zal]
 | x :: xs,n,0=>by simp[Zal]
 | x :: xs,n,i+1=>by
  have h:n+1+i=n+(i+1):=by omega
  simp[Zal,Zfg xs (n+1) i,h]
theorem Zjb:∀(xs:List D) (n:Nat),(Zal n xs).length=xs.length
 | [],n=>rfl
 | x :: xs,n=>by simp[Zal,Zjb xs (n+1)]
def Zb2(f:DE):DI:=fun ρ st=>(f ρ st).bind fun d st1=>match Zj st1 d with
 | some xs => .ok (Zal 0 xs,fun st=>Zj st d=some xs) st1
 | none => .bad
theorem ZfH(hg:Gl X "enumerate")(hm:X.mg "enumerate" = none)(ha:PD X EX a f)(hs:starEach [a] X.env=[(false,eval a X.env)]:=by rfl):PID X EX (.Tuple es k pt) (.Call (.Name "enumerate" p) [a] [] pos) (Zb2 f):=by
 refine PI.mono (Znm hg hm (Zf ha Zm (by rw[hs]; rfl)) hs) ?_;rintro σ H R ⟨O,ρ,st,W,E,R0⟩;have R1:=R0.bind;refine⟨O,ρ,st,W,E,?_⟩;unfold Zc Zg;cases hf:f ρ st with
 | bad=>rw[hf] at R1; exact R1.elim
 | exc c st'=>rw[hf] at R1; exact R1
 | ok d st' =>
  rw[hf] at R1;refine fun O1 H1 k1 W1 vs r => ?_;have R2:=R1 O1 H1 k1 W1;dsimp only at R2;obtain⟨v,rfl,rv⟩:=r.one_of;cases e:Zj st' d with
  | none=>rw[e] at R2; exact R2.elim
  | some xs =>
   rw[e] at R2;obtain⟨pa,va,rfl,q,rs⟩:=rdL W1 rv e;refine⟨pa,rfl,⟨va,q⟩,Run.now (k:=fun q _ O' H' => ∀J,ItD X.K J O' H' q->R J H') R2 W1 _ ?_⟩;intro i O' H' st2 kp W' hp;obtain⟨pa',ws,e1,q',r'⟩:=rdL W' (Rep.mono kp _ _ rv) hp;cases e1;refine⟨fun x hx => ?_,fun hl=>⟨ws,q',by rw[<-r'.length]; rw[Zjb] at hl; exact hl⟩⟩;dsimp only at hx;rw[Zfg] at hx;cases hz:xs[i]? with
   | none=>rw[hz] at hx; cases hx
   | some y =>
    rw[hz] at hx;simp only[Vp,Yu,Wl] at hx;subst hx;obtain⟨vy,e2,ry⟩:=r'.get hz;refine⟨⟨ws,vy,q',e2⟩,?_⟩;rintro v2 H2 ⟨p2,x',hp2,rfl,rfl,h3⟩;have e3:=h3 ws q';rw[e2] at e3;cases e3;exact⟨Keep.laid hp2,W'.laid hp2,Rep.tup_i.mpr ⟨p2,_,rfl,ZW,Reps.cons_i.mpr ⟨_,_,rfl,Rep.int_i.mpr rfl,Reps.one (Rep.mono (Keep.laid hp2) _ _ ry)⟩⟩⟩
end
end DL
end
section
namespace HT
open PySem PyProof.Rows
section
variable{prog:P4}{w:World}{A:P3}{E:P6->P0->Prop}{s:P0}{R:Result->P0->Prop}{l I S:Addr}
theorem lt_ints{a b:Int}{t u:Tok}{s:P0}{Q:P6->P0->Prop}(h:Q (.bool (decide (a<b))) s):wpAny (model prog w) A (richCompare .Lt (.int a t) (.int b u)) Q E s :=
 CmpOf.ints_lt (prog:=prog) (w:=w) (A:=A) (P:=fun i v => ∃t,v = .int (if i=0 then a else b) t) (fun i=>if i=0 then a else b) (fun i v h=>h) 0 1 _ _ _ _ _ ⟨t,rfl⟩ ⟨u,rfl⟩ (by simpa using h)
end
end HT
end
section
namespace DL
open PySem PySem.Spec PyProof.Rows L2
noncomputable abbrev Cx.at(X:Cx)(A:P3)(pn:List (Addr×Obj))(E:P6->P0->Prop):Cx:={ X with A:=A,calm:=false,pn:=pn,xe:=E }
noncomputable abbrev Cx.pinned(X:Cx)(pn:List (Addr×Obj))(E:P6->P0->Prop):Cx:={ X with pn:=pn,xe:=E }
structure RoomH(k:Nat)(A:P3):Prop where
 dp:A.depth+3 * k+5<recursionLimit
 un:A.units+16 * k+200<cLine
theorem RoomH.mono{j k:Nat}{A:P3}(r:RoomH k A)(h:j<=k):RoomH j A:=⟨by have:=r.dp; omega,by have:=r.un; omega⟩
theorem RoomH.deeper{k:Nat}{A:P3}(r:RoomH (k+1) A)(env:Env):RoomH k (A.deeper env):=⟨by have:=r.dp; show A.depth+1+3 * k+5<_; omega,by have:=r.un; show A.units+3+16 * k+200<_; omega⟩
theorem RoomH.of{k:Nat}{A:P3}(r:Room k A)(e:Option P6):RoomH k (A.mark e):=⟨r.dp,r.un⟩
theorem RoomH.units{k:Nat}{A:P3}(r:RoomH k A):A.units+64<cLine:=by have:=r.un; omega
end DL
end
section
namespace DL
open PySem PySem.Spec PyProof.Rows L2
def Zan(st:Sto)(x:D):List D->Option (List Bool)
 | []=>some []
 | y :: ys=>match eqN st depth y x,Zan st x ys with
  | some a,some b=>some (a :: b)
  | _,_=>none
section
variable{X:Cx}{EX:EXT}{a b c e o:Expr}{fa fb fc fo:DE}{pos p apos cpos:Pos}{es:List Expr}{g:DA}
open Classical in
theorem Zfp{pins:List (Addr×Obj)}{σ:L2.St}{s:P0}{O:List Addr}{H:Hp}{st:Sto}(I:Inv X pins σ H s)(W:WR X.K O H st){x:D}{vx:V}{ux:P6}(rx:Rep X.K O H x vx)(qx:L2.RelV vx ux){A:P3}(hA:A.units+depth<cLine) :
  ∀{ys:List D} {vs:List V} {its:List P6} {bs:List Bool},Zan st x ys=some bs->Reps X.K O H ys vs->Vals vs its ->
   ∃e:P6->Bool,(∀z,e z=decide (∃d v,Rep X.K O H d v/\L2.RelV v z/\eqN st depth d x=some true))/\(∀z∈its,SeqAt.EqAt A s z ux (e z))/\its.map e=bs
 | [],vs,its,k,h,r,q=>by
  rw[Reps.nil_i] at r;subst r;cases q;simp only[Zan,Yu] at h;subst h;exact⟨fun z=>decide (∃d v,Rep X.K O H d v/\L2.RelV v z/\eqN st depth d x=some true),fun _=>rfl,(fun z hz=>(by cases hz)),rfl⟩
 | y :: ys,vs,its,k,h,r,q=>by
  obtain⟨v,vs',rfl,ry,rs⟩:=Reps.cons_i.mp r;cases q with
  | cons q1 q2 =>
   rename_i u us;unfold Zan at h;cases e1:eqN st depth y x with
   | none=>rw[e1] at h; cases h
   | some a =>
    cases e2:Zan st x ys with
    | none=>rw[e1,e2] at h; cases h
    | some b =>
     rw[e1,e2] at h;simp only[Yu] at h;obtain⟨e,he,h1,h2⟩:=Zfp I W rx qx hA e2 rs q2;have hu:e u=a:=by
      rw[he u];cases a with
      | true=>exact YS ⟨y,v,ry,q1,e1⟩
      | false =>
       refine YQ ?_;rintro⟨d,v',r',q',e'⟩;have ev:v'=v:=q'.inj q1;subst ev;have ed:=Rep.inj I W d y v' r' ry;subst ed;rw[e1] at e';cases e'
     refine⟨e,he,fun z hz => ?_,?_⟩
     ·rcases Yl.mp hz with rfl | hz
      ·rw[hu];exact (Zc5 I W depth y x a e1 A v vx z ux ry rx q1 qx hA).1
      ·exact h1 z hz
     ·rw[Ys,hu,h2];exact h
def Zc9(d:D):List D->Sto->Out D
 | [x],st=>match Zj st d with
  | some ys=>match Zan st x ys with
   | some bs => .ok (.int (bs.count true:Nat)) st
   | none => .bad
  | none => .bad
 | _,_ => .bad
def ZbH(d:D):List D->Sto->Out D
 | [x],st=>match Zj st d with
  | some ys=>match Zan st x ys with
   | some bs=>if bs.idxOf true<bs.length then .ok (.int (bs.idxOf true:Nat)) st else .bad
   | none => .bad
  | none => .bad
 | _,_ => .bad
noncomputable abbrev rLM(X:Cx)(EX:EXT)(γ:D->List D->Sto->Out D):V->List V->Hp->VK->Prop:=fun x xs H Q => ∃O d ds st,WR X.K O H st/\Rep X.K O H d x/\Reps X.K O H ds xs/\Run X.K EX O H (γ d ds st) (Val X.K Q)
theorem ZkO(hu:X.A.units+64<cLine):MtR X "list.count" (rLM X EX Zc9):=by
 intro pins s σ H x xs v us Q I rx rxs h;obtain⟨O,d,ds,st,W,r,rs,R⟩:=h
 match ds,rs,R with
 | [],_,R=>exact R.elim
 | _ :: _ :: _,_,R=>exact R.elim
 | [y],rs,R =>
  dsimp only[Zc9] at R;cases e1:Zj st d with
  | none=>rw[e1] at R; exact R.elim
  | some ys =>
   rw[e1] at R;dsimp only at R;cases e2:Zan st y ys with
   | none=>rw[e2] at R; exact R.elim
   | some bs =>
    rw[e2] at R;obtain⟨p,vs,rfl,q,rz⟩:=rdL W r e1;obtain⟨v',rfl,rv⟩:=rs.one_of;obtain⟨u,rfl,ru⟩:=vals1 rxs;cases rx;obtain⟨its,hv,⟨⟨cls,dd,data,sl⟩,n,ho,hc,hd,hdd⟩,_⟩:=I.list q;simp only at hc hd hdd;subst hc hd hdd;obtain⟨e,_,h1,h2⟩:=Zfp I W rv ru (ZcW hu) e2 rz hv;refine call_meets PySem.F.slot_list_count ⟨_,ho,rfl⟩ PySem.F.entry_list_count (PySem.F.args_list_count_2 _ _) (SeqAt.list_countAt p its.toArray n _ sl u e) ⟨ho,fun z hz=>h1 z (by simpa using hz),?_⟩;have ec:its.toArray.toList.countP e=bs.count true:=by
     rw[<-h2];simp[List.count,List.countP_map,QC]
    rw[ec];exact⟨.int _,H,I.tok _,⟨_,rfl⟩,Run.now (k:=Val X.K Q) R W _ (Rep.int_i.mpr rfl)⟩
theorem Zjv(hu:X.A.units+64<cLine):MtR X "list.index" (rLM X EX ZbH):=by
 intro pins s σ H x xs v us Q I rx rxs h;obtain⟨O,d,ds,st,W,r,rs,R⟩:=h
 match ds,rs,R with
 | [],_,R=>exact R.elim
 | _ :: _ :: _,_,R=>exact R.elim
 | [y],rs,R =>
  dsimp only[ZbH] at R;cases e1:Zj st d with
  | none=>rw[e1] at R; exact R.elim
  | some ys =>
   rw[e1] at R;dsimp only at R;cases e2:Zan st y ys with
   | none=>rw[e2] at R; exact R.elim
   | some bs =>
    rw[e2] at R;dsimp only at R;by_cases hj:bs.idxOf true<bs.length
    ·rw[Yi hj] at R;obtain⟨p,vs,rfl,q,rz⟩:=rdL W r e1;obtain⟨v',rfl,rv⟩:=rs.one_of;obtain⟨u,rfl,ru⟩:=vals1 rxs;cases rx;obtain⟨its,hv,⟨⟨cls,dd,data,sl⟩,n,ho,hc,hd,hdd⟩,hz⟩:=I.list q;simp only at hc hd hdd;subst hc hd hdd;obtain⟨e,_,h1,h2⟩:=Zfp I W rv ru (ZcW hu) e2 rz hv;have hl:its.length=bs.length:=by rw[<-h2,Yp]
     have at_:∀m (hm:m<its.toArray.size),e its.toArray[m]=bs[m]'(by simpa[<-hl] using hm):=by
      intro m hm;have:bs[m]?=some (e its.toArray[m]):=by
       rw[<-h2,Yw,Yd (by simpa using hm)];simp
      rw[Yd (by simpa[<-hl] using hm)] at this;exact (Option.some.inj this).symm
     have hlt:bs.idxOf true<its.toArray.size:=by simpa[hl] using hj
     have hb63:((bs.idxOf true:Nat):Int)<2 ^ 63 - 1:=by
      have h3:its.length<=sizeLine:=by rw[<-hv.length]; exact hz
      have h4:=Zcr;have h5:bs.idxOf true<its.length:=by simpa using hlt
      omega
     refine call_meets VF ⟨_,ho,rfl⟩ PySem.F.entry_list_index (PySem.F.args_list_index_2 _ _) (SeqAt.list_indexAt p its.toArray n _ sl u e (bs.idxOf true) hlt hb63 ?_ fun m hm hlt' => ?_) ⟨ho,fun z hz=>h1 z (by simpa using hz),?_⟩
     ·rw[at_ _ hlt];exact List.getElem_idxOf hj
     ·rw[at_ m hm];have:=List.not_of_lt_findIdx (p:=(· == true)) (xs:=bs) (i:=m) hlt';simpa using this
     ·exact⟨.int _,H,I.tok _,⟨_,rfl⟩,Run.now (k:=Val X.K Q) R W _ (Rep.int_i.mpr rfl)⟩
    ·rw[Yh hj] at R; exact R.elim
def dLM(γ:D->List D->Sto->Out D)(fo:DE)(f:DA):DE:=fun ρ st=>(fo ρ st).bind fun d st1=>match Zj st1 d with
 | some _=>(f ρ st1).bind fun ds st2=>γ d ds st2
 | none => .bad
theorem Ze4{name:Str}{id:String}{γ:D->List D->Sto->Out D}(slot:Slot "list" name id)(hty:typeOf (.builtin id)=pure (.type "method_descriptor"))(hm:MtR X id (rLM X EX γ))(ho:PD X EX o fo)(ha:PDA X EX (e :: es) g)
  (hbase:attributeBase o name X.env (eval o X.env)=eval o X.env:=by rfl)
  (hfew:((backTo cpos (starEach (e :: es) X.env)).all (fun x => !x.1) && (backToKw cpos (keywordEach [] X.env)).all (fun x=>x.1.isSome)
   && decide ((e :: es).length+([]:List Keyword).length+(if ([]:List Keyword).isEmpty then 0 else 1)<30))=true:=by rfl)
  (hline:(apos.endLine == cpos.line)=true:=by rfl) (hs:starEach (e :: es) X.env=(false,eval e X.env) :: starEach es X.env:=by rfl) (hplain:(backTo cpos (starEach es X.env)).any (·.1)=false:=by rfl) :
  PD X EX (.Call (.Attribute o name apos) (e :: es) [] cpos) (dLM γ fo g):=by
 refine PE.mono (Zhj PySem.F.plainAttrs_list slot hty hm ho ha hbase hfew hline hs hplain) ?_;rintro σ H Q ⟨O,ρ,st,W,E,R⟩;refine⟨O,ρ,st,W,E,R.bind.mono fun d st1 O1 H1 k1 W1 R1 v r => ?_⟩;cases e1:Zj st1 d with
 | none=>rw[e1] at R1; exact R1.elim
 | some ys =>
  rw[e1] at R1;obtain⟨pp,vs,rfl,q,rz⟩:=rdL W1 r e1;exact⟨.inl ⟨rfl,_,q⟩,O1,ρ,st1,W1,E.mono k1,R1.bind.mono fun ds st2 O2 H2 k2 W2 R2 vs rs=>⟨O2,d,ds,st2,W2,Rep.mono k2 _ _ r,rs,R2⟩⟩
end
section
variable{ρ:Ev}{st:Sto}{f fo:DE}{da:DA}{g:DS}{C:Addr}
@[simp] theorem Zq2{α β:Type}(c:Addr)(st:Sto)(k:α->Sto->Out β):(Out.exc c st:Out α).bind k = .exc c st:=rfl
@[simp] theorem ZqV{α:Type}(c:Addr)(st:Sto)(k:α->Sto->OutS):(Out.exc c st:Out α).to k = .exc c st:=rfl
@[simp] theorem Zq7{γ:D->List D->Sto->Out D}:dLM γ fo da ρ st=(fo ρ st).bind fun d st1=>match Zj st1 d with
 | some _=>(da ρ st1).bind fun ds st2=>γ d ds st2
 | none => .bad:=rfl
end
def spB(K:P1)(G:(Nat->Addr)->Prop)(F:(Nat->Addr)->FD):Sp:=fun vs H Q E => ∀cv,G cv->spD K (F cv) vs H Q E
theorem ZpK{P:P4}{w:World}{K:P1}{mg:Str->Option P6}{base:Heap}{k:Nat}{f:Addr}{fd:P5}{ps:List Str}{G:(Nat->Addr)->Prop}{F:(Nat->Addr)->FD}{cv:Nat->Addr}(hc:G cv)(O:FnOk P w K mg base CX0 k f fd ps (spD K (F cv))):FnOk P w K mg base CX0 k f fd ps (spB K G F):=by
 refine⟨fun vs H Q E h=>O.len vs H Q E (h cv hc),fun A outer s H args us vs Q E hr he hb hv hs=>O.run A outer s H args us vs Q E hr he hb hv (hs cv hc)⟩
end DL
end
section
namespace DL
open PySem PySem.Spec PyProof.Rows L2
theorem us1{P:List P6->Prop}(h:∀a,P [a]):∀us:List P6,us.length=1->P us
 | [a],_=>h a
theorem us2{P:List P6->Prop}(h:∀a b,P [a,b]):∀us:List P6,us.length=2->P us
 | [a,b],_=>h a b
theorem us3{P:List P6->Prop}(h:∀a b c,P [a,b,c]):∀us:List P6,us.length=3->P us
 | [a,b,c],_=>h a b c
end DL
end
section
namespace SO
open PySem PySem.W PyProof.Rows
def ok{α:Type}(n:Nat)(lt:Nat->Nat->Bool):KasT α->(α->Prop)->Prop
 | .ret a,Q=>Q a
 | .ask i j k,Q=>i<n/\j<n/\ok n lt (k (lt i j)) Q
section
variable{α β:Type}{n:Nat}{lt:Nat->Nat->Bool}
theorem ZcU{f:α->KasT β}{Q:β->Prop}:∀{t:KasT α},ok n lt t (fun a=>ok n lt (f a) Q)->ok n lt (t.bind f) Q
 | .ret _,h=>h
 | .ask _ _ k,⟨h1,h2,h3⟩=>⟨h1,h2,ZcU (t:=k _) h3⟩
theorem Zbo{Q Q':α->Prop}(f:∀a,Q a->Q' a):∀{t:KasT α},ok n lt t Q->ok n lt t Q'
 | .ret _,h=>f _ h
 | .ask _ _ k,⟨h1,h2,h3⟩=>⟨h1,h2,Zbo f (t:=k _) h3⟩
theorem ZfL{cmp:Nat->Nat->(Bool->P0->Prop)->P0->Prop}{s:P0}{G:α->P0->Prop}{Q:α->Prop}(hc:∀i j C,i<n->j<n->C (lt i j) s->cmp i j C s)(hG:∀a,Q a->G a s):∀{t:KasT α},ok n lt t Q->t.kasWp cmp G s
 | .ret _,h=>hG _ h
 | .ask i j k,⟨h1,h2,h3⟩=>hc i j _ h1 h2 (ZfL hc hG (t:=k _) h3)
end
structure Ord(n:Nat)(lt:Nat->Nat->Bool):Prop where
 tot:∀i j,i<n->j<n->i≠j->lt i j=false->lt j i=true
 asy:∀i j,i<n->j<n->lt i j=true->lt j i=false
 trn:∀i j k,i<n->j<n->k<n->lt i j=true->lt j k=true->lt i k=true
def Al(n:Nat)(p:Array Nat):Prop:=p.toList.Perm (List.range n)
noncomputable abbrev G(p:Array Nat)(i:Nat):Nat:=p.getD i 0
section
variable{n:Nat}{lt:Nat->Nat->Bool}{p:Array Nat}
theorem Al.size(h:Al n p):p.size=n:=by have:=h.length_eq; simpa using this
theorem Zdg(i:Nat)(h:i<p.size):G p i=p[i]:=by simp[G,Array.getD,h]
theorem Al.bel(h:Al n p)(i:Nat)(hn:0<n):G p i<n:=by
 by_cases hi:i<p.size
 ·rw[Zdg i hi];have:p[i]∈p.toList:=by simp
  have:=h.mem_iff.mp this;simpa using this
 ·simp[G,Array.getD,hi,hn]
theorem Al.inj(h:Al n p){i j:Nat}(hi:i<n)(hj:j<n)(ne:i≠j):G p i≠G p j:=by
 have nd:p.toList.Nodup:=h.nodup_iff.mpr UE;have hs:=h.size;rw[Zdg i (by omega),Zdg j (by omega)];intro e;have:=(Qj (i:=i) (j:=j) (h₀:=by simpa using (by omega:i<p.size)) (h₁:=by simpa using (by omega:j<p.size)) nd).mp (by simpa using e);exact ne this
theorem Zc8{q:Array Nat}{i j:Nat}(h:p[i]?=q[j]?):G p i=G q j:=by
 simp only[G,Array.getD_eq_getD_getElem?,h]
def SP(lt:Nat->Nat->Bool)(p:Array Nat)(k:Nat):Prop:=∀i j,i<j->j<k->lt (G p i) (G p j)=true
def DP(lt:Nat->Nat->Bool)(p:Array Nat)(k:Nat):Prop:=∀i j,i<j->j<k->lt (G p j) (G p i)=true
theorem SP.one:SP lt p 1:=fun i j h1 h2=>by omega
theorem SP.next(O:Ord n lt)(h:Al n p){m:Nat}(h1:1<=m)(hm:m<n)(s:SP lt p m)(e:lt (G p (m - 1)) (G p m)=true):SP lt p (m+1):=by
 intro i j hij hj;by_cases hjm:j<m
 ·exact s i j hij hjm
 ·have:j=m:=by omega
  subst this;by_cases hi:i=j - 1
  ·subst hi; exact e
  ·exact O.trn _ _ _ (h.bel _ (by omega)) (h.bel _ (by omega)) (h.bel _ (by omega)) (s i (j - 1) (by omega) (by omega)) e
theorem DP.next(O:Ord n lt)(h:Al n p){m:Nat}(h1:1<=m)(hm:m<n)(s:DP lt p m)(e:lt (G p m) (G p (m - 1))=true):DP lt p (m+1):=by
 intro i j hij hj;by_cases hjm:j<m
 ·exact s i j hij hjm
 ·have:j=m:=by omega
  subst this;by_cases hi:i=j - 1
  ·subst hi; exact e
  ·exact O.trn _ _ _ (h.bel _ (by omega)) (h.bel _ (by omega)) (h.bel _ (by omega)) e (s i (j - 1) (by omega) (by omega))
theorem ZeD(O:Ord n lt)(h:Al n p):∀(f m:Nat),1<=m->m+f=n->SP lt p m->ok n lt (kas_asc p f m) (fun r=>m<=r/\r<=n/\SP lt p r/\(r<n->lt (G p r) (G p (r - 1))=true))
 | 0,m,h1,hf,s=>⟨Yj _,by omega,s,fun z=>by omega⟩
 | f+1,m,h1,hf,s=>by
  unfold kas_asc;refine⟨h.bel _ (by omega),h.bel _ (by omega),?_⟩;cases e:lt (p.getD m 0) (p.getD (m - 1) 0) with
  | true =>
   dsimp only;rw[Yi rfl];exact⟨Yj _,by omega,s,fun _=>e⟩
  | false =>
   dsimp only;rw[Yh (by simp)];have e':=O.tot _ _ (h.bel _ (by omega)) (h.bel _ (by omega)) (h.inj (i:=m) (j:=m - 1) (by omega) (by omega) (by omega)) e;exact Zbo (fun r z=>⟨Uu z.1,z.2⟩) (ZeD O h f (m+1) (by omega) (by omega) (s.next O h h1 (by omega) e'))
theorem ZiB(O:Ord n lt)(h:Al n p):∀(f m:Nat),1<=m->m+f=n->DP lt p m->ok n lt (kas_desc f p m 0) (fun r=>r.1=p/\r.2.2=0/\m<=r.2.1/\r.2.1<=n/\DP lt p r.2.1)
 | 0,m,h1,hf,s=>⟨rfl,rfl,Yj _,(by omega:m<=n),s⟩
 | f+1,m,h1,hf,s=>by
  unfold kas_desc;refine⟨h.bel _ (by omega),h.bel _ (by omega),?_⟩;cases e:lt (p.getD m 0) (p.getD (m - 1) 0) with
  | true =>
   dsimp only;rw[Yi rfl,Yh (YY 0)];exact Zbo (fun r z=>⟨z.1,z.2.1,Uu z.2.2.1,z.2.2.2⟩) (ZiB O h f (m+1) (by omega) (by omega) (s.next O h h1 (by omega) e))
  | false =>
   dsimp only;rw[Yh (by simp)];have e':=O.tot _ _ (h.bel _ (by omega)) (h.bel _ (by omega)) (h.inj (i:=m) (j:=m - 1) (by omega) (by omega) (by omega)) e;refine⟨h.bel _ (by omega),h.bel _ (by omega),?_⟩;rw[e'];dsimp only;rw[Yi rfl];exact⟨rfl,rfl,Yj _,(by omega:m<=n),s⟩
theorem Al.rev(h:Al n p)(m:Nat):Al n (kas_rev p 0 m):=((mirror_perm p 0 m _).toList).trans h
theorem ZiC{m:Nat}(hm:m<=p.size)(k:Nat):G (kas_rev p 0 m) k=if k<m then G p (m - 1 - k) else G p k:=by
 have e:=getElem?_mirror_all (xs:=p) (i:=0) hm k;by_cases hk:k<m
 ·rw[Yi hk];rw[Yi ⟨YT _,hk⟩] at e;rw[show 0+m - 1 - k=m - 1 - k by omega] at e;exact Zc8 e
 ·rw[Yh hk];rw[Yh (fun z=>hk z.2)] at e;exact Zc8 e
theorem ZoC(h:Al n p){m:Nat}(hm:m<=n)(d:DP lt p m):SP lt (kas_rev p 0 m) m:=by
 intro i j hij hj;have hs:=h.size;rw[ZiC (by omega),ZiC (by omega),Yi (by omega),Yi hj];exact d _ _ (by omega) (by omega)
theorem Zp5(O:Ord n lt)(h:Al n p){m:Nat}(h1:1<=m)(hm:m<=n)(d:DP lt p m):ok n lt (kas_tail3 m n p) (fun r=>Al n r.2/\1<=r.1/\r.1<=n/\SP lt r.2 r.1):=by
 unfold kas_tail3;refine ZcU (Zbo (fun r z => ?_) (ZeD O (h.rev m) (n - m) m h1 (by omega) (ZoC h hm d)));exact⟨h.rev m,by omega,z.2.1,z.2.2.1⟩
theorem Zke(O:Ord n lt)(h:Al n p)(hn:1<=n):ok n lt (kas_count n p) (fun r=>Al n r.2/\1<=r.1/\r.1<=n/\SP lt r.2 r.1):=by
 unfold kas_count;refine ZcU (Zbo (fun r z => ?_) (ZeD O h (n - 1) 1 (Yj _) (by omega) SP.one));obtain⟨z1,z2,z3,z4⟩:=z;by_cases hr:r=n
 ·subst hr;simp only[QM,Wq];exact⟨h,z1,z2,z3⟩
 ·have hb:(r == n)=false:=by simp[hr]
  rw[hb,Yh (by simp)];by_cases h1:r > 1
  ·rw[Yi h1];refine⟨h.bel _ (by omega),h.bel _ (by omega),?_⟩;have e:lt (p.getD 0 0) (p.getD (r - 1) 0)=true:=z3 0 (r - 1) (by omega) (by omega);rw[e];dsimp only;rw[Yi rfl];exact⟨h,z1,z2,z3⟩
  ·rw[Yh h1];have:r=1:=by omega
   subst this;unfold kas_descPart;have d2:DP lt p 2:=by
    intro i j hij hj;have hi:i=0:=by omega
    have hj':j=1:=by omega
    subst hi hj';exact z4 (by omega)
   refine ZcU (Zbo (fun r w => ?_) (ZiB O h (n - (1+1)) (1+1) (by omega) (by omega) d2));obtain⟨w1,w2,w3,w4,w5⟩:=w;obtain⟨r1,r2,r3⟩:=r;dsimp only at w1 w2 w3 w4 w5 ⊢;subst w1 w2;rw[Yh (YY 0)];exact Zp5 O h (by omega) w4 w5
theorem Zfi(O:Ord n lt)(h:Al n p){k:Nat}(hk:k<n):∀(f l r:Nat),r - l<=f->l<=r->r<=k->(∀i,i<l->lt (G p i) (G p k)=true)->(∀i,r<=i->i<k->lt (G p k) (G p i)=true)->SP lt p k ->
  ok n lt (kas_place p k f l r) (fun m=>m<=k/\(∀i,i<m->lt (G p i) (G p k)=true)/\∀i,m<=i->i<k->lt (G p k) (G p i)=true)
 | 0,l,r,hf,hl,hr,a,b,s=>by
  have:l=r:=by omega
  subst this;exact⟨hr,a,b⟩
 | f+1,l,r,hf,hl,hr,a,b,s=>by
  unfold kas_place;by_cases hlr:l ≥ r
  ·rw[Yi hlr];have:l=r:=by omega
   subst this;exact⟨hr,a,b⟩
  ·rw[Yh hlr];refine⟨h.bel _ (by omega),h.bel _ (by omega),?_⟩;have hm1:l<=(l+r) / 2:=by omega
   have hm2:(l+r) / 2<r:=by omega
   cases e:lt (p.getD k 0) (p.getD ((l+r) / 2) 0) with
   | true =>
    dsimp only;rw[Yi rfl];refine Zfi O h hk f l ((l+r) / 2) (by omega) hm1 (by omega) a (fun i hi1 hi2 => ?_) s;by_cases hi:i=(l+r) / 2
    ·subst hi; exact e
    ·exact O.trn _ _ _ (h.bel _ (by omega)) (h.bel _ (by omega)) (h.bel _ (by omega)) e (s _ _ (by omega) hi2)
   | false =>
    dsimp only;rw[Yh (by simp)];have e':=O.tot _ _ (h.bel _ (by omega)) (h.bel _ (by omega)) (h.inj (i:=k) (j:=(l+r) / 2) hk (by omega) (by omega)) e;refine Zfi O h hk f ((l+r) / 2+1) r (by omega) (by omega) hr (fun i hi => ?_) b s;by_cases hi2:i=(l+r) / 2
    ·subst hi2; exact e'
    ·exact O.trn _ _ _ (h.bel _ (by omega)) (h.bel _ (by omega)) (h.bel _ (by omega)) (s i ((l+r) / 2) (by omega) (by omega)) e'
theorem Al.bub(h:Al n p)(k d:Nat):Al n (bubble p k d):=((bubble_perm p k d).toList).trans h
theorem Zjz{k d:Nat}(hk:k<p.size)(hd:d<=k)(i:Nat):G (bubble p k d) i=if i=k - d then G p k else if k - d<i/\i<=k then G p (i - 1) else G p i:=by
 have e:=getElem?_bubble hk d hd i;by_cases h1:i=k - d
 ·rw[Yi h1] at e ⊢; exact Zc8 e
 ·rw[Yh h1] at e ⊢;by_cases h2:k - d<i/\i<=k
  ·rw[Yi h2] at e ⊢; exact Zc8 e
  ·rw[Yh h2] at e ⊢; exact Zc8 e
theorem Zhy(O:Ord n lt):∀(f k:Nat) (p:Array Nat),Al n p->k+f=n->SP lt p k->ok n lt (kas_bin f p k) (fun q=>Al n q/\SP lt q n)
 | 0,k,p,h,hf,s=>by
  have:k=n:=by omega
  subst this;exact⟨h,s⟩
 | f+1,k,p,h,hf,s=>by
  unfold kas_bin;refine ZcU (Zbo (fun m z => ?_) (Zfi O h (by omega) k 0 k (by omega) (YT _) (Yj _) (fun i hi=>by omega) (fun i h1 h2=>by omega) s));obtain⟨z1,z2,z3⟩:=z;refine Zhy O f (k+1) _ (h.bub k (k - m)) (by omega) ?_;have hs:=h.size;intro i j hij hj;rw[Zjz (by omega) (by omega),Zjz (by omega) (by omega)];have hkm:k - (k - m)=m:=by omega
  rw[hkm];by_cases hi:i=m
  ·rw[Yi hi,Yh (by omega),Yi (by omega)];exact z3 _ (by omega) (by omega)
  ·rw[Yh hi];by_cases hj':j=m
   ·rw[Yi hj',Yh (by omega)];exact z2 _ (by omega)
   ·rw[Yh hj'];by_cases hi3:m<i/\i<=k
    ·rw[Yi hi3,Yi (by omega)];exact s _ _ (by omega) (by omega)
    ·rw[Yh hi3];by_cases hj3:m<j/\j<=k
     ·rw[Yi hj3];by_cases hij2:i=j - 1
      ·omega
      ·exact s _ _ (by omega) (by omega)
     ·rw[Yh hj3];exact s _ _ hij (by omega)
theorem ZmZ(O:Ord n lt)(hn:1<=n):ok n lt (kas_sort n) (fun q=>Al n q/\SP lt q n):=by
 unfold kas_sort;refine ZcU (Zbo (fun r z => ?_) (Zke O (show Al n (List.toArray (List.range n)) from List.Perm.refl _) hn));obtain⟨z1,z2,z3,z4⟩:=z;by_cases hr:r.1<n
 ·rw[Yi hr,show max r.1 1=r.1 by omega];exact Zhy O _ _ _ z1 (by omega) z4
 ·rw[Yh hr];have:r.1=n:=by omega
  rw[this] at z4;exact⟨z1,z4⟩
end
end SO
end
section
namespace SO
open PySem PySem.W PyProof.Rows
theorem SP.pw{n:Nat}{lt:Nat->Nat->Bool}{p:Array Nat}(h:Al n p)(s:SP lt p n):p.toList.Pairwise (fun i j=>lt i j=true):=by
 rw[Wd];intro i j hi hj hij;have hs:=h.size;simp only[YO] at hi hj;have:=s i j hij (by omega);rw[Zdg i hi,Zdg j hj] at this;simpa using this
section
variable{prog:P4}{w:World}{A:P3}{E:P6->P0->Prop}{s:P0}
noncomputable abbrev KB(s:P0)(a:Addr)(h':Heap):Prop:=∀b o,b≠a->s.heap.get? b=some o->h'.get? b=some o
structure Cmp(prog:P4)(w:World)(s:P0)(a:Addr)(vs:List P6)(κ:SortKind)(lt:Nat->Nat->Bool):Prop where
 kind:2<=vs.length->∀(h':Heap) (A:P3) (E:P6->P0->Prop) (Q:SortKind->P0->Prop),KB s a h'->Q κ { s with heap:=h' }->wpAny (model prog w) A (keyKind' vs.toArray) Q E { s with heap:=h' }
 less:2<=vs.length->∀(h':Heap) (A:P3) (E:P6->P0->Prop) (Q:Bool->P0->Prop) (i j:Nat),KB s a h'->i<vs.length->j<vs.length->Q (lt i j) { s with heap:=h' }->wpAny (model prog w) A (keyLt' κ (vs.getD i .none) (vs.getD j .none)) Q E { s with heap:=h' }
theorem Zg6{g:Heap}{a:Addr}{e1:Nat}{vs:List P6}{p:List Nat}{f:Bool->Sem PySem.Fin}{P:PySem.Fin->P0->Prop}(hoa:g.get? a=some (seqObj "list" #[] e1))(h64:vs.length<64)(hp:p.Perm (List.range vs.length))
  (k:∀h' c,(∀b o,b≠a->g.get? b=some o->h'.get? b=some o)->h'.get? a=some (seqObj "list" (p.map fun i=>vs.getD i .none).toArray c)->wpAny (model prog w) A (f false) P E { s with heap:=h' }) :
  wpAny (model prog w) A (seqEpoch a >>= fun e=>Builtin.List.listUpdate (.ref a) (fun _=>(p.map fun i=>vs.getD i Value.none).toArray) >>= fun _=>f (e != e1)) P E { s with heap:=g }:=by
 have z:((p.map fun i=>vs.getD i Value.none).toArray).size<=sizeLine+1:=by
  rw[Yn,Yp,hp.length_eq,YV,YN];omega
 have s2:=Yy g a (Obj.mapSeq fun _=>(p.map fun i=>vs.getD i Value.none).toArray);refine Ya (VO hoa rfl (Ya (Qz hoa rfl ?_ (YT _) z)));rw[Uv];exact k _ _ (fun b o ne e=>s2.extBut b o ne e) (Qu hoa fun _=>(p.map fun i=>vs.getD i Value.none).toArray)
theorem ZhX{a:Addr}{vs:List P6}{n0:Nat}{κ:SortKind}{lt:Nat->Nat->Bool}{P:PySem.Fin->P0->Prop}(ho:s.heap.get? a=some (seqObj "list" vs.toArray n0))(h64:vs.length<64)
  (C:Cmp prog w s a vs κ lt) (O:Ord vs.length lt)
  (k:∀p:List Nat,p.Perm (List.range vs.length)->p.Pairwise (fun i j=>lt i j=true)->∀h' c,KB s a h'->h'.get? a=some (seqObj "list" (p.map fun i=>vs.getD i .none).toArray c)->P (.done (.ret .none)) { s with heap:=h' }) :
  wpAny (model prog w) A (Builtin.«list.sort» ⟨[.ref a],[]⟩) P E s:=by
 have ha:a<s.heap.objs.size:=Yk ho;have s1:=Yy s.heap a (Obj.mapSeq fun _=>(#[]:Array P6));obtain⟨e1,ho1⟩:∃e1,(s.heap.update a (Obj.mapSeq fun _=>(#[]:Array P6))).get? a=some (seqObj "list" #[] e1):=⟨_,Qu ho fun _ => #[]⟩;have hk:KB s a (((s.heap.update a (Obj.mapSeq fun _=>(#[]:Array P6))).push (seqObj "tuple" vs.toArray 0)).push (seqObj "list" #[] 0)):=fun b o hb e =>
  Yc _ (Yc _ (s1.extBut b o hb e))
 have hoa:(((s.heap.update a (Obj.mapSeq fun _=>(#[]:Array P6))).push (seqObj "tuple" vs.toArray 0)).push (seqObj "list" #[] 0)).get? a=some (seqObj "list" #[] e1):=Yc _ (Yc _ ho1);rw[list_sort_plain];refine Ya (listItems_at ho rfl ?_);refine Ya (Qz ho rfl ?_ (by rw[Yn,YN]; omega) (YT _));refine Ya (VO ho1 rfl ?_);refine Ya (Vc ?_ (by show vs.length<=_; rw[YN]; omega));refine Ya (QX ?_ (YT _));refine Y1 ?_;show wpAny (model prog w) A _ P E { s with heap:=((s.heap.update a (Obj.mapSeq fun _=>(#[]:Array P6))).push (seqObj "tuple" vs.toArray 0)).push (seqObj "list" #[] 0) };generalize hg:((s.heap.update a (Obj.mapSeq fun _=>(#[]:Array P6))).push (seqObj "tuple" vs.toArray 0)).push (seqObj "list" #[] 0)=g at hk hoa;dsimp only;by_cases h2:vs.length<2
 ·have hn2:vs.toArray.size<2:=by rw[Yn]; omega
  rw[Yi hn2,Yi hn2];refine Ya (Yb (Ya (Yb ?_)));have hm:(arrOf (SortSt.mk' general' (vs.toArray.zip vs.toArray) #[] 7 none)).map (·.2)=((List.range vs.length).map fun i=>vs.getD i Value.none).toArray:=by
   show (vs.toArray.zip vs.toArray).map (·.2)=_
   match vs,h2 with
   | [],_=>simp
   | [v],_=>simp[Vq]
  have hpw:(List.range vs.length).Pairwise (fun i j=>lt i j=true):=by
   match vs,h2 with
   | [],_=>exact .nil
   | [v],_=>exact VG _ _
  have hf:failedOf (SortSt.mk' general' (vs.toArray.zip vs.toArray) #[] 7 none)=none:=rfl;dsimp only;rw[hm];refine Zg6 (f:=fun b=>if b=true then _ else _) hoa h64 (List.Perm.refl _) fun h' c hb hc => ?_;simp only[YG,Wc];exact Yb (k _ (List.Perm.refl _) hpw h' c (fun b o ne e=>hb b o ne (hk b o ne e)) hc)
 ·have hn2:¬ vs.toArray.size<2:=by rw[Yn]; omega
  rw[Yh hn2,Yh hn2];refine Ya (C.kind (by omega) g A E _ hk ?_);refine Ya (YM (kat_run (κ:=κ) (ks:=vs) (vs:=vs) (G:=fun p s'=>Al vs.length p/\SP lt p vs.length/\s' = { s with heap:=g }) (Q:=fun st' s' => ∃p:Array Nat,arrOf st'=p.map (kas_item (vs.toArray.zip vs.toArray))/\failedOf st'=none/\Al vs.length p/\SP lt p vs.length/\s' = { s with heap:=g })
   rfl (by omega) h64 (fun p st' s' _ h1 h2 h3=>⟨p,h1,h2,h3⟩) ?_) ?_ fun _ _ e=>e)
  ·refine ZfL (Q:=fun p=>Al vs.length p/\SP lt p vs.length) (fun i j D hi hj hD => ?_) (fun p z=>⟨z.1,z.2,rfl⟩) (ZmZ O (by omega));exact C.less (by omega) g A _ _ i j hk hi hj hD
  ·rintro⟨⟨⟩,st'⟩ s' ⟨p,har,hf,hA,hS,rfl⟩;dsimp only;rw[kat_snds rfl har,hf];refine Zg6 (f:=fun b=>if b=true then _ else _) hoa h64 hA fun h' c hb hc => ?_;simp only[YG,Wc];exact Yb (k _ hA (hS.pw hA) h' c (fun b o ne e=>hb b o ne (hk b o ne e)) hc)
theorem sorted_keep{l:Addr}{vs:List P6}{κ:SortKind}{lt:Nat->Nat->Bool}{Q:P6->P0->Prop}(hl:s.heap.IsList l vs.toArray)(h64:vs.length<64)
  (C:∀a h',s.heap.objs.size<=a->(∀b o,s.heap.get? b=some o->h'.get? b=some o)->Cmp prog w { s with heap:=h' } a vs κ lt) (O:Ord vs.length lt)
  (k:∀p:List Nat,p.Perm (List.range vs.length)->p.Pairwise (fun i j=>lt i j=true)->∀a h' c,s.heap.objs.size<=a->(∀b o,s.heap.get? b=some o->h'.get? b=some o)->h'.get? a=some (seqObj "list" (p.map fun i=>vs.getD i .none).toArray c)->Q (.ref a) { s with heap:=h' }) :
  wpAny (model prog w) A (call (.builtin "sorted") [.ref l]) Q E s:=by
 refine Vr kind_sorted plain_sorted entry_sorted (args_sorted1 _) ?_;unfold Builtin.«sorted»;refine Ya (m:=checkCount "sorted" 1 1 _) (Yb ?_);refine Ya (collect_list hl ?_ (by rw[YN]; omega));refine Ya (QX ?_ (by rw[YN]; omega));have hsz:((s.heap.push (seqObj "list" #[] 0)).update s.heap.objs.size (Obj.mapSeq (· ++ vs.toArray))).objs.size=s.heap.objs.size+1:=by
  rw[UF,size_push']
 have hoL:(((s.heap.push (seqObj "list" #[] 0)).update s.heap.objs.size (Obj.mapSeq (· ++ vs.toArray))).push (seqObj "list" vs.toArray 0)).get? (s.heap.objs.size+1)=some (seqObj "list" vs.toArray 0):=by
  rw[<-hsz]; exact Ym _ rfl
 have keep:∀b o,s.heap.get? b=some o->(((s.heap.push (seqObj "list" #[] 0)).update s.heap.objs.size (Obj.mapSeq (· ++ vs.toArray))).push (seqObj "list" vs.toArray 0)).get? b=some o:=fun b o q=>by
  have hlt:b<s.heap.objs.size:=Yk q;rw[VH _ _ _ (by rw[hsz]; exact Yr (Qh hlt)),Heap.get?_update_ne _ _ _ _ (Yr hlt),VH _ _ _ (Yr hlt)];exact q
 show wpAny _ _ _ _ _ { s with heap:=((s.heap.push (seqObj "list" #[] 0)).update s.heap.objs.size (Obj.mapSeq (· ++ vs.toArray))).push (seqObj "list" vs.toArray 0) };rw[hsz];generalize ((s.heap.push (seqObj "list" #[] 0)).update s.heap.objs.size (Obj.mapSeq (· ++ vs.toArray))).push (seqObj "list" vs.toArray 0)=g at hoL keep;refine Ya (Y1 (YI slot_list_sort ⟨_,hoL,rfl⟩ entry_list_sort ?body (args_list_sort _)))
 case body =>
  refine ZhX (s:={ s with heap:=g }) hoL h64 (C _ g (Qc _) keep) O fun p hp hpw h' c hb hc => ?_;refine⟨_,rfl,Yb ⟨_,rfl,?_⟩⟩;exact k p hp hpw _ h' c (Qc _) (fun b o e=>hb b o (Yr (Qh (Yk e))) (keep b o e)) hc
end
end SO
end
section
namespace TS
open PySem PyProof.Rows
def ZaT:Bool->Keyed->Array Keyed->Nat->Nat->Nat->StateT SortSt Sem (Option Nat):=sortPriv% PySem.Builtin.gallop
def Zbe(left:Bool)(key:Keyed)(arr:Array Keyed)(base i:Nat):StateT SortSt Sem (Option Bool):=do
  let x <-elem' arr (base+i)
  if left then lt' x key else return (<-lt' key x).map (!·)
theorem Zqr(left:Bool)(key:Keyed)(arr:Array Keyed)(base n hint:Nat):ZaT left key arr base n hint=(do
 let mut lastofs:=0
 let mut ofs:=1
 let mut lo:=0
 let mut hi:=0
 let some right <-Zbe left key arr base hint | return none
 if right then
  let maxofs:=n - hint
  for _ in [0:n] do
   if ofs ≥ maxofs then break
   let some more <-Zbe left key arr base (hint+ofs) | return none
   if !more then break
   lastofs:=ofs
   ofs:=2 * ofs+1
  lo:=hint+lastofs+1
  hi:=hint+min ofs maxofs
 else
  let maxofs:=hint+1
  for _ in [0:n] do
   if ofs ≥ maxofs then break
   let some found <-Zbe left key arr base (hint - ofs) | return none
   if found then break
   lastofs:=ofs
   ofs:=2 * ofs+1
  lo:=hint+1 - min ofs maxofs
  hi:=hint - lastofs
 for _ in [0:n] do
  if lo ≥ hi then break
  let m:=lo+(hi - lo) / 2
  let some more <-Zbe left key arr base m | return none
  if more then lo:=m+1 else hi:=m
 return some hi):=rfl
section
variable{M:Model}{A:P3}{E:P6->P0->Prop}{s:P0}{left:Bool}{key:Keyed}{arr:Array Keyed}{base n hint:Nat}{st:SortSt}{B:Nat->Bool}
theorem ZdF{Q:Option Nat->SortSt->Prop}(hb:∀i,i<n->∀Q:Option Bool->SortSt->Prop,Q (some (B i)) st->wpS M A E s (Zbe left key arr base i) Q st)
  (mono:∀i j,i<=j->j<n->B j=true->B i=true) (hn:hint<n)
  (h:∀k,k<=n->(∀i,i<k->B i=true)->(∀i,k<=i->i<n->B i=false)->Q (some k) st):wpS M A E s (ZaT left key arr base n hint) Q st:=by
 have anti:∀i j,i<=j->j<n->B i=false->B j=false:=fun i j h1 h2 e=>by
  cases e2:B j with
  | false=>rfl
  | true=>rw[mono i j h1 h2 e2] at e; cases e
 rw[Zqr];refine Yf (hb hint hn _ ?_);cases e:B hint with
 | true =>
  dsimp only;rw[Yi rfl];refine Yf (WG (Y5 (fun x c st'=>st=st'/\∃l o,c=(none,l,o)/\l<o/\x<o/\hint+l<n/\B (hint+l)=true)
   (Q:=fun c st'=>st=st'/\∃l o,c=(none,l,o)/\l<o/\hint+l<n/\B (hint+l)=true/\(o ≥ n - hint\/B (hint+o)=false)) ?_ ?_ ⟨rfl,0,1,rfl,by omega,by omega,hn,e⟩) ?_)
  ·rintro x c st' _ hx ⟨rfl,l,o,rfl,a1,a2,a3,a4⟩;dsimp only;by_cases c1:o ≥ n - hint
   ·rw[Yi c1];exact Yg ⟨rfl,l,o,rfl,a1,a3,a4,.inl c1⟩
   ·rw[Yh c1];refine Yf (hb _ (by omega) _ ?_);cases e2:B (hint+o) with
    | true =>
     dsimp only;rw[Yh (by simp)];exact Yg ⟨rfl,o,_,rfl,by omega,by omega,by omega,e2⟩
    | false =>
     dsimp only;rw[Yi (by simp)];exact Yg ⟨rfl,l,o,rfl,a1,a3,a4,.inr e2⟩
  ·rintro c st' ⟨rfl,l,o,rfl,a1,a2,a3,a4⟩;rw[Qo] at a2;exact⟨rfl,l,o,rfl,a1,a3,a4,.inl (by omega)⟩
  ·rintro c st' ⟨rfl,l,o,rfl,a1,a3,a4,a5⟩;dsimp only;have h1:hint+l+1<=hint+min o (n - hint):=by omega
   have h2:hint+min o (n - hint)<=n:=by omega
   have hl:∀i,i<hint+l+1->B i=true:=fun i hi=>mono i _ (by omega) a3 a4;have hh:∀i,hint+min o (n - hint)<=i->i<n->B i=false:=fun i h3 h4=>by
    rcases a5 with a5 | a5
    ·omega
    ·exact anti _ i (by omega) h4 a5
   refine Yf (WG (Y5 (fun x c st'=>st=st'/\∃lo hi,c=(none,lo,hi)/\lo<=hi/\hi<=n/\hi - lo+x<=n/\(∀i,i<lo->B i=true)/\∀i,hi<=i->i<n->B i=false)
    (Q:=fun c st'=>st=st'/\∃hi,c=(none,hi,hi)/\hi<=n/\(∀i,i<hi->B i=true)/\∀i,hi<=i->i<n->B i=false) ?_ ?_ ⟨rfl,hint+l+1,hint+min o (n - hint),rfl,h1,h2,by omega,hl,hh⟩) ?_)
   ·rintro x c st' _ hx ⟨rfl,lo,hi,rfl,a1,a2,a3,a4,a5⟩;dsimp only;by_cases c1:lo ≥ hi
    ·rw[Yi c1];obtain rfl:lo=hi:=by omega
     exact Yg ⟨rfl,lo,rfl,a2,a4,a5⟩
    ·rw[Yh c1];refine Yf (hb _ (by omega) _ ?_);cases e:B (lo+(hi - lo) / 2) with
     | true =>
      dsimp only;rw[Yi rfl];refine Yg ⟨rfl,_,_,rfl,by omega,a2,by omega,fun i hi'=>mono i _ (by omega) (by omega) e,a5⟩
     | false =>
      dsimp only;rw[Yh (by simp)];refine Yg ⟨rfl,_,_,rfl,by omega,by omega,by omega,a4,fun i h3 h4 => ?_⟩;cases e2:B i with
      | false=>rfl
      | true=>rw[mono _ i h3 h4 e2] at e; cases e
   ·rintro c st' ⟨rfl,lo,hi,rfl,a1,a2,a3,a4,a5⟩;rw[Qo] at a3;obtain rfl:lo=hi:=by omega
    exact⟨rfl,lo,rfl,a2,a4,a5⟩
   ·rintro c st' ⟨rfl,hi,rfl,a2,a4,a5⟩;exact Yg (h hi a2 a4 a5)
 | false =>
  dsimp only;rw[Yh (by simp)];refine Yf (WG (Y5 (fun x c st'=>st=st'/\∃l o,c=(none,l,o)/\l<o/\x<o/\l<=hint/\B (hint - l)=false)
   (Q:=fun c st'=>st=st'/\∃l o,c=(none,l,o)/\l<o/\l<=hint/\B (hint - l)=false/\(o ≥ hint+1\/B (hint - o)=true)) ?_ ?_ ⟨rfl,0,1,rfl,by omega,by omega,by omega,e⟩) ?_)
  ·rintro x c st' _ hx ⟨rfl,l,o,rfl,a1,a2,a3,a4⟩;dsimp only;by_cases c1:o ≥ hint+1
   ·rw[Yi c1];exact Yg ⟨rfl,l,o,rfl,a1,a3,a4,.inl c1⟩
   ·rw[Yh c1];refine Yf (hb _ (by omega) _ ?_);cases e2:B (hint - o) with
    | true =>
     dsimp only;rw[Yi rfl];exact Yg ⟨rfl,l,o,rfl,a1,a3,a4,.inr e2⟩
    | false =>
     dsimp only;rw[Yh (by simp)];exact Yg ⟨rfl,o,_,rfl,by omega,by omega,by omega,e2⟩
  ·rintro c st' ⟨rfl,l,o,rfl,a1,a2,a3,a4⟩;rw[Qo] at a2;exact⟨rfl,l,o,rfl,a1,a3,a4,.inl (by omega)⟩
  ·rintro c st' ⟨rfl,l,o,rfl,a1,a3,a4,a5⟩;dsimp only;have h1:hint+1 - min o (hint+1)<=hint - l:=by omega
   have h2:hint - l<=n:=by omega
   have hl:∀i,i<hint+1 - min o (hint+1)->B i=true:=fun i hi=>by
    rcases a5 with a5 | a5
    ·omega
    ·exact mono i _ (by omega) (by omega) a5
   have hh:∀i,hint - l<=i->i<n->B i=false:=fun i h3 h4=>anti _ i (by omega) h4 a4;refine Yf (WG (Y5 (fun x c st'=>st=st'/\∃lo hi,c=(none,lo,hi)/\lo<=hi/\hi<=n/\hi - lo+x<=n/\(∀i,i<lo->B i=true)/\∀i,hi<=i->i<n->B i=false)
    (Q:=fun c st'=>st=st'/\∃hi,c=(none,hi,hi)/\hi<=n/\(∀i,i<hi->B i=true)/\∀i,hi<=i->i<n->B i=false) ?_ ?_ ⟨rfl,hint+1 - min o (hint+1),hint - l,rfl,h1,h2,by omega,hl,hh⟩) ?_)
   ·rintro x c st' _ hx ⟨rfl,lo,hi,rfl,a1,a2,a3,a4,a5⟩;dsimp only;by_cases c1:lo ≥ hi
    ·rw[Yi c1];obtain rfl:lo=hi:=by omega
     exact Yg ⟨rfl,lo,rfl,a2,a4,a5⟩
    ·rw[Yh c1];refine Yf (hb _ (by omega) _ ?_);cases e:B (lo+(hi - lo) / 2) with
     | true =>
      dsimp only;rw[Yi rfl];refine Yg ⟨rfl,_,_,rfl,by omega,a2,by omega,fun i hi'=>mono i _ (by omega) (by omega) e,a5⟩
     | false =>
      dsimp only;rw[Yh (by simp)];refine Yg ⟨rfl,_,_,rfl,by omega,by omega,by omega,a4,fun i h3 h4 => ?_⟩;cases e2:B i with
      | false=>rfl
      | true=>rw[mono _ i h3 h4 e2] at e; cases e
   ·rintro c st' ⟨rfl,lo,hi,rfl,a1,a2,a3,a4,a5⟩;rw[Qo] at a3;obtain rfl:lo=hi:=by omega
    exact⟨rfl,lo,rfl,a2,a4,a5⟩
   ·rintro c st' ⟨rfl,hi,rfl,a2,a4,a5⟩;exact Yg (h hi a2 a4 a5)
end
end TS
end
section
namespace TS
open PySem PyProof.Rows
def ZfA:Array Keyed->Array Keyed->StateT SortSt Sem (Array Keyed):=sortPriv% PySem.Builtin.mergeLo
def setG:Nat->StateT SortSt Sem Unit:=sortPriv% PySem.Builtin.setMinGallop
theorem Zcs(g:Nat):setG g=modify fun s=>SortSt.mk' (kindOf s) (arrOf s) (pendingOf s) g (failedOf s):=rfl
theorem Zpu(a b:Array Keyed):ZfA a b=(do
 rule "list.sort.merge-lo"
 let total:=a.size+b.size
 let done (out:Array Keyed) (ia ib:Nat):=out++a.extract ia a.size++b.extract ib b.size
 let lastOfA (out:Array Keyed) (ia ib:Nat):=out++b.extract ib b.size++a.extract ia a.size
 let mut out:Array Keyed:=#[<-elem' b 0]
 let mut ia:=0
 let mut ib:=1
 if ib == b.size then return done out ia ib
 if ia+1 == a.size then return lastOfA out ia ib
 let mut minGallop:=gallopOf (<-get)
 for _ in [0:total] do
  let mut acount:=0
  let mut bcount:=0
  for _ in [0:total] do
   let some bWins <-lt' (<-elem' b ib) (<-elem' a ia) | return done out ia ib
   if bWins then
    out:=out.push (<-elem' b ib); ib:=ib+1; bcount:=bcount+1; acount:=0
    if ib == b.size then return done out ia ib
    if bcount ≥ minGallop then break
   else
    out:=out.push (<-elem' a ia); ia:=ia+1; acount:=acount+1; bcount:=0
    if ia+1 == a.size then return lastOfA out ia ib
    if acount ≥ minGallop then break
  rule "list.sort.gallop"
  minGallop:=minGallop+1
  for _ in [0:total] do
   if minGallop > 1 then minGallop:=minGallop - 1
   setG minGallop
   let some k <-ZaT false (<-elem' b ib) a ia (a.size - ia) 0 | return done out ia ib
   acount:=k
   if k > 0 then
    out:=out++a.extract ia (ia+k); ia:=ia+k
    if ia+1 == a.size then return lastOfA out ia ib
    if ia == a.size then return done out ia ib
   out:=out.push (<-elem' b ib); ib:=ib+1
   if ib == b.size then return done out ia ib
   let some k <-ZaT true (<-elem' a ia) b ib (b.size - ib) 0 | return done out ia ib
   bcount:=k
   if k > 0 then
    out:=out++b.extract ib (ib+k); ib:=ib+k
    if ib == b.size then return done out ia ib
   out:=out.push (<-elem' a ia); ia:=ia+1
   if ia+1 == a.size then return lastOfA out ia ib
   if acount<7 && bcount<7 then break
  minGallop:=minGallop+1
  setG minGallop
 unsupported "internal:list.sort.merge-bound"):=rfl
structure JL(L:Keyed->Keyed->Prop)(S out A B:List Keyed):Prop where
 pm:(out++(A++B)).Perm S
 sr:out.Pairwise L
 lo:∀o∈out,∀z∈A++B,L o z
section
variable{L:Keyed->Keyed->Prop}{S out A B T:List Keyed}
theorem JL.takeA(h:JL L S out (T++A) B)(hp:(T++A).Pairwise L)(hx:∀t∈T,∀z∈B,L t z):JL L S (out++T) A B:=by
 have hq:=Y8.mp hp;refine⟨?_,Y8.mpr ⟨h.sr,hq.1,fun o ho t ht=>h.lo o ho t (by simp[ht])⟩,fun o ho z hz => ?_⟩
 ·simpa[Ws] using h.pm
 ·rcases YR.mp ho with ho | ho
  ·refine h.lo o ho z ?_;rcases YR.mp hz with hz | hz <;> simp[hz]
  ·rcases YR.mp hz with hz | hz
   ·exact hq.2.2 o ho z hz
   ·exact hx o ho z hz
theorem JL.takeB(h:JL L S out A (T++B))(hp:(T++B).Pairwise L)(hx:∀t∈T,∀z∈A,L t z):JL L S (out++T) A B:=by
 have hq:=Y8.mp hp;refine⟨?_,Y8.mpr ⟨h.sr,hq.1,fun o ho t ht=>h.lo o ho t (by simp[ht])⟩,fun o ho z hz => ?_⟩
 ·refine List.Perm.trans ?_ h.pm;rw[Ws];refine List.Perm.append_left _ ?_;rw[<-Ws,<-Ws];exact List.Perm.append_right _ V1
 ·rcases YR.mp ho with ho | ho
  ·refine h.lo o ho z ?_;rcases YR.mp hz with hz | hz <;> simp[hz]
  ·rcases YR.mp hz with hz | hz
   ·exact hx o ho z hz
   ·exact hq.2.2 o ho z hz
theorem JL.fin(h:JL L S out A B){X:List Keyed}(hX:X.Perm (A++B))(hp:X.Pairwise L):(out++X).Perm S/\(out++X).Pairwise L :=
 ⟨(List.Perm.append_left _ hX).trans h.pm,Y8.mpr ⟨h.sr,hp,fun o ho z hz=>h.lo o ho z (hX.mem_iff.mp hz)⟩⟩
end
structure AB(less:Keyed->Keyed->Bool)(a b:Array Keyed):Prop where
 tr:∀x∈a.toList++b.toList,∀y∈a.toList++b.toList,∀z∈a.toList++b.toList,less x y=true->less y z=true->less x z=true
 sa:a.toList.Pairwise (fun x y=>less x y=true)
 sb:b.toList.Pairwise (fun x y=>less x y=true)
 ne:∀x∈a.toList,∀y∈b.toList,less y x = !(less x y)
 za:0<a.size
 zb:0<b.size
 fi:∀x∈a.toList,less (b[0]'zb) x=true
 la:∀y∈b.toList,less y (a[a.size - 1]'(by omega))=true
def J(less:Keyed->Keyed->Bool)(a b out:Array Keyed)(ia ib:Nat):Prop:=JL (fun x y=>less x y=true) (a.toList++b.toList) out.toList (a.toList.drop ia) (b.toList.drop ib)
def Rz(less:Keyed->Keyed->Bool)(a b r:Array Keyed):Prop:=r.toList.Perm (a.toList++b.toList)/\r.toList.Pairwise (fun x y=>less x y=true)
noncomputable abbrev SG(st:SortSt)(g:Nat):SortSt:=SortSt.mk' (kindOf st) (arrOf st) (pendingOf st) g (failedOf st)
section
variable{less:Keyed->Keyed->Bool}{a b out:Array Keyed}{ia ib:Nat}
theorem drop_cons{x:Array Keyed}{i:Nat}(h:i<x.size):x.toList.drop i=[x[i]]++x.toList.drop (i+1):=by
 rw[QG (by simpa using h)];simp
theorem Zdy{x:Array Keyed}{i k:Nat}(h:i+k<=x.size):x.toList.drop i=(x.extract i (i+k)).toList++x.toList.drop (i+k):=by
 rw[Qe,List.extract_eq_drop_take,show i+k - i=k by omega,<-VB,Wu]
theorem ZbG{x:Array Keyed}{i:Nat}:(x.extract i x.size).toList=x.toList.drop i:=by
 rw[Qe,List.extract_eq_drop_take];exact Ql (by simp)
theorem ZE{x:Array Keyed}{i:Nat}(h:i<x.size):x[i]∈x.toList:=by simp
theorem Zeg{x:Array Keyed}{i:Nat}{z:Keyed}(h:z∈x.toList.drop i):∃j,i<=j/\∃hj:j<x.size,z=x[j]:=by
 obtain⟨j,hj,rfl⟩:=Qf.mp h;rw[QL] at hj;refine⟨i+j,by omega,by simp at hj; omega,?_⟩;rw[List.getElem_drop];simp
theorem ZgU{x:Array Keyed}{i k:Nat}{z:Keyed}(hk:i+k<=x.size)(h:z∈(x.extract i (i+k)).toList):∃j,j<k/\∃hj:i+j<x.size,z=x[i+j]:=by
 obtain⟨j,hj,rfl⟩:=Qf.mp h;have hj':j<k:=by simp at hj; omega
 exact⟨j,hj',by omega,by simp⟩
theorem Zb9{x:Array Keyed}(h:x.toList.Pairwise (fun x y=>less x y=true)){i j:Nat}(hij:i<j)(hj:j<x.size):less (x[i]'(by omega)) x[j]=true:=by
 have:=Wd.mp h i j (by simp; omega) (by simpa using hj) hij;simpa using this
theorem J.takeA(C:AB less a b)(h:J less a b out ia ib){k:Nat}(hk:ia+k<=a.size)(hx:∀j,j<k->∀hj:ia+j<a.size,∀z∈b.toList.drop ib,less a[ia+j] z=true):J less a b (out++a.extract ia (ia+k)) (ia+k) ib:=by
 unfold J at h ⊢;rw[Zdy hk] at h;rw[YK];refine h.takeA ?_ fun t ht z hz => ?_
 ·rw[<-Zdy hk];exact C.sa.sublist (WW _ _)
 ·obtain⟨j,hj,hj2,rfl⟩:=ZgU hk ht;exact hx j hj hj2 z hz
theorem J.takeB(C:AB less a b)(h:J less a b out ia ib){k:Nat}(hk:ib+k<=b.size)(hx:∀j,j<k->∀hj:ib+j<b.size,∀z∈a.toList.drop ia,less b[ib+j] z=true):J less a b (out++b.extract ib (ib+k)) ia (ib+k):=by
 unfold J at h ⊢;rw[Zdy hk] at h;rw[YK];refine h.takeB ?_ fun t ht z hz => ?_
 ·rw[<-Zdy hk];exact C.sb.sublist (WW _ _)
 ·obtain⟨j,hj,hj2,rfl⟩:=ZgU hk ht;exact hx j hj hj2 z hz
theorem J.pushA(C:AB less a b)(h:J less a b out ia ib)(hi:ia<a.size)(hx:∀z∈b.toList.drop ib,less a[ia] z=true):J less a b (out.push a[ia]) (ia+1) ib:=by
 unfold J at h ⊢;rw[drop_cons hi] at h;rw[WX];refine h.takeA ?_ fun t ht z hz => ?_
 ·rw[<-drop_cons hi];exact C.sa.sublist (WW _ _)
 ·rw[YA.mp ht];exact hx z hz
theorem J.pushB(C:AB less a b)(h:J less a b out ia ib)(hi:ib<b.size)(hx:∀z∈a.toList.drop ia,less b[ib] z=true):J less a b (out.push b[ib]) ia (ib+1):=by
 unfold J at h ⊢;rw[drop_cons hi] at h;rw[WX];refine h.takeB ?_ fun t ht z hz => ?_
 ·rw[<-drop_cons hi];exact C.sb.sublist (WW _ _)
 ·rw[YA.mp ht];exact hx z hz
theorem J.doneB(C:AB less a b)(h:J less a b out ia ib)(hb:ib=b.size):Rz less a b (out++a.extract ia a.size++b.extract ib b.size):=by
 subst hb;unfold Rz;rw[YK,YK,ZbG,ZbG,Ws];refine JL.fin h (List.Perm.refl _) ?_;rw[VP (as:=b.toList) (by simp),Qt];exact C.sa.sublist (WW _ _)
theorem J.doneA(C:AB less a b)(h:J less a b out ia ib)(hb:ia=a.size):Rz less a b (out++a.extract ia a.size++b.extract ib b.size):=by
 subst hb;unfold Rz;rw[YK,YK,ZbG,ZbG,Ws];refine JL.fin h (List.Perm.refl _) ?_;rw[VP (by simp),Vs];exact C.sb.sublist (WW _ _)
theorem J.last(C:AB less a b)(h:J less a b out ia ib)(hb:ia+1=a.size):Rz less a b (out++b.extract ib b.size++a.extract ia a.size):=by
 unfold Rz;rw[YK,YK,ZbG,ZbG,Ws];refine JL.fin h V1 (Y8.mpr ⟨C.sb.sublist (WW _ _),C.sa.sublist (WW _ _),fun y hy x hx => ?_⟩);obtain⟨j,h1,h2,rfl⟩:=Zeg hx;obtain rfl:j=a.size - 1:=by omega
 exact C.la y (List.mem_of_mem_drop hy)
theorem AB.all_a(C:AB less a b){y:Keyed}(hy:y∈a.toList++b.toList)(hi:ia<a.size)(h:less y a[ia]=true):∀z∈a.toList.drop ia,less y z=true:=by
 intro z hz;obtain⟨j,h1,h2,rfl⟩:=Zeg hz;by_cases e:j=ia
 ·subst e; exact h
 ·exact C.tr y hy a[ia] (by simp) a[j] (by simp) h (Zb9 C.sa (by omega) h2)
theorem AB.all_b(C:AB less a b){y:Keyed}(hy:y∈a.toList++b.toList)(hi:ib<b.size)(h:less y b[ib]=true):∀z∈b.toList.drop ib,less y z=true:=by
 intro z hz;obtain⟨j,h1,h2,rfl⟩:=Zeg hz;by_cases e:j=ib
 ·subst e; exact h
 ·exact C.tr y hy b[ib] (by simp) b[j] (by simp) h (Zb9 C.sb (by omega) h2)
end
section
variable{M:Model}{A:P3}{E:P6->P0->Prop}{s:P0}{less:Keyed->Keyed->Bool}{a b:Array Keyed}{st:SortSt}
theorem Zp{arr:Array Keyed}{i:Nat}{Q:Keyed->SortSt->Prop}(h:i<arr.size)(hq:Q arr[i] st):wpS M A E s (elem' arr i) Q st:=by
 rw[elem'_eq,Yt h];exact Yg hq
def HL(M:Model)(A:P3)(E:P6->P0->Prop)(s:P0)(κ:SortKind)(less:Keyed->Keyed->Bool)(xs:List Keyed):Prop:=∀x∈xs,∀y∈xs,∀(st:SortSt) (Q:Option Bool->SortSt->Prop),kindOf st=κ->Q (some (less x y)) st->wpS M A E s (lt' x y) Q st
theorem Zis{xs:List Keyed}{key:Keyed}{arr:Array Keyed}{base i:Nat}(H:HL M A E s (kindOf st) less xs)(hk:key∈xs)(hi:base+i<arr.size)(hx:arr[base+i]∈xs)(Q:Option Bool->SortSt->Prop)(h:Q (some (less arr[base+i] key)) st):wpS M A E s (Zbe true key arr base i) Q st:=by
 unfold Zbe;refine Yf (Zp hi ?_);rw[Yi rfl];exact H _ hx _ hk st _ rfl h
theorem Zjo{xs:List Keyed}{key:Keyed}{arr:Array Keyed}{base i:Nat}(H:HL M A E s (kindOf st) less xs)(hk:key∈xs)(hi:base+i<arr.size)(hx:arr[base+i]∈xs)(Q:Option Bool->SortSt->Prop)(h:Q (some (!less key arr[base+i])) st):wpS M A E s (Zbe false key arr base i) Q st:=by
 unfold Zbe;refine Yf (Zp hi ?_);rw[Yh (by simp)];refine Yf (H _ hk _ hx st _ rfl ?_);exact Yg h
theorem Zer{Q:Option Nat->SortSt->Prop}(C:AB less a b)(H:HL M A E s (kindOf st) less (a.toList++b.toList)){ia hint m:Nat}(hm:ia+m<=a.size)(hh:hint<m){y:Keyed}(hy:y∈b.toList)
  (h:∀k,k<=m->(∀i,i<k->∀hi:ia+i<a.size,less a[ia+i] y=true)->(∀i,k<=i->i<m->∀hi:ia+i<a.size,less y a[ia+i]=true)->Q (some k) st):wpS M A E s (ZaT false y a ia m hint) Q st:=by
 refine ZdF (B:=fun i=>if hi:ia+i<a.size then less a[ia+i] y else false) (fun i hi Q hq => ?_) (fun i j hij hj hb => ?_) hh fun k h1 h2 h3=>h k h1 (fun i hi hi2 => ?_) fun i h4 h5 hi2 => ?_
 ·have hi':ia+i<a.size:=by omega
  rw[Wv hi'] at hq;refine Zjo H (by simp[hy]) hi' (by simp) Q ?_;rw[C.ne _ (by simp) y hy,UG];exact hq
 ·have hj':ia+j<a.size:=by omega
  have hi':ia+i<a.size:=by omega
  rw[Wv hj'] at hb;rw[Wv hi'];by_cases e:i=j
  ·subst e; exact hb
  ·exact C.tr _ (by simp) _ (by simp) y (by simp[hy]) (Zb9 C.sa (by omega) hj') hb
 ·have:=h2 i hi;rw[Wv hi2] at this;exact this
 ·have:=h3 i h4 h5;rw[Wv hi2] at this;rw[C.ne _ (by simp) y hy,this];rfl
theorem ZbI{Q:Option Nat->SortSt->Prop}(C:AB less a b)(H:HL M A E s (kindOf st) less (a.toList++b.toList)){ib hint m:Nat}(hm:ib+m<=b.size)(hh:hint<m){x:Keyed}(hx:x∈a.toList)
  (h:∀k,k<=m->(∀i,i<k->∀hi:ib+i<b.size,less b[ib+i] x=true)->(∀i,k<=i->i<m->∀hi:ib+i<b.size,less x b[ib+i]=true)->Q (some k) st):wpS M A E s (ZaT true x b ib m hint) Q st:=by
 refine ZdF (B:=fun i=>if hi:ib+i<b.size then less b[ib+i] x else false) (fun i hi Q hq => ?_) (fun i j hij hj hb => ?_) hh fun k h1 h2 h3=>h k h1 (fun i hi hi2 => ?_) fun i h4 h5 hi2 => ?_
 ·have hi':ib+i<b.size:=by omega
  rw[Wv hi'] at hq;exact Zis H (by simp[hx]) hi' (by simp) Q hq
 ·have hj':ib+j<b.size:=by omega
  have hi':ib+i<b.size:=by omega
  rw[Wv hj'] at hb;rw[Wv hi'];by_cases e:i=j
  ·subst e; exact hb
  ·exact C.tr _ (by simp) _ (by simp) x (by simp[hx]) (Zb9 C.sb (by omega) hj') hb
 ·have:=h2 i hi;rw[Wv hi2] at this;exact this
 ·have:=h3 i h4 h5;rw[Wv hi2] at this;rw[C.ne x hx _ (by simp)] at this;simpa using this
end
section
variable{M:Model}{A:P3}{E:P6->P0->Prop}{s:P0}{less:Keyed->Keyed->Bool}{a b:Array Keyed}{st:SortSt}
theorem Zd{α:Type}{c:Prop}[Decidable c]{x y:StateT SortSt Sem α}{Q:α->SortSt->Prop}(h1:c->wpS M A E s x Q st)(h2:¬ c->wpS M A E s y Q st):wpS M A E s (if c then x else y) Q st:=by
 by_cases h:c
 ·rw[Yi h]; exact h1 h
 ·rw[Yh h]; exact h2 h
def In2(less:Keyed->Keyed->Bool)(a b:Array Keyed)(st:SortSt)(base:Nat)(c:Option (Array Keyed)×Array Keyed×Nat×Nat×Nat×Nat×Nat)(st':SortSt):Prop:=∃g out ia ib mg ac bc,st'=SG st g/\c=(none,out,ia,ib,mg,ac,bc)/\J less a b out ia ib/\ia+1<a.size/\ib<b.size/\base<=ia+ib
def Po2(less:Keyed->Keyed->Bool)(a b:Array Keyed)(st:SortSt)(base:Nat)(c:Option (Array Keyed)×Array Keyed×Nat×Nat×Nat×Nat×Nat)(st':SortSt):Prop:=(∃g r q,st'=SG st g/\c=(some r,q)/\Rz less a b r)\/In2 less a b st base c st'
def In1(less:Keyed->Keyed->Bool)(a b:Array Keyed)(st':SortSt)(base:Nat)(c:Option (Array Keyed)×Array Keyed×Nat×Nat×Nat×Nat)(st'':SortSt):Prop:=∃out ia ib ac bc,st''=st'/\c=(none,out,ia,ib,ac,bc)/\J less a b out ia ib/\ia+1<a.size/\ib<b.size/\base<=ia+ib
def Po1(less:Keyed->Keyed->Bool)(a b:Array Keyed)(st':SortSt)(base:Nat)(c:Option (Array Keyed)×Array Keyed×Nat×Nat×Nat×Nat)(st'':SortSt):Prop:=(∃r q,st''=st'/\c=(some r,q)/\Rz less a b r)\/In1 less a b st' base c st''
theorem ZnF{Q:Array Keyed->SortSt->Prop}(C:AB less a b)(H:HL M A E s (kindOf st) less (a.toList++b.toList))(hr:∀{Q':Unit->P0->Prop} (x:String),Q' () s->wpAny M A (rule x) Q' E s)(h:∀r g,Rz less a b r->Q r (SG st g)):wpS M A E s (ZfA a b) Q st:=by
 rw[Zpu];refine Yf (VW (hr _ ⟨rfl,?_⟩));have za:=C.za;have zb:=C.zb;refine Yf (Zp zb ?_);have j0:J less a b #[b[0]] 0 1:=by
  have:J less a b #[] 0 0:=⟨by simp,by simp,by simp⟩;exact J.pushB C this zb fun z hz=>C.fi z (List.mem_of_mem_drop hz)
 refine Zd (fun c=>Yg (h _ (gallopOf st) (j0.doneB C (by simpa using c)))) fun c => ?_;refine Zd (fun c'=>Yg (h _ (gallopOf st) (j0.last C (by simpa using c')))) fun c' => ?_;refine Yf (Qv ?_);have g1:0+1<a.size:=by simp at c'; omega
 have g2:1<b.size:=by simp at c; omega
 refine Yf (WG (Y5 (fun x c st' => ∃g out ia ib mg,st'=SG st g/\c=(none,out,ia,ib,mg)/\J less a b out ia ib/\ia+1<a.size/\ib<b.size/\x+1<=ia+ib)
  (Q:=fun c st' => ∃g r q,st'=SG st g/\c=(some r,q)/\Rz less a b r) ?_ ?_ ⟨gallopOf st,_,0,1,_,rfl,rfl,j0,g1,g2,by omega⟩) ?_)
 ·rintro x c st' _ hx ⟨g,out,ia,ib,mg,rfl,rfl,j,h1,h2,h3⟩;dsimp only;refine Yf (WG (Y5 (fun y c st'=>In1 less a b (SG st g) (ia+ib+y) c st') (Q:=fun c st'=>Po1 less a b (SG st g) (ia+ib+1) c st') ?_ ?_ ⟨_,_,_,_,_,rfl,rfl,j,h1,h2,by omega⟩) ?_)
  ·rintro y c st' _ hy ⟨out,ia',ib',ac,bc,rfl,rfl,j,h1,h2,h3⟩;dsimp only;refine Yf (Zp h2 ?_);refine Yf (Zp (by omega) ?_);refine Yf (H _ (by simp) _ (by simp) _ _ rfl ?_);dsimp only;refine Zd (fun e => ?_) fun e => ?_
   ·refine Yf (Zp h2 ?_);have jb:=J.pushB C j h2 (C.all_a (by simp) (by omega) e);refine Zd (fun c4=>Yg (.inl ⟨_,_,rfl,rfl,jb.doneB C (by simpa using c4)⟩)) fun c4 => ?_;have h2':ib' + 1<b.size:=by simp at c4; omega
    refine Zd (fun c5=>Yg (.inr ⟨_,_,_,_,_,rfl,rfl,jb,h1,h2',by omega⟩)) fun c5=>Yg ⟨_,_,_,_,_,rfl,rfl,jb,h1,h2',by omega⟩
   ·refine Yf (Zp (by omega) ?_);have e':less (a[ia']'(by omega)) b[ib']=true:=by
     have:=C.ne (a[ia']'(by omega)) (by simp) b[ib'] (by simp);rw[this] at e;simpa using e
    have ja:=J.pushA C j (by omega) (C.all_b (by simp) h2 e');refine Zd (fun c4=>Yg (.inl ⟨_,_,rfl,rfl,ja.last C (by simpa using c4)⟩)) fun c4 => ?_;have h1':ia' + 1+1<a.size:=by simp at c4; omega
    refine Zd (fun c5=>Yg (.inr ⟨_,_,_,_,_,rfl,rfl,ja,h1',h2,by omega⟩)) fun c5=>Yg ⟨_,_,_,_,_,rfl,rfl,ja,h1',h2,by omega⟩
  ·rintro c st' ⟨out,ia',ib',ac,bc,e1,e2,j,h1,h2,h3⟩;rw[Qo] at h3;exact .inr ⟨out,ia',ib',ac,bc,e1,e2,j,h1,h2,by omega⟩
  rintro c st' (⟨r,q,rfl,rfl,hz⟩ | ⟨out,ia',ib',ac,bc,rfl,rfl,j,h1,h2,h4⟩)
  ·exact Yg ⟨_,r,_,rfl,rfl,hz⟩
  dsimp only;refine Yf (VW (hr _ ⟨rfl,?_⟩));refine Yf (WG (Y5 (fun y c st'=>In2 less a b st (x+2) c st') (Q:=fun c st'=>Po2 less a b st (x+2) c st') ?_ ?_ ⟨g,_,_,_,_,_,_,rfl,rfl,j,h1,h2,by omega⟩) ?_)
  ·clear h4 h3 j h1 h2;rintro y c st' _ hy ⟨g,out,ia,ib,mg,ac,bc,rfl,rfl,j,h1,h2,h3⟩;dsimp only;refine Zd (fun c0 => ?_) fun c0 => ?_
   ·rw[Zcs];refine Yf (WA ?_);show wpS _ _ _ _ _ _ (SG st (mg - 1));refine Yf (Zp h2 ?_);refine Yf (Zer (st:=SG st (mg - 1)) C H (ia:=ia) (hint:=0) (m:=a.size - ia) (by omega) (by omega) (ZE h2) fun k k1 k2 k3 => ?_);dsimp only;refine Zd (fun c1 => ?_) fun c1 => ?_
    ·have ja:=j.takeA C (k:=k) (by omega) (fun i hi hi2 z hz=>C.all_b (by simp) h2 (k2 i hi hi2) z hz);refine Zd (fun c2=>Yg (.inl ⟨_,_,_,rfl,rfl,ja.last C (by simpa using c2)⟩)) fun c2 => ?_;refine Zd (fun c3=>Yg (.inl ⟨_,_,_,rfl,rfl,ja.doneA C (by simpa using c3)⟩)) fun c3 => ?_;have h1':ia+k+1<a.size:=by simp at c2 c3; omega
     have hz:∀z∈a.toList.drop (ia+k),less b[ib] z=true:=C.all_a (by simp) (by omega) (k3 k (Yj _) (by omega) (by omega));refine Yf (Zp h2 ?_);have jb:=J.pushB C ja h2 hz;refine Zd (fun c4=>Yg (.inl ⟨_,_,_,rfl,rfl,jb.doneB C (by simpa using c4)⟩)) fun c4 => ?_;have h2':ib+1<b.size:=by simp at c4; omega
     refine Yf (Zp (by omega) ?_);refine Yf (ZbI (st:=SG st (mg - 1)) C H (ib:=ib+1) (hint:=0) (m:=b.size - (ib+1)) (by omega) (by omega) (ZE (show ia+k<a.size by omega)) fun q q1 q2 q3 => ?_);dsimp only;refine Zd (fun c5 => ?_) fun c5 => ?_
     ·have jc:=jb.takeB C (k:=q) (by omega) (fun i hi hi2 z hz=>C.all_a (by simp) (show ia+k<a.size by omega) (q2 i hi hi2) z hz);refine Zd (fun c6=>Yg (.inl ⟨_,_,_,rfl,rfl,jc.doneB C (by simpa using c6)⟩)) fun c6 => ?_;have h2z:ib+1+q<b.size:=by simp at c6; omega
      have hy:∀z∈b.toList.drop (ib+1+q),less (a[ia+k]'(by omega)) z=true:=C.all_b (by simp) h2z (q3 q (Yj _) (by omega) h2z);refine Yf (Zp (by omega) ?_);have jd:=J.pushA C jc (show ia+k<a.size by omega) hy;refine Zd (fun c7=>Yg (.inl ⟨_,_,_,rfl,rfl,jd.last C (by simpa using c7)⟩)) fun c7 => ?_;have h1z:ia+k+1+1<a.size:=by simp at c7; omega
      refine Zd (fun c8=>Yg (.inr ⟨_,_,_,_,_,_,_,rfl,rfl,jd,h1z,by omega,by omega⟩)) fun c8 => ?_;exact Yg ⟨_,_,_,_,_,_,_,rfl,rfl,jd,h1z,by omega,by omega⟩
     ·obtain rfl:q=0:=by omega
      have hy:∀z∈b.toList.drop (ib+1),less (a[ia+k]'(by omega)) z=true:=C.all_b (by simp) h2' (q3 0 (Yj _) (by omega) h2');refine Yf (Zp (by omega) ?_);have jd:=J.pushA C jb (show ia+k<a.size by omega) hy;refine Zd (fun c7=>Yg (.inl ⟨_,_,_,rfl,rfl,jd.last C (by simpa using c7)⟩)) fun c7 => ?_;have h1z:ia+k+1+1<a.size:=by simp at c7; omega
      refine Zd (fun c8=>Yg (.inr ⟨_,_,_,_,_,_,_,rfl,rfl,jd,h1z,by omega,by omega⟩)) fun c8 => ?_;exact Yg ⟨_,_,_,_,_,_,_,rfl,rfl,jd,h1z,by omega,by omega⟩
    ·obtain rfl:k=0:=by omega
     have hz:∀z∈a.toList.drop ia,less b[ib] z=true:=C.all_a (by simp) (by omega) (k3 0 (Yj _) (by omega) (by omega));refine Yf (Zp h2 ?_);have jb:=J.pushB C j h2 hz;refine Zd (fun c4=>Yg (.inl ⟨_,_,_,rfl,rfl,jb.doneB C (by simpa using c4)⟩)) fun c4 => ?_;have h2':ib+1<b.size:=by simp at c4; omega
     refine Yf (Zp (by omega) ?_);refine Yf (ZbI (st:=SG st (mg - 1)) C H (ib:=ib+1) (hint:=0) (m:=b.size - (ib+1)) (by omega) (by omega) (ZE (show ia<a.size by omega)) fun q q1 q2 q3 => ?_);dsimp only;refine Zd (fun c5 => ?_) fun c5 => ?_
     ·have jc:=jb.takeB C (k:=q) (by omega) (fun i hi hi2 z hz=>C.all_a (by simp) (show ia<a.size by omega) (q2 i hi hi2) z hz);refine Zd (fun c6=>Yg (.inl ⟨_,_,_,rfl,rfl,jc.doneB C (by simpa using c6)⟩)) fun c6 => ?_;have h2z:ib+1+q<b.size:=by simp at c6; omega
      have hy:∀z∈b.toList.drop (ib+1+q),less (a[ia]'(by omega)) z=true:=C.all_b (by simp) h2z (q3 q (Yj _) (by omega) h2z);refine Yf (Zp (by omega) ?_);have jd:=J.pushA C jc (show ia<a.size by omega) hy;refine Zd (fun c7=>Yg (.inl ⟨_,_,_,rfl,rfl,jd.last C (by simpa using c7)⟩)) fun c7 => ?_;have h1z:ia+1+1<a.size:=by simp at c7; omega
      refine Zd (fun c8=>Yg (.inr ⟨_,_,_,_,_,_,_,rfl,rfl,jd,h1z,by omega,by omega⟩)) fun c8 => ?_;exact Yg ⟨_,_,_,_,_,_,_,rfl,rfl,jd,h1z,by omega,by omega⟩
     ·obtain rfl:q=0:=by omega
      have hy:∀z∈b.toList.drop (ib+1),less (a[ia]'(by omega)) z=true:=C.all_b (by simp) h2' (q3 0 (Yj _) (by omega) h2');refine Yf (Zp (by omega) ?_);have jd:=J.pushA C jb (show ia<a.size by omega) hy;refine Zd (fun c7=>Yg (.inl ⟨_,_,_,rfl,rfl,jd.last C (by simpa using c7)⟩)) fun c7 => ?_;have h1z:ia+1+1<a.size:=by simp at c7; omega
      refine Zd (fun c8=>Yg (.inr ⟨_,_,_,_,_,_,_,rfl,rfl,jd,h1z,by omega,by omega⟩)) fun c8 => ?_;exact Yg ⟨_,_,_,_,_,_,_,rfl,rfl,jd,h1z,by omega,by omega⟩
   ·rw[Zcs];refine Yf (WA ?_);show wpS _ _ _ _ _ _ (SG st mg);refine Yf (Zp h2 ?_);refine Yf (Zer (st:=SG st mg) C H (ia:=ia) (hint:=0) (m:=a.size - ia) (by omega) (by omega) (ZE h2) fun k k1 k2 k3 => ?_);dsimp only;refine Zd (fun c1 => ?_) fun c1 => ?_
    ·have ja:=j.takeA C (k:=k) (by omega) (fun i hi hi2 z hz=>C.all_b (by simp) h2 (k2 i hi hi2) z hz);refine Zd (fun c2=>Yg (.inl ⟨_,_,_,rfl,rfl,ja.last C (by simpa using c2)⟩)) fun c2 => ?_;refine Zd (fun c3=>Yg (.inl ⟨_,_,_,rfl,rfl,ja.doneA C (by simpa using c3)⟩)) fun c3 => ?_;have h1':ia+k+1<a.size:=by simp at c2 c3; omega
     have hz:∀z∈a.toList.drop (ia+k),less b[ib] z=true:=C.all_a (by simp) (by omega) (k3 k (Yj _) (by omega) (by omega));refine Yf (Zp h2 ?_);have jb:=J.pushB C ja h2 hz;refine Zd (fun c4=>Yg (.inl ⟨_,_,_,rfl,rfl,jb.doneB C (by simpa using c4)⟩)) fun c4 => ?_;have h2':ib+1<b.size:=by simp at c4; omega
     refine Yf (Zp (by omega) ?_);refine Yf (ZbI (st:=SG st mg) C H (ib:=ib+1) (hint:=0) (m:=b.size - (ib+1)) (by omega) (by omega) (ZE (show ia+k<a.size by omega)) fun q q1 q2 q3 => ?_);dsimp only;refine Zd (fun c5 => ?_) fun c5 => ?_
     ·have jc:=jb.takeB C (k:=q) (by omega) (fun i hi hi2 z hz=>C.all_a (by simp) (show ia+k<a.size by omega) (q2 i hi hi2) z hz);refine Zd (fun c6=>Yg (.inl ⟨_,_,_,rfl,rfl,jc.doneB C (by simpa using c6)⟩)) fun c6 => ?_;have h2z:ib+1+q<b.size:=by simp at c6; omega
      have hy:∀z∈b.toList.drop (ib+1+q),less (a[ia+k]'(by omega)) z=true:=C.all_b (by simp) h2z (q3 q (Yj _) (by omega) h2z);refine Yf (Zp (by omega) ?_);have jd:=J.pushA C jc (show ia+k<a.size by omega) hy;refine Zd (fun c7=>Yg (.inl ⟨_,_,_,rfl,rfl,jd.last C (by simpa using c7)⟩)) fun c7 => ?_;have h1z:ia+k+1+1<a.size:=by simp at c7; omega
      refine Zd (fun c8=>Yg (.inr ⟨_,_,_,_,_,_,_,rfl,rfl,jd,h1z,by omega,by omega⟩)) fun c8 => ?_;exact Yg ⟨_,_,_,_,_,_,_,rfl,rfl,jd,h1z,by omega,by omega⟩
     ·obtain rfl:q=0:=by omega
      have hy:∀z∈b.toList.drop (ib+1),less (a[ia+k]'(by omega)) z=true:=C.all_b (by simp) h2' (q3 0 (Yj _) (by omega) h2');refine Yf (Zp (by omega) ?_);have jd:=J.pushA C jb (show ia+k<a.size by omega) hy;refine Zd (fun c7=>Yg (.inl ⟨_,_,_,rfl,rfl,jd.last C (by simpa using c7)⟩)) fun c7 => ?_;have h1z:ia+k+1+1<a.size:=by simp at c7; omega
      refine Zd (fun c8=>Yg (.inr ⟨_,_,_,_,_,_,_,rfl,rfl,jd,h1z,by omega,by omega⟩)) fun c8 => ?_;exact Yg ⟨_,_,_,_,_,_,_,rfl,rfl,jd,h1z,by omega,by omega⟩
    ·obtain rfl:k=0:=by omega
     have hz:∀z∈a.toList.drop ia,less b[ib] z=true:=C.all_a (by simp) (by omega) (k3 0 (Yj _) (by omega) (by omega));refine Yf (Zp h2 ?_);have jb:=J.pushB C j h2 hz;refine Zd (fun c4=>Yg (.inl ⟨_,_,_,rfl,rfl,jb.doneB C (by simpa using c4)⟩)) fun c4 => ?_;have h2':ib+1<b.size:=by simp at c4; omega
     refine Yf (Zp (by omega) ?_);refine Yf (ZbI (st:=SG st mg) C H (ib:=ib+1) (hint:=0) (m:=b.size - (ib+1)) (by omega) (by omega) (ZE (show ia<a.size by omega)) fun q q1 q2 q3 => ?_);dsimp only;refine Zd (fun c5 => ?_) fun c5 => ?_
     ·have jc:=jb.takeB C (k:=q) (by omega) (fun i hi hi2 z hz=>C.all_a (by simp) (show ia<a.size by omega) (q2 i hi hi2) z hz);refine Zd (fun c6=>Yg (.inl ⟨_,_,_,rfl,rfl,jc.doneB C (by simpa using c6)⟩)) fun c6 => ?_;have h2z:ib+1+q<b.size:=by simp at c6; omega
      have hy:∀z∈b.toList.drop (ib+1+q),less (a[ia]'(by omega)) z=true:=C.all_b (by simp) h2z (q3 q (Yj _) (by omega) h2z);refine Yf (Zp (by omega) ?_);have jd:=J.pushA C jc (show ia<a.size by omega) hy;refine Zd (fun c7=>Yg (.inl ⟨_,_,_,rfl,rfl,jd.last C (by simpa using c7)⟩)) fun c7 => ?_;have h1z:ia+1+1<a.size:=by simp at c7; omega
      refine Zd (fun c8=>Yg (.inr ⟨_,_,_,_,_,_,_,rfl,rfl,jd,h1z,by omega,by omega⟩)) fun c8 => ?_;exact Yg ⟨_,_,_,_,_,_,_,rfl,rfl,jd,h1z,by omega,by omega⟩
     ·obtain rfl:q=0:=by omega
      have hy:∀z∈b.toList.drop (ib+1),less (a[ia]'(by omega)) z=true:=C.all_b (by simp) h2' (q3 0 (Yj _) (by omega) h2');refine Yf (Zp (by omega) ?_);have jd:=J.pushA C jb (show ia<a.size by omega) hy;refine Zd (fun c7=>Yg (.inl ⟨_,_,_,rfl,rfl,jd.last C (by simpa using c7)⟩)) fun c7 => ?_;have h1z:ia+1+1<a.size:=by simp at c7; omega
      refine Zd (fun c8=>Yg (.inr ⟨_,_,_,_,_,_,_,rfl,rfl,jd,h1z,by omega,by omega⟩)) fun c8 => ?_;exact Yg ⟨_,_,_,_,_,_,_,rfl,rfl,jd,h1z,by omega,by omega⟩
  ·rintro c st' hI;exact .inr hI
  rintro c st' (⟨g,r,q,rfl,rfl,hz⟩ | ⟨g,out,ia,ib,mg,ac,bc,rfl,rfl,j,h1,h2,h3⟩)
  ·exact Yg ⟨_,r,_,rfl,rfl,hz⟩
  dsimp only;rw[Zcs];refine Yf (WA ?_);exact Yg ⟨_,_,_,_,_,rfl,rfl,j,h1,h2,by omega⟩
 ·rintro c st' ⟨g,out,ia,ib,mg,rfl,rfl,j,h1,h2,h3⟩;rw[Qo] at h3;omega
 ·rintro c st' ⟨g,r,q,rfl,rfl,hz⟩;exact Yg (h r g hz)
end
end TS
end
section
namespace TS
open PySem PyProof.Rows
def ZfW:Array Keyed->Array Keyed->StateT SortSt Sem (Array Keyed):=sortPriv% PySem.Builtin.mergeHi
theorem ZkM(a b:Array Keyed):ZfW a b=(do
 rule "list.sort.merge-hi"
 let total:=a.size+b.size
 let done (out:Array Keyed) (na nb:Nat):=a.extract 0 na++b.extract 0 nb++out.reverse
 let firstOfB (out:Array Keyed) (na nb:Nat):=b.extract 0 nb++a.extract 0 na++out.reverse
 let mut na:=a.size - 1
 let mut nb:=b.size
 let mut out:Array Keyed:=#[<-elem' a na]
 if na == 0 then return done out na nb
 if nb == 1 then return firstOfB out na nb
 let mut minGallop:=gallopOf (<-get)
 for _ in [0:total] do
  let mut acount:=0
  let mut bcount:=0
  for _ in [0:total] do
   let some aWins <-lt' (<-elem' b (nb - 1)) (<-elem' a (na - 1)) | return done out na nb
   if aWins then
    na:=na - 1; out:=out.push (<-elem' a na); acount:=acount+1; bcount:=0
    if na == 0 then return done out na nb
    if acount ≥ minGallop then break
   else
    nb:=nb - 1; out:=out.push (<-elem' b nb); bcount:=bcount+1; acount:=0
    if nb == 1 then return firstOfB out na nb
    if bcount ≥ minGallop then break
  rule "list.sort.gallop"
  minGallop:=minGallop+1
  for _ in [0:total] do
   if minGallop > 1 then minGallop:=minGallop - 1
   setG minGallop
   let some at_ <-ZaT false (<-elem' b (nb - 1)) a 0 na (na - 1) | return done out na nb
   let k:=na - at_
   acount:=k
   if k > 0 then
    out:=out++(a.extract at_ na).reverse; na:=at_
    if na == 0 then return done out na nb
   nb:=nb - 1; out:=out.push (<-elem' b nb)
   if nb == 1 then return firstOfB out na nb
   let some at_ <-ZaT true (<-elem' a (na - 1)) b 0 nb (nb - 1) | return done out na nb
   let k:=nb - at_
   bcount:=k
   if k > 0 then
    out:=out++(b.extract at_ nb).reverse; nb:=at_
    if nb == 1 then return firstOfB out na nb
    if nb == 0 then return done out na nb
   na:=na - 1; out:=out.push (<-elem' a na)
   if na == 0 then return done out na nb
   if acount<7 && bcount<7 then break
  minGallop:=minGallop+1
  setG minGallop
 unsupported "internal:list.sort.merge-bound"):=rfl
def JH(less:Keyed->Keyed->Bool)(a b out:Array Keyed)(na nb:Nat):Prop:=JL (fun x y=>less y x=true) (a.toList++b.toList) out.toList (a.toList.take na).reverse (b.toList.take nb).reverse
section
variable{less:Keyed->Keyed->Bool}{a b out:Array Keyed}{na nb:Nat}
theorem take_cons{x:Array Keyed}{n:Nat}(h:n<x.size):(x.toList.take (n+1)).reverse=[x[n]]++(x.toList.take n).reverse:=by
 rw[VX (by simpa using h)];simp
theorem ZdQ{x:Array Keyed}{i n:Nat}(h:i<=n)(hn:n<=x.size):(x.toList.take n).reverse=(x.extract i n).reverse.toList++(x.toList.take i).reverse:=by
 rw[QH,Qe,List.extract_eq_drop_take,<-List.reverse_append];congr 1;obtain⟨k,rfl⟩:∃k,n=i+k:=⟨n - i,by omega⟩;rw[show i+k - i=k by omega,List.take_add]
theorem Zca{x:Array Keyed}{n:Nat}:(x.extract 0 n).toList=x.toList.take n:=by
 rw[Qe,List.extract_eq_drop_take];simp
theorem Zdv{x:Array Keyed}{n:Nat}{z:Keyed}(h:z∈(x.toList.take n).reverse):∃j,j<n/\∃hj:j<x.size,z=x[j]:=by
 rw[QO] at h;obtain⟨j,hj,rfl⟩:=Qf.mp h;rw[WL] at hj;refine⟨j,by omega,by simp at hj; omega,?_⟩;rw[List.getElem_take];simp
theorem Zi7{x:Array Keyed}{i n:Nat}{z:Keyed}(hk:n<=x.size)(h:z∈(x.extract i n).reverse.toList):∃j,i<=j/\j<n/\∃hj:j<x.size,z=x[j]:=by
 rw[QH,QO] at h;obtain⟨j,hj,rfl⟩:=Qf.mp h;have hj':j<n - i:=by simp at hj; omega
 exact⟨i+j,by omega,by omega,by omega,by simp⟩
theorem Zd1{x:Array Keyed}(h:x.toList.Pairwise (fun x y=>less x y=true))(n:Nat):(x.toList.take n).reverse.Pairwise (fun x y=>less y x=true):=V2.mpr (h.sublist (QB _ _))
theorem JH.takeA(C:AB less a b)(h:JH less a b out na nb){i:Nat}(hi:i<=na)(hn:na<=a.size)(hx:∀j,i<=j->j<na->∀hj:j<a.size,∀z∈(b.toList.take nb).reverse,less z a[j]=true):JH less a b (out++(a.extract i na).reverse) i nb:=by
 unfold JH at h ⊢;rw[ZdQ hi hn] at h;rw[YK];refine h.takeA ?_ fun t ht z hz => ?_
 ·rw[<-ZdQ hi hn];exact Zd1 C.sa _
 ·obtain⟨j,h1,h2,h3,rfl⟩:=Zi7 hn ht;exact hx j h1 h2 h3 z hz
theorem JH.takeB(C:AB less a b)(h:JH less a b out na nb){i:Nat}(hi:i<=nb)(hn:nb<=b.size)(hx:∀j,i<=j->j<nb->∀hj:j<b.size,∀z∈(a.toList.take na).reverse,less z b[j]=true):JH less a b (out++(b.extract i nb).reverse) na i:=by
 unfold JH at h ⊢;rw[ZdQ hi hn] at h;rw[YK];refine h.takeB ?_ fun t ht z hz => ?_
 ·rw[<-ZdQ hi hn];exact Zd1 C.sb _
 ·obtain⟨j,h1,h2,h3,rfl⟩:=Zi7 hn ht;exact hx j h1 h2 h3 z hz
theorem JH.pushA(C:AB less a b){m:Nat}(h:JH less a b out (m+1) nb)(hi:m<a.size)(hx:∀z∈(b.toList.take nb).reverse,less z a[m]=true):JH less a b (out.push a[m]) m nb:=by
 unfold JH at h ⊢;rw[take_cons hi] at h;rw[WX];refine h.takeA ?_ fun t ht z hz => ?_
 ·rw[<-take_cons hi];exact Zd1 C.sa _
 ·rw[YA.mp ht];exact hx z hz
theorem JH.pushB(C:AB less a b){m:Nat}(h:JH less a b out na (m+1))(hi:m<b.size)(hx:∀z∈(a.toList.take na).reverse,less z b[m]=true):JH less a b (out.push b[m]) na m:=by
 unfold JH at h ⊢;rw[take_cons hi] at h;rw[WX];refine h.takeB ?_ fun t ht z hz => ?_
 ·rw[<-take_cons hi];exact Zd1 C.sb _
 ·rw[YA.mp ht];exact hx z hz
theorem JH.close(h:JH less a b out na nb){X:List Keyed}(hX:X.Perm (a.toList.take na++b.toList.take nb))(hp:X.Pairwise (fun x y=>less x y=true)):(X++out.toList.reverse).Perm (a.toList++b.toList)/\(X++out.toList.reverse).Pairwise (fun x y=>less x y=true):=by
 have:=JL.fin h (X:=X.reverse) ((QD X).trans (hX.trans ((List.Perm.append (QD _) (QD _)).symm))) (V2.mpr hp);rw[show X++out.toList.reverse=(out.toList++X.reverse).reverse by simp];exact⟨(QD _).trans this.1,V2.mpr this.2⟩
theorem JH.doneA(C:AB less a b)(h:JH less a b out na nb)(hb:na=0):Rz less a b (a.extract 0 na++b.extract 0 nb++out.reverse):=by
 subst hb;unfold Rz;rw[YK,YK,Zca,Zca,QH];refine h.close (List.Perm.refl _) ?_;rw[VA,Vs];exact C.sb.sublist (QB _ _)
theorem JH.doneB(C:AB less a b)(h:JH less a b out na nb)(hb:nb=0):Rz less a b (a.extract 0 na++b.extract 0 nb++out.reverse):=by
 subst hb;unfold Rz;rw[YK,YK,Zca,Zca,QH];refine h.close (List.Perm.refl _) ?_;rw[VA,Qt];exact C.sa.sublist (QB _ _)
theorem JH.first(C:AB less a b)(h:JH less a b out na nb)(hb:nb=1):Rz less a b (b.extract 0 nb++a.extract 0 na++out.reverse):=by
 subst hb;unfold Rz;rw[YK,YK,Zca,Zca,QH];refine h.close V1 (Y8.mpr ⟨C.sb.sublist (QB _ _),C.sa.sublist (QB _ _),fun y hy x hx => ?_⟩);obtain⟨j,h1,h2,rfl⟩:=Zdv (QO.mpr hy);obtain rfl:j=0:=by omega
 exact C.fi x (List.mem_of_mem_take hx)
theorem AB.all_a'(C:AB less a b){y:Keyed}(hy:y∈a.toList++b.toList){m:Nat}(hi:m<a.size)(h:less a[m] y=true):∀z∈(a.toList.take (m+1)).reverse,less z y=true:=by
 intro z hz;obtain⟨j,h1,h2,rfl⟩:=Zdv hz;by_cases e:j=m
 ·subst e; exact h
 ·exact C.tr a[j] (by simp) a[m] (by simp) y hy (Zb9 C.sa (by omega) hi) h
theorem AB.all_b'(C:AB less a b){y:Keyed}(hy:y∈a.toList++b.toList){m:Nat}(hi:m<b.size)(h:less b[m] y=true):∀z∈(b.toList.take (m+1)).reverse,less z y=true:=by
 intro z hz;obtain⟨j,h1,h2,rfl⟩:=Zdv hz;by_cases e:j=m
 ·subst e; exact h
 ·exact C.tr b[j] (by simp) b[m] (by simp) y hy (Zb9 C.sb (by omega) hi) h
end
section
variable{M:Model}{A:P3}{E:P6->P0->Prop}{s:P0}{less:Keyed->Keyed->Bool}{a b:Array Keyed}{st:SortSt}
def Hn2(less:Keyed->Keyed->Bool)(a b:Array Keyed)(st:SortSt)(base:Nat)(c:Option (Array Keyed)×Nat×Nat×Array Keyed×Nat×Nat×Nat)(st':SortSt):Prop:=∃g out na nb mg ac bc,st'=SG st g/\c=(none,na,nb,out,mg,ac,bc)/\JH less a b out na nb/\0<na/\1<nb/\na<=a.size/\nb<=b.size/\na+nb+base<=a.size+b.size
def Ho2(less:Keyed->Keyed->Bool)(a b:Array Keyed)(st:SortSt)(base:Nat)(c:Option (Array Keyed)×Nat×Nat×Array Keyed×Nat×Nat×Nat)(st':SortSt):Prop:=(∃g r q,st'=SG st g/\c=(some r,q)/\Rz less a b r)\/Hn2 less a b st base c st'
def Hn1(less:Keyed->Keyed->Bool)(a b:Array Keyed)(st':SortSt)(base:Nat)(c:Option (Array Keyed)×Nat×Nat×Array Keyed×Nat×Nat)(st'':SortSt):Prop:=∃out na nb ac bc,st''=st'/\c=(none,na,nb,out,ac,bc)/\JH less a b out na nb/\0<na/\1<nb/\na<=a.size/\nb<=b.size/\na+nb+base<=a.size+b.size
def Ho1(less:Keyed->Keyed->Bool)(a b:Array Keyed)(st':SortSt)(base:Nat)(c:Option (Array Keyed)×Nat×Nat×Array Keyed×Nat×Nat)(st'':SortSt):Prop:=(∃r q,st''=st'/\c=(some r,q)/\Rz less a b r)\/Hn1 less a b st' base c st''
theorem ZnN{Q:Array Keyed->SortSt->Prop}(C:AB less a b)(H:HL M A E s (kindOf st) less (a.toList++b.toList))(hr:∀{Q':Unit->P0->Prop} (x:String),Q' () s->wpAny M A (rule x) Q' E s)(h:∀r g,Rz less a b r->Q r (SG st g)):wpS M A E s (ZfW a b) Q st:=by
 rw[ZkM];refine Yf (VW (hr _ ⟨rfl,?_⟩));have za:=C.za;have zb:=C.zb;obtain⟨n,hn⟩:∃n,a.size=n+1:=⟨a.size - 1,by omega⟩;have hn':a.size - 1=n:=by omega
 dsimp only;refine Yf (Zp (show a.size - 1<a.size by omega) ?_);have j0:JH less a b #[a[a.size - 1]'(by omega)] (a.size - 1) b.size:=by
  have e:JH less a b #[] a.size b.size:=by
   refine⟨?_,by simp,by simp⟩;rw[<-YO,QN,<-YO (xs:=b),QN];simpa using (List.Perm.append (QD _) (QD _))
  have e2:JH less a b #[] (a.size - 1+1) b.size:=by rw[show a.size - 1+1=a.size by omega]; exact e
  exact JH.pushA C e2 (show a.size - 1<a.size by omega) fun z hz=>C.la z (List.mem_of_mem_take (QO.mp hz))
 refine Zd (fun c=>Yg (h _ (gallopOf st) (j0.doneA C (by simpa using c)))) fun c => ?_;refine Zd (fun c'=>Yg (h _ (gallopOf st) (j0.first C (by simpa using c')))) fun c' => ?_;refine Yf (Qv ?_);have g1:0<a.size - 1:=by simp at c; omega
 have g2:1<b.size:=by simp at c'; omega
 refine Yf (WG (Y5 (fun x c st' => ∃g out na nb mg,st'=SG st g/\c=(none,na,nb,out,mg)/\JH less a b out na nb/\0<na/\1<nb/\na<=a.size/\nb<=b.size/\na+nb+(x+1)<=a.size+b.size)
  (Q:=fun c st' => ∃g r q,st'=SG st g/\c=(some r,q)/\Rz less a b r) ?_ ?_ ⟨gallopOf st,_,_,_,_,rfl,rfl,j0,g1,g2,by omega,by omega,by omega⟩) ?_)
 ·rintro x c st' _ hx ⟨g,out,na,nb,mg,rfl,rfl,j,h1,h2,h5,h6,h3⟩;dsimp only;refine Yf (WG (Y5 (fun y c st'=>Hn1 less a b (SG st g) (x+1+y) c st') (Q:=fun c st'=>Ho1 less a b (SG st g) (x+2) c st') ?_ ?_ ⟨_,_,_,_,_,rfl,rfl,j,h1,h2,h5,h6,by omega⟩) ?_)
  ·clear j h1 h2 h5 h6 h3;rintro y c st' _ hy ⟨out,na',nb',ac,bc,rfl,rfl,j,h1,h2,h5,h6,h3⟩;obtain⟨p,rfl⟩:∃p,na'=p+1:=⟨na' - 1,by omega⟩;obtain⟨q,rfl⟩:∃q,nb'=q+1:=⟨nb' - 1,by omega⟩;dsimp only;show wpS _ _ _ _ (elem' b q >>= _) _ _;refine Yf (Zp (show q<b.size by omega) ?_);show wpS _ _ _ _ (elem' a p >>= _) _ _;refine Yf (Zp (show p<a.size by omega) ?_);refine Yf (H _ (by simp) _ (by simp) _ _ rfl ?_);dsimp only;refine Zd (fun e => ?_) fun e => ?_
   ·show wpS _ _ _ _ (elem' a p >>= _) _ _;refine Yf (Zp (show p<a.size by omega) ?_);have ja:=JH.pushA C j (show p<a.size by omega) (C.all_b' (by simp) (show q<b.size by omega) e);refine Zd (fun c4=>Yg (.inl ⟨_,_,rfl,rfl,ja.doneA C (by simpa using c4)⟩)) fun c4 => ?_;have h1':0<p:=by simp at c4; omega
    refine Zd (fun c5=>Yg (.inr ⟨_,_,_,_,_,rfl,rfl,ja,h1',h2,by omega,by omega,by omega⟩)) fun c5=>Yg ⟨_,_,_,_,_,rfl,rfl,ja,h1',h2,by omega,by omega,by omega⟩
   ·show wpS _ _ _ _ (elem' b q >>= _) _ _;refine Yf (Zp (show q<b.size by omega) ?_);have e':less (a[p]'(by omega)) (b[q]'(by omega))=true:=by
     have:=C.ne (a[p]'(by omega)) (by simp) (b[q]'(by omega)) (by simp);rw[this] at e;simpa using e
    have jb:=JH.pushB C j (show q<b.size by omega) (C.all_a' (by simp) (show p<a.size by omega) e');refine Zd (fun c4=>Yg (.inl ⟨_,_,rfl,rfl,jb.first C (by simpa using c4)⟩)) fun c4 => ?_;have h2':1<q:=by simp at c4; omega
    refine Zd (fun c5=>Yg (.inr ⟨_,_,_,_,_,rfl,rfl,jb,h1,h2',by omega,by omega,by omega⟩)) fun c5=>Yg ⟨_,_,_,_,_,rfl,rfl,jb,h1,h2',by omega,by omega,by omega⟩
  ·rintro c st' ⟨out,na',nb',ac,bc,e1,e2,j,h1,h2,h5,h6,h3⟩;rw[Qo] at h3;exact .inr ⟨out,na',nb',ac,bc,e1,e2,j,h1,h2,h5,h6,by omega⟩
  clear j h1 h2 h5 h6 h3;rintro c st' (⟨r,q,rfl,rfl,hz⟩ | ⟨out,na,nb,ac,bc,rfl,rfl,j,h1,h2,h5,h6,h4⟩)
  ·exact Yg ⟨_,r,_,rfl,rfl,hz⟩
  dsimp only;refine Yf (VW (hr _ ⟨rfl,?_⟩));refine Yf (WG (Y5 (fun y c st'=>Hn2 less a b st (x+2) c st') (Q:=fun c st'=>Ho2 less a b st (x+2) c st') ?_ ?_ ⟨g,_,_,_,_,_,_,rfl,rfl,j,h1,h2,h5,h6,by omega⟩) ?_)
  ·clear h4 j h1 h2 h5 h6;rintro y c st' _ hy ⟨g,out,na,nb,mg,ac,bc,rfl,rfl,j,h1,h2,h5,h6,h3⟩;obtain⟨p,rfl⟩:∃p,na=p+1:=⟨na - 1,by omega⟩;obtain⟨q,rfl⟩:∃q,nb=q+1+1:=⟨nb - 2,by omega⟩;dsimp only;refine Zd (fun c0 => ?_) fun c0 => ?_
   ·rw[Zcs];refine Yf (WA ?_);show wpS _ _ _ _ _ _ (SG st (mg - 1));show wpS _ _ _ _ (elem' b (q+1) >>= _) _ _;refine Yf (Zp (show q+1<b.size by omega) ?_);refine Yf (Zer (st:=SG st (mg - 1)) C H (ia:=0) (hint:=p+1 - 1) (m:=p+1) (by omega) (by omega) (ZE (show q+1<b.size by omega)) fun at_ k1 k2 k3 => ?_);dsimp only;refine Zd (fun c1 => ?_) fun c1 => ?_
    ·have ja:=j.takeA C (i:=at_) k1 (by omega) (fun i hi hi2 hi3 z hz=>C.all_b' (by simp) (show q+1<b.size by omega) (by have:=k3 i hi hi2 (by omega); simpa using this) z hz);refine Zd (fun c3=>Yg (.inl ⟨_,_,_,rfl,rfl,ja.doneA C (by simpa using c3)⟩)) fun c3 => ?_;obtain⟨v,rfl⟩:∃v,at_=v+1:=⟨at_ - 1,by simp at c3; omega⟩;have hz:∀z∈(a.toList.take (v+1)).reverse,less z (b[q+1]'(by omega))=true:=C.all_a' (by simp) (show v<a.size by omega) (by have:=k2 v (by omega) (by omega); simpa using this);show wpS _ _ _ _ (elem' b (q+1) >>= _) _ _;refine Yf (Zp (show q+1<b.size by omega) ?_);have jb:=JH.pushB C ja (show q+1<b.size by omega) hz;refine Zd (fun c4=>Yg (.inl ⟨_,_,_,rfl,rfl,jb.first C (by simpa using c4)⟩)) fun c4 => ?_;have h2':0<q:=by simp at c4; omega
     show wpS _ _ _ _ (elem' a (v) >>= _) _ _;refine Yf (Zp (show v<a.size by omega) ?_);refine Yf (ZbI (st:=SG st (mg - 1)) C H (ib:=0) (hint:=q+1 - 1) (m:=q+1) (by omega) (by omega) (ZE (show v<a.size by omega)) fun at2 r1 r2 r3 => ?_);dsimp only;refine Zd (fun c5 => ?_) fun c5 => ?_
     ·have jc:=jb.takeB C (i:=at2) r1 (by omega) (fun i hi hi2 hi3 z hz=>C.all_a' (by simp) (show v<a.size by omega) (by have:=r3 i hi hi2 (by omega); simpa using this) z hz);refine Zd (fun c6=>Yg (.inl ⟨_,_,_,rfl,rfl,jc.first C (by simpa using c6)⟩)) fun c6 => ?_;refine Zd (fun c9=>Yg (.inl ⟨_,_,_,rfl,rfl,jc.doneB C (by simpa using c9)⟩)) fun c9 => ?_;have h2z:1<at2:=by simp at c6 c9; omega
      obtain⟨u,rfl⟩:∃u,at2=u+1:=⟨at2 - 1,by omega⟩;have hy:∀z∈(b.toList.take (u+1)).reverse,less z (a[v]'(by omega))=true:=C.all_b' (by simp) (show u<b.size by omega) (by have:=r2 u (by omega) (by omega); simpa using this);refine Yf (Zp (show v<a.size by omega) ?_);have jd:=JH.pushA C jc (show v<a.size by omega) hy;refine Zd (fun c7=>Yg (.inl ⟨_,_,_,rfl,rfl,jd.doneA C (by simpa using c7)⟩)) fun c7 => ?_;have h1z:0<v:=by simp at c7; omega
      refine Zd (fun c8=>Yg (.inr ⟨_,_,_,_,_,_,_,rfl,rfl,jd,h1z,by omega,by omega,by omega,by omega⟩)) fun c8 => ?_;exact Yg ⟨_,_,_,_,_,_,_,rfl,rfl,jd,h1z,by omega,by omega,by omega,by omega⟩
     ·obtain rfl:at2=q+1:=by omega
      have hy:∀z∈(b.toList.take (q+1)).reverse,less z (a[v]'(by omega))=true:=C.all_b' (by simp) (show q<b.size by omega) (by have:=r2 q (by omega) (by omega); simpa using this);refine Yf (Zp (show v<a.size by omega) ?_);have jd:=JH.pushA C jb (show v<a.size by omega) hy;refine Zd (fun c7=>Yg (.inl ⟨_,_,_,rfl,rfl,jd.doneA C (by simpa using c7)⟩)) fun c7 => ?_;have h1z:0<v:=by simp at c7; omega
      refine Zd (fun c8=>Yg (.inr ⟨_,_,_,_,_,_,_,rfl,rfl,jd,h1z,by omega,by omega,by omega,by omega⟩)) fun c8 => ?_;exact Yg ⟨_,_,_,_,_,_,_,rfl,rfl,jd,h1z,by omega,by omega,by omega,by omega⟩
    ·obtain rfl:at_=p+1:=by omega
     have hz:∀z∈(a.toList.take (p+1)).reverse,less z (b[q+1]'(by omega))=true:=C.all_a' (by simp) (show p<a.size by omega) (by have:=k2 p (by omega) (by omega); simpa using this);show wpS _ _ _ _ (elem' b (q+1) >>= _) _ _;refine Yf (Zp (show q+1<b.size by omega) ?_);have jb:=JH.pushB C j (show q+1<b.size by omega) hz;refine Zd (fun c4=>Yg (.inl ⟨_,_,_,rfl,rfl,jb.first C (by simpa using c4)⟩)) fun c4 => ?_;have h2':0<q:=by simp at c4; omega
     show wpS _ _ _ _ (elem' a (p) >>= _) _ _;refine Yf (Zp (show p<a.size by omega) ?_);refine Yf (ZbI (st:=SG st (mg - 1)) C H (ib:=0) (hint:=q+1 - 1) (m:=q+1) (by omega) (by omega) (ZE (show p<a.size by omega)) fun at2 r1 r2 r3 => ?_);dsimp only;refine Zd (fun c5 => ?_) fun c5 => ?_
     ·have jc:=jb.takeB C (i:=at2) r1 (by omega) (fun i hi hi2 hi3 z hz=>C.all_a' (by simp) (show p<a.size by omega) (by have:=r3 i hi hi2 (by omega); simpa using this) z hz);refine Zd (fun c6=>Yg (.inl ⟨_,_,_,rfl,rfl,jc.first C (by simpa using c6)⟩)) fun c6 => ?_;refine Zd (fun c9=>Yg (.inl ⟨_,_,_,rfl,rfl,jc.doneB C (by simpa using c9)⟩)) fun c9 => ?_;have h2z:1<at2:=by simp at c6 c9; omega
      obtain⟨u,rfl⟩:∃u,at2=u+1:=⟨at2 - 1,by omega⟩;have hy:∀z∈(b.toList.take (u+1)).reverse,less z (a[p]'(by omega))=true:=C.all_b' (by simp) (show u<b.size by omega) (by have:=r2 u (by omega) (by omega); simpa using this);refine Yf (Zp (show p<a.size by omega) ?_);have jd:=JH.pushA C jc (show p<a.size by omega) hy;refine Zd (fun c7=>Yg (.inl ⟨_,_,_,rfl,rfl,jd.doneA C (by simpa using c7)⟩)) fun c7 => ?_;have h1z:0<p:=by simp at c7; omega
      refine Zd (fun c8=>Yg (.inr ⟨_,_,_,_,_,_,_,rfl,rfl,jd,h1z,by omega,by omega,by omega,by omega⟩)) fun c8 => ?_;exact Yg ⟨_,_,_,_,_,_,_,rfl,rfl,jd,h1z,by omega,by omega,by omega,by omega⟩
     ·obtain rfl:at2=q+1:=by omega
      have hy:∀z∈(b.toList.take (q+1)).reverse,less z (a[p]'(by omega))=true:=C.all_b' (by simp) (show q<b.size by omega) (by have:=r2 q (by omega) (by omega); simpa using this);refine Yf (Zp (show p<a.size by omega) ?_);have jd:=JH.pushA C jb (show p<a.size by omega) hy;refine Zd (fun c7=>Yg (.inl ⟨_,_,_,rfl,rfl,jd.doneA C (by simpa using c7)⟩)) fun c7 => ?_;have h1z:0<p:=by simp at c7; omega
      refine Zd (fun c8=>Yg (.inr ⟨_,_,_,_,_,_,_,rfl,rfl,jd,h1z,by omega,by omega,by omega,by omega⟩)) fun c8 => ?_;exact Yg ⟨_,_,_,_,_,_,_,rfl,rfl,jd,h1z,by omega,by omega,by omega,by omega⟩
   ·rw[Zcs];refine Yf (WA ?_);show wpS _ _ _ _ _ _ (SG st mg);show wpS _ _ _ _ (elem' b (q+1) >>= _) _ _;refine Yf (Zp (show q+1<b.size by omega) ?_);refine Yf (Zer (st:=SG st mg) C H (ia:=0) (hint:=p+1 - 1) (m:=p+1) (by omega) (by omega) (ZE (show q+1<b.size by omega)) fun at_ k1 k2 k3 => ?_);dsimp only;refine Zd (fun c1 => ?_) fun c1 => ?_
    ·have ja:=j.takeA C (i:=at_) k1 (by omega) (fun i hi hi2 hi3 z hz=>C.all_b' (by simp) (show q+1<b.size by omega) (by have:=k3 i hi hi2 (by omega); simpa using this) z hz);refine Zd (fun c3=>Yg (.inl ⟨_,_,_,rfl,rfl,ja.doneA C (by simpa using c3)⟩)) fun c3 => ?_;obtain⟨v,rfl⟩:∃v,at_=v+1:=⟨at_ - 1,by simp at c3; omega⟩;have hz:∀z∈(a.toList.take (v+1)).reverse,less z (b[q+1]'(by omega))=true:=C.all_a' (by simp) (show v<a.size by omega) (by have:=k2 v (by omega) (by omega); simpa using this);show wpS _ _ _ _ (elem' b (q+1) >>= _) _ _;refine Yf (Zp (show q+1<b.size by omega) ?_);have jb:=JH.pushB C ja (show q+1<b.size by omega) hz;refine Zd (fun c4=>Yg (.inl ⟨_,_,_,rfl,rfl,jb.first C (by simpa using c4)⟩)) fun c4 => ?_;have h2':0<q:=by simp at c4; omega
     show wpS _ _ _ _ (elem' a (v) >>= _) _ _;refine Yf (Zp (show v<a.size by omega) ?_);refine Yf (ZbI (st:=SG st mg) C H (ib:=0) (hint:=q+1 - 1) (m:=q+1) (by omega) (by omega) (ZE (show v<a.size by omega)) fun at2 r1 r2 r3 => ?_);dsimp only;refine Zd (fun c5 => ?_) fun c5 => ?_
     ·have jc:=jb.takeB C (i:=at2) r1 (by omega) (fun i hi hi2 hi3 z hz=>C.all_a' (by simp) (show v<a.size by omega) (by have:=r3 i hi hi2 (by omega); simpa using this) z hz);refine Zd (fun c6=>Yg (.inl ⟨_,_,_,rfl,rfl,jc.first C (by simpa using c6)⟩)) fun c6 => ?_;refine Zd (fun c9=>Yg (.inl ⟨_,_,_,rfl,rfl,jc.doneB C (by simpa using c9)⟩)) fun c9 => ?_;have h2z:1<at2:=by simp at c6 c9; omega
      obtain⟨u,rfl⟩:∃u,at2=u+1:=⟨at2 - 1,by omega⟩;have hy:∀z∈(b.toList.take (u+1)).reverse,less z (a[v]'(by omega))=true:=C.all_b' (by simp) (show u<b.size by omega) (by have:=r2 u (by omega) (by omega); simpa using this);refine Yf (Zp (show v<a.size by omega) ?_);have jd:=JH.pushA C jc (show v<a.size by omega) hy;refine Zd (fun c7=>Yg (.inl ⟨_,_,_,rfl,rfl,jd.doneA C (by simpa using c7)⟩)) fun c7 => ?_;have h1z:0<v:=by simp at c7; omega
      refine Zd (fun c8=>Yg (.inr ⟨_,_,_,_,_,_,_,rfl,rfl,jd,h1z,by omega,by omega,by omega,by omega⟩)) fun c8 => ?_;exact Yg ⟨_,_,_,_,_,_,_,rfl,rfl,jd,h1z,by omega,by omega,by omega,by omega⟩
     ·obtain rfl:at2=q+1:=by omega
      have hy:∀z∈(b.toList.take (q+1)).reverse,less z (a[v]'(by omega))=true:=C.all_b' (by simp) (show q<b.size by omega) (by have:=r2 q (by omega) (by omega); simpa using this);refine Yf (Zp (show v<a.size by omega) ?_);have jd:=JH.pushA C jb (show v<a.size by omega) hy;refine Zd (fun c7=>Yg (.inl ⟨_,_,_,rfl,rfl,jd.doneA C (by simpa using c7)⟩)) fun c7 => ?_;have h1z:0<v:=by simp at c7; omega
      refine Zd (fun c8=>Yg (.inr ⟨_,_,_,_,_,_,_,rfl,rfl,jd,h1z,by omega,by omega,by omega,by omega⟩)) fun c8 => ?_;exact Yg ⟨_,_,_,_,_,_,_,rfl,rfl,jd,h1z,by omega,by omega,by omega,by omega⟩
    ·obtain rfl:at_=p+1:=by omega
     have hz:∀z∈(a.toList.take (p+1)).reverse,less z (b[q+1]'(by omega))=true:=C.all_a' (by simp) (show p<a.size by omega) (by have:=k2 p (by omega) (by omega); simpa using this);show wpS _ _ _ _ (elem' b (q+1) >>= _) _ _;refine Yf (Zp (show q+1<b.size by omega) ?_);have jb:=JH.pushB C j (show q+1<b.size by omega) hz;refine Zd (fun c4=>Yg (.inl ⟨_,_,_,rfl,rfl,jb.first C (by simpa using c4)⟩)) fun c4 => ?_;have h2':0<q:=by simp at c4; omega
     show wpS _ _ _ _ (elem' a (p) >>= _) _ _;refine Yf (Zp (show p<a.size by omega) ?_);refine Yf (ZbI (st:=SG st mg) C H (ib:=0) (hint:=q+1 - 1) (m:=q+1) (by omega) (by omega) (ZE (show p<a.size by omega)) fun at2 r1 r2 r3 => ?_);dsimp only;refine Zd (fun c5 => ?_) fun c5 => ?_
     ·have jc:=jb.takeB C (i:=at2) r1 (by omega) (fun i hi hi2 hi3 z hz=>C.all_a' (by simp) (show p<a.size by omega) (by have:=r3 i hi hi2 (by omega); simpa using this) z hz);refine Zd (fun c6=>Yg (.inl ⟨_,_,_,rfl,rfl,jc.first C (by simpa using c6)⟩)) fun c6 => ?_;refine Zd (fun c9=>Yg (.inl ⟨_,_,_,rfl,rfl,jc.doneB C (by simpa using c9)⟩)) fun c9 => ?_;have h2z:1<at2:=by simp at c6 c9; omega
      obtain⟨u,rfl⟩:∃u,at2=u+1:=⟨at2 - 1,by omega⟩;have hy:∀z∈(b.toList.take (u+1)).reverse,less z (a[p]'(by omega))=true:=C.all_b' (by simp) (show u<b.size by omega) (by have:=r2 u (by omega) (by omega); simpa using this);refine Yf (Zp (show p<a.size by omega) ?_);have jd:=JH.pushA C jc (show p<a.size by omega) hy;refine Zd (fun c7=>Yg (.inl ⟨_,_,_,rfl,rfl,jd.doneA C (by simpa using c7)⟩)) fun c7 => ?_;have h1z:0<p:=by simp at c7; omega
      refine Zd (fun c8=>Yg (.inr ⟨_,_,_,_,_,_,_,rfl,rfl,jd,h1z,by omega,by omega,by omega,by omega⟩)) fun c8 => ?_;exact Yg ⟨_,_,_,_,_,_,_,rfl,rfl,jd,h1z,by omega,by omega,by omega,by omega⟩
     ·obtain rfl:at2=q+1:=by omega
      have hy:∀z∈(b.toList.take (q+1)).reverse,less z (a[p]'(by omega))=true:=C.all_b' (by simp) (show q<b.size by omega) (by have:=r2 q (by omega) (by omega); simpa using this);refine Yf (Zp (show p<a.size by omega) ?_);have jd:=JH.pushA C jb (show p<a.size by omega) hy;refine Zd (fun c7=>Yg (.inl ⟨_,_,_,rfl,rfl,jd.doneA C (by simpa using c7)⟩)) fun c7 => ?_;have h1z:0<p:=by simp at c7; omega
      refine Zd (fun c8=>Yg (.inr ⟨_,_,_,_,_,_,_,rfl,rfl,jd,h1z,by omega,by omega,by omega,by omega⟩)) fun c8 => ?_;exact Yg ⟨_,_,_,_,_,_,_,rfl,rfl,jd,h1z,by omega,by omega,by omega,by omega⟩
  ·rintro c st' hI;exact .inr hI
  rintro c st' (⟨g,r,q,rfl,rfl,hz⟩ | ⟨g,out,na,nb,mg,ac,bc,rfl,rfl,j,h1,h2,h5,h6,h3⟩)
  ·exact Yg ⟨_,r,_,rfl,rfl,hz⟩
  dsimp only;rw[Zcs];refine Yf (WA ?_);exact Yg ⟨_,_,_,_,_,rfl,rfl,j,h1,h2,h5,h6,by omega⟩
 ·rintro c st' ⟨g,out,na,nb,mg,rfl,rfl,j,h1,h2,h5,h6,h3⟩;rw[Qo] at h3;omega
 ·rintro c st' ⟨g,r,q,rfl,rfl,hz⟩;exact Yg (h r g hz)
end
end TS
end
section
namespace TS
open PySem PyProof.Rows
theorem Zmt(i:Nat):mergeAt' i=(do
 let s <-get
 let (some (sa,na,power),some (sb,nb,_)):=((pendingOf s)[i]?,(pendingOf s)[i+1]?) | unsupported "internal:list.sort.pending"
 set (setPending s (((pendingOf s).setIfInBounds i (sa,na+nb,power)).eraseIdxIfInBounds (i+1)))
 let some k <-ZaT false (<-elem' (arrOf s) sb) (arrOf s) sa na 0 | return false
 let (sa,na):=(sa+k,na - k)
 if na == 0 then return true
 let some nb <-ZaT true (<-elem' (arrOf s) (sa+na - 1)) (arrOf s) sb nb (nb - 1) | return false
 if nb == 0 then return true
 let x:=(arrOf s).extract sa sb
 let y:=(arrOf s).extract sb (sb+nb)
 let merged <-if na<=nb then ZfA x y else ZfW x y
 modify fun s=>setArr s (merged.toList.zipIdx.foldl (fun a (p,j)=>a.setIfInBounds (sa+j) p) (arrOf s))
 return (failedOf (<-get)).isNone):=rfl
theorem Zqj{M:Model}{A:P3}{E:P6->P0->Prop}{s:P0}{st:SortSt}{x:SortSt}{Q:PUnit->SortSt->Prop}(h:Q ⟨⟩ x):wpS M A E s (set x:StateT SortSt Sem PUnit) Q st:=by
 unfold wpS; rw[StateT.run_set]; exact Yb ⟨rfl,h⟩
theorem splice(k:Nat):∀(r:List Keyed) (o:Nat) (arr:Array Keyed),k+o+r.length<=arr.size->((r.zipIdx o).foldl (fun a x=>a.setIfInBounds (k+x.snd) x.fst) arr).toList=arr.toList.take (k+o)++r++arr.toList.drop (k+o+r.length)
 | [],o,arr,h=>by simp
 | x :: r,o,arr,h=>by
  rw[UH,List.foldl_cons,splice k r (o+1) _ (by simp at h ⊢; omega)];have hlt:k+o<arr.size:=by simp at h; omega
  have e1:(arr.setIfInBounds (k+o) x).toList.take (k+(o+1))=arr.toList.take (k+o)++[x]:=by
   rw[Vj,show k+(o+1)=k+o+1 by omega,VX (by simpa using hlt),List.take_set_of_le (Yj _)];simp
  have e2:(arr.setIfInBounds (k+o) x).toList.drop (k+(o+1)+r.length)=arr.toList.drop (k+o+(x :: r).length):=by
   rw[Vj,List.drop_set_of_lt (by omega)];simp;congr 1;omega
  rw[e1,e2];simp
structure Tot(less:Keyed->Keyed->Bool)(xs:List Keyed):Prop where
 tr:∀x∈xs,∀y∈xs,∀z∈xs,less x y=true->less y z=true->less x z=true
 ne:xs.Pairwise (fun x y=>less y x = !(less x y))
theorem Tot.perm{less:Keyed->Keyed->Bool}{xs ys:List Keyed}(T:Tot less xs)(h:ys.Perm xs):Tot less ys :=
 ⟨fun x hx y hy z hz=>T.tr x (h.mem_iff.mp hx) y (h.mem_iff.mp hy) z (h.mem_iff.mp hz),(h.pairwise_iff (fun {x y} e=>by rw[e,UG])).mpr T.ne⟩
theorem Tot.at_{less:Keyed->Keyed->Bool}{x:Array Keyed}(T:Tot less x.toList){i j:Nat}(hi:i<x.size)(hj:j<x.size)(h:i≠j):less x[j] x[i] = !(less x[i] x[j]):=by
 rcases Nat.lt_or_gt_of_ne h with h | h
 ·have:=Wd.mp T.ne i j (by simpa using hi) (by simpa using hj) h;simp only[Array.getElem_toList] at this;exact this
 ·have:=Wd.mp T.ne j i (by simpa using hj) (by simpa using hi) h;simp only[Array.getElem_toList] at this;rw[this,UG]
def Srt(less:Keyed->Keyed->Bool)(x:Array Keyed)(lo hi:Nat):Prop:=∀i j (hij:i<j) (hj:j<x.size),lo<=i->j<hi->less (x[i]'(by omega)) x[j]=true
theorem Zbz{x:Array Keyed}{i n:Nat}{z:Keyed}(h:z∈(x.extract i n).toList):∃j,i<=j/\j<n/\∃hj:j<x.size,z=x[j]:=by
 obtain⟨j,hj,rfl⟩:=Qf.mp h;have hj':j<min n x.size - i:=by simp at hj; omega
 exact⟨i+j,by omega,by omega,by omega,by simp⟩
theorem Zc7{less:Keyed->Keyed->Bool}{x:Array Keyed}{i n:Nat}(h:Srt less x i n):(x.extract i n).toList.Pairwise (fun x y=>less x y=true):=by
 rw[Wd];intro p q hp hq hpq;have hq':q<min n x.size - i:=by simp at hq; omega
 have:=h (i+p) (i+q) (by omega) (by omega) (by omega) (by omega);simpa using this
theorem Zg2{less:Keyed->Keyed->Bool}{x:Array Keyed}(h:Srt less x 0 x.size):x.toList.Pairwise (fun x y=>less x y=true):=by
 have:=Zc7 h;rw[ZbG] at this;simpa using this
section
variable{M:Model}{A:P3}{E:P6->P0->Prop}{s:P0}{less:Keyed->Keyed->Bool}{st:SortSt}
theorem Zk0{Q:Bool->SortSt->Prop}{n1 n2 pw:Nat}(hp:pendingOf st = #[(0,n1,pw),(n1,n2,0)])(hf:failedOf st=none)(hs:(arrOf st).size=n1+n2)(h1:0<n1)(h2:0<n2)
  (T:Tot less (arrOf st).toList) (s1:Srt less (arrOf st) 0 n1) (s2:Srt less (arrOf st) n1 (n1+n2)) (H:HL M A E s (kindOf st) less (arrOf st).toList) (hr:∀{Q':Unit->P0->Prop} (x:String),Q' () s->wpAny M A (rule x) Q' E s)
  (h:∀arr' g,arr'.toList.Perm (arrOf st).toList->arr'.toList.Pairwise (fun x y=>less x y=true)->Q true (SortSt.mk' (kindOf st) arr' #[(0,n1+n2,pw)] g none)):wpS M A E s (mergeAt' 0) Q st:=by
 rw[Zmt];refine Yf (Qv ?_);rw[hp];dsimp only;show wpS _ _ _ _ (set _ >>= _) _ _;refine Yf (Zqj ?_);have hpend:(((#[(0,n1,pw),(n1,n2,0)]:Array (Nat×Nat×Nat)).setIfInBounds 0 (0,n1+n2,pw)).eraseIdxIfInBounds (0+1)) = #[(0,n1+n2,pw)]:=by
  apply UI.mp;simp[Array.eraseIdxIfInBounds]
 rw[hpend];have hst:∀Q':Bool->SortSt->Prop,True:=fun _=>trivial;generalize hx:arrOf st=x at *;rw[show setPending st #[(0,n1+n2,pw)]=SortSt.mk' (kindOf st) x #[(0,n1+n2,pw)] (gallopOf st) (failedOf st) from by rw[<-hx]];have whole0:Srt less x 0 x.size->Q true (SortSt.mk' (kindOf st) x #[(0,n1+n2,pw)] (gallopOf st) none):=fun w=>h x _ (List.Perm.refl _) (Zg2 w);refine Yf (Zp (show n1<x.size by omega) ?_);refine Yf (ZdF (st:=SortSt.mk' (kindOf st) x #[(0,n1+n2,pw)] (gallopOf st) (failedOf st)) (B:=fun i=>if hi:i<x.size then less x[i] (x[n1]'(by omega)) else false) (fun i hi Q hq => ?_) (fun i j hij hj hb => ?_) h1 fun k k1 k2 k3 => ?_)
 ·have hi':i<x.size:=by omega
  rw[Wv hi'] at hq;refine Zjo (st:=SortSt.mk' (kindOf st) x #[(0,n1+n2,pw)] (gallopOf st) (failedOf st)) H (ZE (show n1<x.size by omega)) (show 0+i<x.size by omega) (ZE (show 0+i<x.size by omega)) Q ?_;have:=T.at_ hi' (show n1<x.size by omega) (by omega);simp only[Wl];rw[this,UG];exact hq
 ·have hj':j<x.size:=by omega
  have hi':i<x.size:=by omega
  rw[Wv hj'] at hb;rw[Wv hi'];by_cases e:i=j
  ·subst e; exact hb
  ·exact T.tr _ (by simp) _ (by simp) _ (by simp) (s1 i j (by omega) hj' (by omega) hj) hb
 have low:∀i (hi:i<k) (hi':i<x.size),less x[i] (x[n1]'(by omega))=true:=fun i hi hi'=>by
  have:=k2 i hi;rw[Wv hi'] at this;exact this
 have high:∀i (hi:k<=i) (hi':i<n1),less (x[n1]'(by omega)) (x[i]'(by omega))=true:=fun i hi hi'=>by
  have:=k3 i hi hi';rw[Wv (show i<x.size by omega)] at this;rw[T.at_ (show i<x.size by omega) (show n1<x.size by omega) (by omega),this];rfl
 have lowb:∀i (hi:i<k) j (hj:n1<=j) (hj':j<x.size),less (x[i]'(by omega)) x[j]=true:=fun i hi j hj hj'=>by
  by_cases e:j=n1
  ·subst e; exact low i hi (by omega)
  ·exact T.tr _ (by simp) _ (by simp) _ (by simp) (low i hi (by omega)) (s2 n1 j (by omega) hj' (by omega) (by omega))
 dsimp only;refine Zd (fun c => ?_) fun c => ?_
 ·have hk:k=n1:=by simp at c; omega
  have hz:=whole0 fun i j hij hj _ _=>by
   by_cases e1:j<n1
   ·exact s1 i j hij hj (by omega) e1
   ·by_cases e2:n1<=i
    ·exact s2 i j hij hj e2 (by omega)
    ·exact lowb i (by omega) j (by omega) hj
  rw[<-hf] at hz;exact Yg hz
 have hk:k<n1:=by simp at c; omega
 refine Yf (Zp (show 0+k+(n1 - k) - 1<x.size by omega) ?_);have ei:0+k+(n1 - k) - 1=n1 - 1:=by omega
 simp only[ei];refine Yf (ZdF (st:=SortSt.mk' (kindOf st) x #[(0,n1+n2,pw)] (gallopOf st) (failedOf st)) (B:=fun i=>if hi:n1+i<x.size then less x[n1+i] (x[n1 - 1]'(by omega)) else false) (fun i hi Q hq => ?_) (fun i j hij hj hb => ?_) (show n2 - 1<n2 by omega) fun m m1 m2 m3 => ?_)
 ·have hi':n1+i<x.size:=by omega
  rw[Wv hi'] at hq;exact Zis (st:=SortSt.mk' (kindOf st) x #[(0,n1+n2,pw)] (gallopOf st) (failedOf st)) H (ZE (show n1 - 1<x.size by omega)) hi' (ZE hi') Q hq
 ·have hj':n1+j<x.size:=by omega
  have hi':n1+i<x.size:=by omega
  rw[Wv hj'] at hb;rw[Wv hi'];by_cases e:i=j
  ·subst e; exact hb
  ·exact T.tr _ (by simp) _ (by simp) _ (by simp) (s2 (n1+i) (n1+j) (by omega) hj' (by omega) (by omega)) hb
 have low2:∀i (hi:i<m) (hi':n1+i<x.size),less x[n1+i] (x[n1 - 1]'(by omega))=true:=fun i hi hi'=>by
  have:=m2 i hi;rw[Wv hi'] at this;exact this
 have high2:∀i (hi:m<=i) (hi':i<n2),less (x[n1 - 1]'(by omega)) (x[n1+i]'(by omega))=true:=fun i hi hi'=>by
  have:=m3 i hi hi';rw[Wv (show n1+i<x.size by omega)] at this;rw[T.at_ (show n1+i<x.size by omega) (show n1 - 1<x.size by omega) (by omega),this];rfl
 have higha:∀i (hi:i<n1) j (hj:n1+m<=j) (hj':j<x.size),less (x[i]'(by omega)) x[j]=true:=fun i hi j hj hj'=>by
  have e0:=high2 (j - n1) (by omega) (by omega);simp only[show n1+(j - n1)=j by omega] at e0;by_cases e:i=n1 - 1
  ·subst e; exact e0
  ·exact T.tr _ (by simp) _ (ZE (show n1 - 1<x.size by omega)) _ (by simp) (s1 i (n1 - 1) (by omega) (by omega) (by omega) (by omega)) e0
 dsimp only;refine Zd (fun c2 => ?_) fun c2 => ?_
 ·have hm:m=0:=by simpa using c2
  have hz:=whole0 fun i j hij hj _ _=>by
   by_cases e1:j<n1
   ·exact s1 i j hij hj (by omega) e1
   ·by_cases e2:n1<=i
    ·exact s2 i j hij hj e2 (by omega)
    ·exact higha i (by omega) j (by omega) hj
  rw[<-hf] at hz;exact Yg hz
 have hm:0<m:=by simp at c2; omega
 have hsub:∀z∈(x.extract (0+k) n1).toList++(x.extract n1 (n1+m)).toList,z∈x.toList:=fun z hz=>by
  rcases YR.mp hz with hz | hz
  ·obtain⟨j,_,_,hj,rfl⟩:=Zbz hz;simp
  ·obtain⟨j,_,_,hj,rfl⟩:=Zbz hz;simp
 have C:AB less (x.extract (0+k) n1) (x.extract n1 (n1+m)):=by
  have z1:0<(x.extract (0+k) n1).size:=by simp; omega
  have z2:0<(x.extract n1 (n1+m)).size:=by simp; omega
  refine⟨fun u hu v hv w hw=>T.tr u (hsub u hu) v (hsub v hv) w (hsub w hw),Zc7 fun i j a b c d=>s1 i j a b (by omega) d,Zc7 fun i j a b c d=>s2 i j a b c (by omega),fun u hu v hv => ?_,z1,z2,fun u hu => ?_,fun v hv => ?_⟩
  ·obtain⟨i,i1,i2,hi,rfl⟩:=Zbz hu;obtain⟨j,j1,j2,hj,rfl⟩:=Zbz hv;exact T.at_ hi hj (by omega)
  ·obtain⟨i,i1,i2,hi,rfl⟩:=Zbz hu;have:=high i (by omega) i2;simpa using this
  ·obtain⟨j,j1,j2,hj,rfl⟩:=Zbz hv;have:=low2 (j - n1) (by omega) (by omega);simp only[show n1+(j - n1)=j by omega] at this;have el:(x.extract (0+k) n1).size - 1=n1 - 1 - k:=by simp; omega
   simp only[Array.getElem_extract,el,show 0+k+(n1 - 1 - k)=n1 - 1 by omega];exact this
 have whole:∀r,Rz less (x.extract (0+k) n1) (x.extract n1 (n1+m)) r->(r.toList.zipIdx.foldl (fun a x=>a.setIfInBounds (0+k+x.snd) x.fst) x).toList.Perm x.toList/\(r.toList.zipIdx.foldl (fun a x=>a.setIfInBounds (0+k+x.snd) x.fst) x).toList.Pairwise (fun x y=>less x y=true):=by
  rintro r ⟨r1,r2⟩;have hlen:r.toList.length=n1+m - k:=by
   rw[r1.length_eq];simp;omega
  rw[splice (0+k) r.toList 0 x (by omega),hlen];simp only[Nat.add_zero,Wl] at r1 ⊢;rw[show k+(n1+m - k)=n1+m by omega];have hdec:x.toList=x.toList.take k++((x.extract k n1).toList++(x.extract n1 (n1+m)).toList)++x.toList.drop (n1+m):=by
   have e1:(x.extract k n1).toList++(x.extract n1 (n1+m)).toList=(x.extract k (n1+m)).toList:=by
    rw[<-YK,Array.extract_append_extract];congr 2
    ·omega
    ·omega
   rw[e1,Ws,show n1+m=k+(n1+m - k) by omega,<-Zdy (by omega),Wu]
  have mem:∀v∈r.toList,(∃j,k<=j/\j<n1/\∃hj:j<x.size,v=x[j])\/∃j,n1<=j/\j<n1+m/\∃hj:j<x.size,v=x[j]:=fun v hv=>by
   rcases YR.mp (r1.mem_iff.mp hv) with hv | hv
   ·exact .inl (Zbz hv)
   ·exact .inr (Zbz hv)
  constructor
  ·conv=>rhs; rw[hdec]
   exact ((r1.append_left _).append_right _)
  ·refine Y8.mpr ⟨Y8.mpr ⟨?_,r2,fun u hu v hv => ?_⟩,?_,fun u hu w hw => ?_⟩
   ·have:=Zc7 (x:=x) (i:=0) (n:=k) fun i j a b c d=>s1 i j a b c (by omega);rw[Zca] at this;exact this
   ·obtain⟨i,i1,hi,rfl⟩:=Zdv (QO.mpr hu);rcases mem v hv with⟨j,j1,j2,hj,rfl⟩ | ⟨j,j1,j2,hj,rfl⟩
    ·exact s1 i j (by omega) hj (by omega) j2
    ·exact lowb i i1 j j1 hj
   ·have:=Zc7 (x:=x) (i:=n1+m) (n:=x.size) fun i j a b c d=>s2 i j a b (by omega) (by omega);rw[ZbG] at this;exact this
   ·obtain⟨j,j1,hj,rfl⟩:=Zeg hw;rcases YR.mp hu with hu | hu
    ·obtain⟨i,i1,hi,rfl⟩:=Zdv (QO.mpr hu);exact lowb i i1 j (by omega) hj
    ·rcases mem u hu with⟨i,i1,i2,hi,rfl⟩ | ⟨i,i1,i2,hi,rfl⟩
     ·exact higha i i2 j j1 hj
     ·exact s2 i j (by omega) hj i1 (by omega)
 refine Zd (fun c3 => ?_) fun c3 => ?_
 ·refine Yf (ZnF (st:=SortSt.mk' (kindOf st) x #[(0,n1+n2,pw)] (gallopOf st) (failedOf st)) C (fun x hx y hy st Q e q=>H x (hsub x hx) y (hsub y hy) st Q e q) hr fun r g R => ?_);refine Yf (WA (Yf (Qv (Yg ?_))));have hz:=h _ g (whole r R).1 (whole r R).2;rw[<-hf] at hz;have hi:(failedOf st).isNone=true:=by rw[hf]; rfl
  rw[<-hi] at hz;exact hz
 ·refine Yf (ZnN (st:=SortSt.mk' (kindOf st) x #[(0,n1+n2,pw)] (gallopOf st) (failedOf st)) C (fun x hx y hy st Q e q=>H x (hsub x hx) y (hsub y hy) st Q e q) hr fun r g R => ?_);refine Yf (WA (Yf (Qv (Yg ?_))));have hz:=h _ g (whole r R).1 (whole r R).2;rw[<-hf] at hz;have hi:(failedOf st).isNone=true:=by rw[hf]; rfl
  rw[<-hi] at hz;exact hz
end
end TS
end
section
namespace TS
open PySem PyProof.Rows
section
variable{less:Keyed->Keyed->Bool}{x:Array Keyed}
theorem ZoZ{i j k:Nat}(hj:j<=x.size)(hk:k<x.size):(mirror x i j ((j - i) / 2))[k]'(by rw[mirror_size]; exact hk)=if h:i<=k/\k<j then x[i+j - 1 - k]'(by omega) else x[k]:=by
 have e:=getElem?_mirror_all (i:=i) hj k;rw[Yt (by rw[mirror_size]; exact hk)] at e;by_cases h:i<=k/\k<j
 ·rw[Yi h,Yt (by omega)] at e;rw[Wv h];exact Option.some.inj e
 ·rw[Yh h,Yt hk] at e;rw[dif_neg h];exact Option.some.inj e
theorem Zno{src d k:Nat}(hs:src<x.size)(hd:d<=src)(hk:k<x.size):(bubble x src d)[k]'(by rw[bubble_size]; exact hk)=if k=src - d then x[src] else if src - d<k/\k<=src then x[k - 1]'(by omega) else x[k]:=by
 have e:=getElem?_bubble hs d hd k;rw[Yt (by rw[bubble_size]; exact hk)] at e;by_cases h:k=src - d
 ·rw[Yi h,Yt hs] at e;rw[Yi h];exact Option.some.inj e
 ·rw[Yh h] at e;rw[Yh h];by_cases h2:src - d<k/\k<=src
  ·rw[Yi h2,Yt (by omega)] at e;rw[Yi h2];exact Option.some.inj e
  ·rw[Yh h2,Yt hk] at e;rw[Yh h2];exact Option.some.inj e
def Dsc(less:Keyed->Keyed->Bool)(x:Array Keyed)(lo hi:Nat):Prop:=∀i j (hij:i<j) (hj:j<x.size),lo<=i->j<hi->less x[j] (x[i]'(by omega))=true
theorem Srt.next(T:Tot less x.toList){lo m:Nat}(h:Srt less x lo (lo+m))(h1:1<=m)(hm:lo+m<x.size)(e:less (x[lo+m - 1]'(by omega)) x[lo+m]=true):Srt less x lo (lo+(m+1)):=by
 intro i j hij hj hi hj2;by_cases c:j<lo+m
 ·exact h i j hij hj hi c
 ·obtain rfl:j=lo+m:=by omega
  by_cases c2:i=lo+m - 1
  ·subst c2; exact e
  ·exact T.tr _ (ZE (by omega)) _ (ZE (by omega)) _ (ZE (by omega)) (h i (lo+m - 1) (by omega) (by omega) hi (by omega)) e
theorem Dsc.next(T:Tot less x.toList){lo m:Nat}(h:Dsc less x lo (lo+m))(h1:1<=m)(hm:lo+m<x.size)(e:less x[lo+m] (x[lo+m - 1]'(by omega))=true):Dsc less x lo (lo+(m+1)):=by
 intro i j hij hj hi hj2;by_cases c:j<lo+m
 ·exact h i j hij hj hi c
 ·obtain rfl:j=lo+m:=by omega
  by_cases c2:i=lo+m - 1
  ·subst c2; exact e
  ·exact T.tr _ (ZE (by omega)) _ (ZE (by omega)) _ (ZE (by omega)) e (h i (lo+m - 1) (by omega) (by omega) hi (by omega))
theorem Srt.one{lo:Nat}:Srt less x lo (lo+1):=fun i j hij hj hi hj2=>by omega
def Out_(x y:Array Keyed)(lo hi:Nat):Prop:=y.size=x.size/\∀k (h1:k<x.size) (h2:k<y.size),k<lo\/hi<=k->y[k]=x[k]
theorem Out_.refl{lo hi:Nat}:Out_ x x lo hi:=⟨rfl,fun _ _ _ _=>rfl⟩
end
section
variable{M:Model}{A:P3}{E:P6->P0->Prop}{s:P0}{less:Keyed->Keyed->Bool}{st:SortSt}
theorem ZcE{i j:Nat}{Q:Option Bool->SortSt->Prop}(H:HL M A E s (kindOf st) less (arrOf st).toList)(hi:i<(arrOf st).size)(hj:j<(arrOf st).size)(h:Q (some (less (arrOf st)[i] (arrOf st)[j])) st):wpS M A E s (ltAt' i j) Q st:=by
 rw[ltAt'_eq];refine Yf (Qv ?_);dsimp only;refine Yf (Zp hi (Yf (Zp hj ?_)));exact H _ (ZE hi) _ (ZE hj) st _ rfl h
theorem count_{Q:Option Nat->SortSt->Prop}{lo nrem:Nat}(H:HL M A E s (kindOf st) less (arrOf st).toList)(T:Tot less (arrOf st).toList)(h1:1<=nrem)(hz:lo+nrem<=(arrOf st).size)(hr:∀{Q':Unit->P0->Prop} (x:String),Q' () s->wpAny M A (rule x) Q' E s)
  (h:∀m y,1<=m->m<=nrem->y.toList.Perm (arrOf st).toList->Out_ (arrOf st) y lo (lo+nrem)->Srt less y lo (lo+m)->Q (some m) (setArr st y)):wpS M A E s (countRun' lo nrem) Q st:=by
 rw[countRun'_eq];obtain⟨x,hx⟩:∃x,x=arrOf st:=⟨_,rfl⟩;rw[<-hx] at T hz h;have hxs:(arrOf st).size=x.size:=by rw[hx]
 have ES:setArr st x=st:=by rw[hx]
 have fin0:∀m,1<=m->m<=nrem->Srt less x lo (lo+m)->Q (some m) st:=fun m a1 a2 a3=>by
  have:=h m x a1 a2 (List.Perm.refl _) Out_.refl a3;rw[ES] at this;exact this
 refine Yf (WG (Y5 (fun y c st'=>st=st'/\c=(none,y)/\Srt less (arrOf st) lo (lo+y)) (Q:=fun c st'=>st=st'/\∃n,c=(none,n)/\1<=n/\n<=nrem/\Srt less (arrOf st) lo (lo+n)/\(n=nrem\/∃h:lo+n<(arrOf st).size,less (arrOf st)[lo+n] ((arrOf st)[lo+n - 1]'(by omega))=true)) ?_ ?_ ⟨rfl,rfl,Srt.one⟩) ?_)
 ·rintro y c st' hy1 hy2 ⟨rfl,rfl,hS⟩;dsimp only;refine Yf (ZcE H (show lo+y<(arrOf st).size by omega) (show lo+y - 1<(arrOf st).size by omega) ?_);dsimp only;refine Zd (fun e=>Yg ⟨rfl,y,rfl,hy1,by omega,hS,.inr ⟨by omega,e⟩⟩) fun e=>Yg ⟨rfl,rfl,?_⟩;refine hS.next (hx ▸ T) (by omega) (by omega) ?_;have:=Tot.at_ (hx ▸ T) (show lo+y - 1<(arrOf st).size by omega) (show lo+y<(arrOf st).size by omega) (by omega);rw[this] at e;simpa using e
 ·rintro c st' ⟨rfl,rfl,hS⟩;rw[VY (by omega)] at hS ⊢;exact⟨rfl,nrem,rfl,by omega,Yj _,hS,.inl rfl⟩
 rintro c st' ⟨rfl,n,rfl,n1,n2,hS,hE⟩;rw[<-hx] at hS;dsimp only;refine Zd (fun c1=>Yg (fin0 n n1 n2 hS)) fun c1 => ?_;have hn:n<nrem:=by simp at c1; omega
 refine Zd (fun c2 => ?_) fun c2 => ?_
 ·refine Yf (ZcE H (show lo<(arrOf st).size by rw[<-hx]; omega) (show lo+n - 1<(arrOf st).size by rw[<-hx]; omega) ?_);dsimp only;refine Zd (fun e=>Yg (fin0 n n1 n2 hS)) fun e=>absurd ?_ e;have:=hS lo (lo+n - 1) (by omega) (by omega) (Yj _) (by omega);simpa only[hx] using this
 obtain rfl:n=1:=by omega
 have e0:less (x[lo+1]'(by omega)) (x[lo]'(by omega))=true:=by
  rcases hE with hE | ⟨hE,e⟩
  ·omega
  ·simpa only[hx,Nat.add_sub_cancel] using e
 refine Yf (VW (hr _ ⟨rfl,?_⟩));refine Yf (WG (Y5 (fun y c st'=>st=st'/\c=(none,y,0)/\Dsc less x lo (lo+y)) (Q:=fun c st'=>st=st'/\∃n,c=(none,n,0)/\2<=n/\n<=nrem/\Dsc less x lo (lo+n)) ?_ ?_ ⟨rfl,rfl,?_⟩) ?_)
 ·rintro y c st' hy1 hy2 ⟨rfl,rfl,hD⟩;dsimp only;refine Yf (ZcE H (show lo+y<(arrOf st).size by rw[<-hx]; omega) (show lo+y - 1<(arrOf st).size by rw[<-hx]; omega) ?_);dsimp only;refine Zd (fun e => ?_) fun e => ?_
  ·refine Zd (fun c3=>absurd c3 (by omega)) fun c3=>Yg ⟨rfl,rfl,?_⟩;exact hD.next T (by omega) (by omega) (by simpa only[hx] using e)
  ·refine Yf (ZcE H (show lo+y - 1<(arrOf st).size by rw[<-hx]; omega) (show lo+y<(arrOf st).size by rw[<-hx]; omega) ?_);dsimp only;refine Zd (fun e2=>Yg ⟨rfl,y,rfl,by omega,by omega,hD⟩) fun e2=>absurd ?_ e2;have:=Tot.at_ T (show lo+y - 1<x.size by omega) (show lo+y<x.size by omega) (by omega);simp only[hx] at this;rw[this] at e;simpa using e
 ·rintro c st' ⟨rfl,rfl,hD⟩;rw[VY (by omega)] at hD ⊢;exact⟨rfl,nrem,rfl,by omega,Yj _,hD⟩
 ·intro i j hij hj hi hj2;obtain rfl:i=lo:=by omega
  obtain rfl:j=i+1:=by omega
  exact e0
 rintro c st' ⟨rfl,n,rfl,n3,n4,hD⟩;dsimp only;refine Zd (fun c3=>absurd c3 (by omega)) fun c3 => ?_;rw[reverseSlice'_eq];refine Yf (WA ?_);rw[<-hx];obtain⟨y,hy⟩:∃y,y=mirror x lo (lo+n) ((lo+n - lo) / 2):=⟨_,rfl⟩;rw[<-hy];have hp:y.toList.Perm x.toList:=by rw[hy]; exact (mirror_perm _ _ _ _).toList
 have hsz:y.size=x.size:=by rw[hy,mirror_size]
 have hat:∀k (hk:k<x.size) (hk':k<y.size),y[k]=if h:lo<=k/\k<lo+n then x[lo+(lo+n) - 1 - k]'(by omega) else x[k]:=fun k hk hk'=>by
  subst hy;exact ZoZ (by omega) hk
 have hO:Out_ x y lo (lo+nrem):=⟨hsz,fun k k1 k2 k3=>by rw[hat k k1 k2,dif_neg (by omega)]⟩;have hS2:Srt less y lo (lo+n):=by
  intro i j hij hj hi hj2;rw[hat i (by omega) (by omega),hat j (by omega) hj,Wv (by omega),Wv (by omega)];exact hD (lo+(lo+n) - 1 - j) (lo+(lo+n) - 1 - i) (by omega) (by omega) (by omega) (by omega)
 have T2:Tot less y.toList:=T.perm hp;have H2:HL M A E s (kindOf (setArr st y)) less (arrOf (setArr st y)).toList:=fun u hu v hv=>H u (by rw[<-hx]; exact hp.mem_iff.mp hu) v (by rw[<-hx]; exact hp.mem_iff.mp hv);refine Yf (WG (Y5 (fun q c st'=>setArr st y=st'/\c=(none,q)/\Srt less y lo (lo+q)) (Q:=fun c st'=>setArr st y=st'/\∃k0,c=(none,k0)/\n<=k0/\k0<=nrem/\Srt less y lo (lo+k0)/\True) ?_ ?_ ⟨rfl,rfl,hS2⟩) ?_)
 ·rintro q c st' hy1 hy2 ⟨rfl,rfl,hS⟩;dsimp only;refine Yf (ZcE (st:=setArr st y) H2 (show lo+q<(y).size by omega) (show lo+q - 1<(y).size by omega) ?_);dsimp only;refine Zd (fun e=>Yg ⟨rfl,q,rfl,hy1,by omega,hS,trivial⟩) fun e=>Yg ⟨rfl,rfl,?_⟩;refine hS.next T2 (by omega) (by omega) ?_;have:=Tot.at_ T2 (show lo+q - 1<(y).size by omega) (show lo+q<(y).size by omega) (by omega);rw[this] at e;simpa using e
 ·rintro c st' ⟨rfl,rfl,hS⟩;rw[VY (by omega)] at hS ⊢;exact⟨rfl,nrem,rfl,by omega,Yj _,hS,trivial⟩
 rintro c st' ⟨rfl,m,rfl,m1,m2,hS3,_⟩;exact Yg (h m y (by omega) m2 hp hO hS3)
theorem ZjM{Q:Bool->SortSt->Prop}{lo n ok:Nat}(H:HL M A E s (kindOf st) less (arrOf st).toList)(T:Tot less (arrOf st).toList)(h1:1<=ok)(hok:ok<=n)(hz:lo+n<=(arrOf st).size)(hs:Srt less (arrOf st) lo (lo+ok))
  (h:∀y,y.toList.Perm (arrOf st).toList->Out_ (arrOf st) y lo (lo+n)->Srt less y lo (lo+n)->Q true (setArr st y)):wpS M A E s (binarySort' lo n ok) Q st:=by
 rw[binarySort'_eq];rw[show max ok 1=ok by omega];obtain⟨x,hx⟩:∃x,x=arrOf st:=⟨_,rfl⟩;rw[<-hx] at T hz h hs;have ES:st=setArr st x:=by rw[hx]
 refine Yf (WG (Y5 (fun k c st'=>c=(none,())/\∃y,st'=setArr st y/\y.toList.Perm x.toList/\Out_ x y lo (lo+n)/\Srt less y lo (lo+k)) (Q:=fun c st'=>c=(none,())/\∃y,st'=setArr st y/\y.toList.Perm x.toList/\Out_ x y lo (lo+n)/\Srt less y lo (lo+n)) ?_ ?_ ⟨rfl,x,ES,List.Perm.refl _,Out_.refl,hs⟩) ?_)
 ·rintro k c st' hk1 hk2 ⟨rfl,y,rfl,hp,hO,hS⟩;have T2:Tot less y.toList:=T.perm hp;have H2:HL M A E s (kindOf (setArr st y)) less (arrOf (setArr st y)).toList:=fun u hu v hv=>H u (by rw[<-hx]; exact hp.mem_iff.mp hu) v (by rw[<-hx]; exact hp.mem_iff.mp hv);have hsz:=hO.1;dsimp only;refine Yf (WG (Y5 (fun z c st'=>st'=setArr st y/\∃l r,c=(none,l,r)/\l<=r/\r<=k/\r - l+z<=k/\(∀i (hi:i<l) (hi2:i<k),less (y[lo+i]'(by omega)) (y[lo+k]'(by omega))=true)/\∀i (hi:r<=i) (hi2:i<k),less (y[lo+k]'(by omega)) (y[lo+i]'(by omega))=true)
   (Q:=fun c st'=>st'=setArr st y/\∃l,c=(none,l,l)/\l<=k/\(∀i (hi:i<l) (hi2:i<k),less (y[lo+i]'(by omega)) (y[lo+k]'(by omega))=true)/\∀i (hi:l<=i) (hi2:i<k),less (y[lo+k]'(by omega)) (y[lo+i]'(by omega))=true) ?_ ?_ ⟨rfl,0,k,rfl,by omega,by omega,by omega,fun i hi hi2=>by omega,fun i hi hi2=>by omega⟩) ?_)
  ·rintro z c st' _ hz2 ⟨rfl,l,r,rfl,a1,a2,a3,a4,a5⟩;dsimp only;refine Zd (fun c1 => ?_) fun c1 => ?_
   ·obtain rfl:l=r:=by omega
    exact Yg ⟨rfl,l,rfl,a2,a4,a5⟩
   ·refine Yf (ZcE (st:=setArr st y) H2 (show lo+k<y.size by omega) (show lo+(l+r) / 2<y.size by omega) ?_);dsimp only;refine Zd (fun e => ?_) fun e => ?_
    ·refine Yg ⟨rfl,l,_,rfl,by omega,by omega,by omega,a4,fun i hi hi2 => ?_⟩;by_cases c2:i=(l+r) / 2
     ·subst c2; exact e
     ·exact T2.tr _ (ZE (by omega)) _ (ZE (show lo+(l+r) / 2<y.size by omega)) _ (ZE (by omega)) e (hS (lo+(l+r) / 2) (lo+i) (by omega) (by omega) (by omega) (by omega))
    ·refine Yg ⟨rfl,_,r,rfl,by omega,by omega,by omega,fun i hi hi2 => ?_,a5⟩;have e':less (y[lo+(l+r) / 2]'(by omega)) (y[lo+k]'(by omega))=true:=by
      have:=Tot.at_ T2 (show lo+(l+r) / 2<y.size by omega) (show lo+k<y.size by omega) (by omega);have e2:¬ less (y[lo+k]'(by omega)) (y[lo+(l+r) / 2]'(by omega))=true:=e;rw[this] at e2;simpa using e2
     by_cases c2:i=(l+r) / 2
     ·subst c2; exact e'
     ·exact T2.tr _ (ZE (by omega)) _ (ZE (show lo+(l+r) / 2<y.size by omega)) _ (ZE (by omega)) (hS (lo+i) (lo+(l+r) / 2) (by omega) (by omega) (by omega) (by omega)) e'
  ·rintro c st' ⟨rfl,l,r,rfl,a1,a2,a3,a4,a5⟩;rw[Qo] at a3;obtain rfl:l=r:=by omega
   exact⟨rfl,l,rfl,a2,a4,a5⟩
  rintro c st' ⟨rfl,l,rfl,a2,a4,a5⟩;dsimp only;rw[moveDown'_eq];refine Yf (WA (Yg ?_));show _/\∃v,SortSt.mk' _ _ _ _ _=setArr st v/\_;obtain⟨v,hv⟩:∃v,v=bubble y (lo+k) (lo+k - (lo+l)):=⟨_,rfl⟩;have hvs:v.size=y.size:=by rw[hv,bubble_size]
  have hat:∀j (hj:j<y.size) (hj':j<v.size),v[j]=if j=lo+l then y[lo+k]'(by omega) else if lo+l<j/\j<=lo+k then y[j - 1]'(by omega) else y[j]:=fun j hj hj'=>by
   subst hv;rw[Zno (by omega) (by omega) hj];simp only[show lo+k - (lo+k - (lo+l))=lo+l by omega]
  refine⟨rfl,v,by rw[hv],?_,⟨by omega,fun j j1 j2 j3 => ?_⟩,fun i j hij hj hi hj2 => ?_⟩
  ·rw[hv];exact (bubble_perm _ _ _).toList.trans hp
  ·rw[hat j (by omega) j2,Yh (by omega),Yh (by omega)];exact hO.2 j j1 (by omega) j3
  ·rw[hat i (by omega) (by omega),hat j (by omega) hj];by_cases c1:j=lo+l
   ·rw[Yi c1,Yh (by omega),Yh (by omega)];have:=a4 (i - lo) (by omega) (by omega);simpa only[show lo+(i - lo)=i by omega] using this
   ·rw[Yh c1];by_cases c2:lo+l<j/\j<=lo+k
    ·rw[Yi c2];by_cases c3:i=lo+l
     ·rw[Yi c3];have:=a5 (j - 1 - lo) (by omega) (by omega);simpa only[show lo+(j - 1 - lo)=j - 1 by omega] using this
     ·rw[Yh c3];by_cases c4:lo+l<i/\i<=lo+k
      ·rw[Yi c4];exact hS (i - 1) (j - 1) (by omega) (by omega) (by omega) (by omega)
      ·rw[Yh c4];exact hS i (j - 1) (by omega) (by omega) (by omega) (by omega)
    ·rw[Yh c2,Yh (by omega),Yh (by omega)];exact hS i j hij (by omega) hi (by omega)
 ·rintro c st' ⟨rfl,y,rfl,hp,hO,hS⟩;rw[VY hok] at hS;exact⟨rfl,y,rfl,hp,hO,hS⟩
 ·rintro c st' ⟨rfl,y,rfl,hp,hO,hS⟩;exact Yg (h y hp hO hS)
end
end TS
end
section
namespace TS
open PySem PyProof.Rows
theorem ZlX{n:Nat}(h2:2<=n)(h:n<=127):1<=minRun' n n 0/\minRun' n n 0<=n/\n<=2 * minRun' n n 0:=by
 obtain⟨k,hk⟩:∃k,n=k+2:=⟨n - 2,by omega⟩;have e:minRun' n n 0=if n<64 then n+0 else if n / 2<64 then n / 2+max 0 (n % 2) else minRun' k (n / 2 / 2) (max (max 0 (n % 2)) (n / 2 % 2)):=by
  conv=>lhs; arg 1; rw[hk]
  rw[minRun'_succ,minRun'_succ]
 rw[e];by_cases c:n<64
 ·rw[Yi c]; omega
 ·rw[Yh c,Yi (by omega)]; omega
section
variable{M:Model}{A:P3}{E:P6->P0->Prop}{s:P0}{less:Keyed->Keyed->Bool}{st:SortSt}
noncomputable abbrev ST(st:SortSt)(y:Array Keyed)(p:Array (Nat×Nat×Nat))(g:Nat):SortSt:=SortSt.mk' (kindOf st) y p g none
def Two(less:Keyed->Keyed->Bool)(x:Array Keyed)(st st':SortSt):Prop:=∃y g,y.toList.Perm x.toList/\((∃pw,st'=ST st y #[(0,x.size,pw)] g/\Srt less y 0 x.size)\/∃n1 n2 pw,st'=ST st y #[(0,n1,pw),(n1,n2,0)] g/\0<n1/\0<n2/\n1+n2=x.size/\Srt less y 0 n1/\Srt less y n1 (n1+n2))
theorem ZmI{Q:Unit->SortSt->Prop}(H:HL M A E s (kindOf st) less (arrOf st).toList)(T:Tot less (arrOf st).toList)(hp:pendingOf st = #[])(hf:failedOf st=none)(h2:2<=(arrOf st).size)(h127:(arrOf st).size<=127)
  (hr:∀{Q':Unit->P0->Prop} (x:String),Q' () s->wpAny M A (rule x) Q' E s) (h:∀st',(arrOf st').toList.Perm (arrOf st).toList->(arrOf st').toList.Pairwise (fun x y=>less x y=true)->failedOf st'=none->Q () st'):wpS M A E s sortRuns' Q st:=by
 rw[sortRuns'_eq];refine Yf (Qv ?_);obtain⟨x,hx⟩:∃x,x=arrOf st:=⟨_,rfl⟩;dsimp only;rw[<-hx] at T h2 h127 h H ⊢;have ES:st=ST st x #[] (gallopOf st):=by
  have e1:ST st x #[] (gallopOf st)=SortSt.mk' (kindOf st) (arrOf st) (pendingOf st) (gallopOf st) (failedOf st):=by rw[hp,hf,hx]
  rw[e1]
 obtain⟨r1,r2,r3⟩:=ZlX h2 h127;generalize minRun' x.size x.size 0=mr at *;have HH:∀(y:Array Keyed) (p:Array (Nat×Nat×Nat)) (g:Nat),y.toList.Perm x.toList->HL M A E s (kindOf (ST st y p g)) less (arrOf (ST st y p g)).toList:=fun y p g hy u hu v hv=>H u (hy.mem_iff.mp hu) v (hy.mem_iff.mp hv);refine Yf (WG (Y5 (fun k c st'=>(k=0/\c=(none,0)/\st'=ST st x #[] (gallopOf st))\/(k=1/\∃n1 y,c=(none,n1)/\st'=ST st y #[(0,n1,0)] (gallopOf st)/\y.toList.Perm x.toList/\Srt less y 0 n1/\mr<=n1/\n1<x.size)\/(c=(none,x.size)/\Two less x st st'))
  (Q:=fun c st'=>c=(none,x.size)/\Two less x st st') ?_ ?_ (.inl ⟨rfl,rfl,ES⟩)) ?_)
 ·rintro k c st' _ hk (⟨rfl,rfl,rfl⟩ | ⟨rfl,n1,y,rfl,rfl,hy,hS,g1,g2⟩ | ⟨rfl,hT⟩)
  ·dsimp only;refine Zd (fun c1=>absurd c1 (by omega)) fun _ => ?_;refine Yf (count_ (st:=ST st x #[] (gallopOf st)) (HH x #[] _ (List.Perm.refl _)) T (show 1<=x.size - 0 by omega) (show 0+(x.size - 0)<=x.size by omega) hr fun m y m1 m2 hy hO hS => ?_);have hsz:y.size=x.size:=hO.1;have fin:∀n z,1<=n->mr<=n->n<=x.size->z.toList.Perm x.toList->Srt less z 0 n->(0+1=0/\((none:Option Unit),0+n)=(none,0)/\ST st z #[(0,n,0)] (gallopOf st)=ST st x #[] (gallopOf st))\/(0+1=1/\∃n1 y,((none:Option Unit),0+n)=(none,n1)/\ST st z #[(0,n,0)] (gallopOf st)=ST st y #[(0,n1,0)] (gallopOf st)/\y.toList.Perm x.toList/\Srt less y 0 n1/\mr<=n1/\n1<x.size)\/(((none:Option Unit),0+n)=(none,x.size)/\Two less x st (ST st z #[(0,n,0)] (gallopOf st))):=fun n z a1 a2 a3 a4 a5=>by
    by_cases c2:n<x.size
    ·exact .inr (.inl ⟨rfl,n,z,by rw[Wl],rfl,a4,a5,a2,c2⟩)
    ·obtain rfl:n=x.size:=by omega
     exact .inr (.inr ⟨by rw[Wl],z,_,a4,.inl ⟨0,rfl,a5⟩⟩)
   dsimp only;refine Zd (fun c1 => ?_) fun c1 => ?_
   ·refine Yf (VW (hr _ ⟨rfl,?_⟩));rw[show min (x.size - 0) mr=mr by omega];refine Yf (ZjM (st:=ST st y #[] (gallopOf st)) (HH y #[] _ hy) (T.perm hy) m1 (show m<=mr by omega) (show 0+mr<=y.size by omega) hS fun z hz hO2 hS2 => ?_);refine Zd (fun c2=>absurd c2 (by simp)) fun _ => ?_;refine Yf (Qv ?_);show wpS _ _ _ _ (modify _ >>= _) _ _;refine Yf (WA (Yg ?_));exact fin mr z r1 (Yj _) r2 (hz.trans hy) (by simpa only[Wl] using hS2)
   ·refine Yf (Qv ?_);show wpS _ _ _ _ (modify _ >>= _) _ _;refine Yf (WA (Yg ?_));exact fin m y m1 (by omega) (by omega) hy (by simpa only[Wl] using hS)
  ·have hys:y.size=x.size:=by
    have:=hy.length_eq;simpa using this
   dsimp only;refine Zd (fun c1=>absurd c1 (by omega)) fun _ => ?_;refine Yf (count_ (st:=ST st y #[(0,n1,0)] (gallopOf st)) (HH y _ _ hy) (T.perm hy) (show 1<=x.size - n1 by omega) (show n1+(x.size - n1)<=y.size by omega) hr fun m z m1 m2 hz hO hS2 => ?_);have hzs:z.size=y.size:=hO.1;have low:∀v:Array Keyed,Out_ y v n1 x.size->Srt less v 0 n1:=fun v hv i j hij hj hi hj2=>by
    rw[hv.2 i (by have:=hv.1; omega) (by omega) (.inl (by omega)),hv.2 j (by have:=hv.1; omega) hj (.inl hj2)];exact hS i j hij (by have:=hv.1; omega) hi hj2
   have fin:∀v:Array Keyed,v.toList.Perm x.toList->Srt less v 0 n1->Srt less v n1 (n1+(x.size - n1))->∀pw,(1+1=0/\((none:Option Unit),n1+(x.size - n1))=(none,0)/\ST st v #[(0,n1,pw),(n1,x.size - n1,0)] (gallopOf st)=ST st x #[] (gallopOf st))\/(1+1=1/\∃m1 y,((none:Option Unit),n1+(x.size - n1))=(none,m1)/\ST st v #[(0,n1,pw),(n1,x.size - n1,0)] (gallopOf st)=ST st y #[(0,m1,0)] (gallopOf st)/\y.toList.Perm x.toList/\Srt less y 0 m1/\mr<=m1/\m1<x.size)\/(((none:Option Unit),n1+(x.size - n1))=(none,x.size)/\Two less x st (ST st v #[(0,n1,pw),(n1,x.size - n1,0)] (gallopOf st))):=fun v a1 a2 a3 pw =>
    .inr (.inr ⟨by rw[show n1+(x.size - n1)=x.size by omega],v,_,a1,.inr ⟨n1,x.size - n1,pw,rfl,by omega,by omega,by omega,a2,a3⟩⟩)
   have ex:n1+(x.size - n1)=x.size:=by omega
   dsimp only;refine Zd (fun c1 => ?_) fun c1 => ?_
   ·refine Yf (VW (hr _ ⟨rfl,?_⟩));rw[show min (x.size - n1) mr=x.size - n1 by omega];refine Yf (ZjM (st:=ST st z #[(0,n1,0)] (gallopOf st)) (HH z _ _ (hz.trans hy)) (T.perm (hz.trans hy)) m1 (show m<=x.size - n1 by omega) (show n1+(x.size - n1)<=z.size by omega) hS2 fun v hv hO2 hS3 => ?_);refine Zd (fun c2=>absurd c2 (by simp)) fun _ => ?_;have hO2:Out_ z v n1 (n1+(x.size - n1)):=hO2;have hO:Out_ y z n1 (n1+(x.size - n1)):=hO;have hO3:Out_ y v n1 x.size:=⟨by have:=hO2.1; omega,fun k k1 k2 k3=>by rw[ex] at hO hO2; rw[hO2.2 k (by omega) k2 k3,hO.2 k k1 (by omega) k3]⟩;refine Yf (Qv ?_);show wpS _ _ _ _ (forIn _ _ _ >>= _) _ _;refine Yf (WG (Y5 (fun k c st'=>k=0/\c=(none,())/\st'=ST st v #[(0,n1,0)] (gallopOf st)) (Q:=fun c st'=>c=(none,())/\st'=ST st v #[(0,n1,0)] (gallopOf st)) ?_ ?_ ⟨rfl,rfl,rfl⟩) ?_)
    ·rintro k c st' _ _ ⟨rfl,rfl,rfl⟩;refine Yf (Qv ?_);exact Yg ⟨rfl,rfl⟩
    ·rintro c st' ⟨h0,h1,h3⟩;exact⟨h1,h3⟩
    rintro c st' ⟨rfl,rfl⟩;dsimp only;refine Yf (WA (Yf (WA (Yg ?_))));exact fin v (hv.trans (hz.trans hy)) (low v hO3) hS3 _
   ·obtain rfl:m=x.size - n1:=by omega
    have hO3:Out_ y z n1 x.size:=by rw[ex] at hO; exact hO
    refine Yf (Qv ?_);show wpS _ _ _ _ (forIn _ _ _ >>= _) _ _;refine Yf (WG (Y5 (fun k c st'=>k=0/\c=(none,())/\st'=ST st z #[(0,n1,0)] (gallopOf st)) (Q:=fun c st'=>c=(none,())/\st'=ST st z #[(0,n1,0)] (gallopOf st)) ?_ ?_ ⟨rfl,rfl,rfl⟩) ?_)
    ·rintro k c st' _ _ ⟨rfl,rfl,rfl⟩;refine Yf (Qv ?_);exact Yg ⟨rfl,rfl⟩
    ·rintro c st' ⟨h0,h1,h3⟩;exact⟨h1,h3⟩
    rintro c st' ⟨rfl,rfl⟩;dsimp only;refine Yf (WA (Yf (WA (Yg ?_))));exact fin z (hz.trans hy) (low z hO3) hS2 _
  ·dsimp only;refine Zd (fun _=>Yg ⟨rfl,hT⟩) fun c1=>absurd (Yj _) c1
 ·rintro c st' (⟨h0,_,_⟩ | ⟨h0,_⟩ | hT)
  ·omega
  ·omega
  ·exact hT
 rintro c st' ⟨rfl,hT⟩;dsimp only;refine Yf (WG (Y5 (fun k c st'=>c=(none,())/\Two less x st st'/\(k=0\/∃y pw g,st'=ST st y #[(0,x.size,pw)] g)) (Q:=fun c st'=>c=(none,())/\∃y pw g,st'=ST st y #[(0,x.size,pw)] g/\y.toList.Perm x.toList/\Srt less y 0 x.size) ?_ ?_ ⟨rfl,hT,.inl rfl⟩) ?_)
 ·rintro k c st' _ _ ⟨rfl,⟨y,g,hy,hT⟩,_⟩;have hys:y.size=x.size:=by
   have:=hy.length_eq;simpa using this
  refine Yf (Qv ?_);rcases hT with⟨pw,rfl,hS⟩ | ⟨n1,n2,pw,rfl,a1,a2,a3,a4,a5⟩
  ·refine Zd (fun _=>Yg ⟨rfl,y,pw,g,rfl,hy,hS⟩) fun c1=>absurd (Yj 1) c1
  ·refine Zd (fun c1=>absurd c1 (by show ¬ (2<=1); decide)) fun _ => ?_;show wpS _ _ _ _ (mergeAt' 0 >>= _) _ _;refine Yf (Zk0 (st:=ST st y #[(0,n1,pw),(n1,n2,0)] g) rfl rfl (show y.size=n1+n2 by omega) a1 a2 (T.perm hy) a4 a5 (HH y _ _ hy) hr fun z g' hz1 hz2 => ?_);refine Zd (fun c2=>absurd c2 (by simp)) fun _=>Yg ⟨rfl,?_⟩;have hzs:z.size=x.size:=by
    have:=(hz1.trans hy).length_eq;simpa using this
   refine⟨⟨z,g',hz1.trans hy,.inl ⟨pw,by rw[a3],fun i j hij hj _ _=>Zb9 hz2 hij hj⟩⟩,.inr ⟨z,pw,g',by rw[a3]⟩⟩
 ·rintro c st' ⟨h0,⟨y,g,hy,hT⟩,h3⟩;rcases h3 with h3 | ⟨y2,pw2,g2,h3⟩
  ·omega
  ·rcases hT with⟨pw,rfl,hS⟩ | ⟨n1,n2,pw,rfl,a1,a2,a3,a4,a5⟩
   ·exact⟨h0,y,pw,g,rfl,hy,hS⟩
   ·have:=congrArg pendingOf h3;have h4:(#[(0,n1,pw),(n1,n2,0)]:Array (Nat×Nat×Nat)) = #[(0,x.size,pw2)]:=this;have:=congrArg Array.size h4;simp at this
 rintro c st' ⟨rfl,y,pw,g,rfl,hy,hS⟩;have hys:y.size=x.size:=by
  have:=hy.length_eq;simpa using this
 exact Yg (h _ hy (Zg2 (by rw[hys]; exact hS)) rfl)
end
end TS
end
section
namespace SO
open PySem PySem.W PyProof.Rows TS
section
variable{prog:P4}{w:World}{A:P3}{E:P6->P0->Prop}{s:P0}
theorem Zfy(vs:List P6):(vs.toArray.zip vs.toArray).toList=(List.range vs.length).map fun i=>(vs.getD i Value.none,vs.getD i Value.none):=by
 refine Vh (by simp) fun i h1 h2 => ?_;have hi:i<vs.length:=by simpa using h1
 simp[Ye,Yd hi]
theorem Zow{vs:List P6}{κ:SortKind}{lt:Nat->Nat->Bool}{Q:SortSt->P0->Prop}(h2:2<=vs.length)(h128:vs.length<128)
  (inj:∀i j,i<vs.length->j<vs.length->vs.getD i .none=vs.getD j .none->i=j)
  (hl:∀(E:P6->P0->Prop) (Q:Bool->P0->Prop) (i j:Nat),i<vs.length->j<vs.length->Q (lt i j) s->wpAny (model prog w) A (keyLt' κ (vs.getD i .none) (vs.getD j .none)) Q E s) (O:Ord vs.length lt)
  (h:∀(st':SortSt) (p:Array Nat),p.toList.Perm (List.range vs.length)->p.toList.Pairwise (fun i j=>lt i j=true)->arrOf st'=p.map (kas_item (vs.toArray.zip vs.toArray))->failedOf st'=none->Q st' s) :
  wpAny (model prog w) A ((sortRuns').run (SortSt.mk' κ (vs.toArray.zip vs.toArray) #[] 7 none)) (fun r s'=>Q r.2 s') E s:=by
 classical
 obtain⟨idx,hidx⟩:∃idx:Keyed->Nat,∀i,i<vs.length->idx (vs.getD i Value.none,vs.getD i Value.none)=i:=by
  refine⟨fun x=>if h:∃i,i<vs.length/\vs.getD i Value.none=x.1 then Classical.choose h else 0,fun i hi => ?_⟩;have h:∃k,k<vs.length/\vs.getD k Value.none=vs.getD i Value.none:=⟨i,hi,rfl⟩;dsimp only;rw[Wv h];exact inj _ _ (Classical.choose_spec h).1 hi (Classical.choose_spec h).2
 have mem:∀x∈(vs.toArray.zip vs.toArray).toList,∃i,i<vs.length/\x=(vs.getD i Value.none,vs.getD i Value.none):=fun x hx=>by
  rw[Zfy] at hx;obtain⟨i,hi,rfl⟩:=YX.mp hx;exact⟨i,W7.mp hi,rfl⟩
 have hsz:(vs.toArray.zip vs.toArray).size=vs.length:=by simp
 have run:=ZmI (M:=model prog w) (A:=A) (E:=E) (s:=s) (less:=fun x y=>lt (idx x) (idx y)) (st:=SortSt.mk' κ (vs.toArray.zip vs.toArray) #[] 7 none) (Q:=fun _ st'=>Q st' s) ?H ?T rfl rfl (show 2<=(vs.toArray.zip vs.toArray).size by omega) (show (vs.toArray.zip vs.toArray).size<=127 by omega) (fun x q=>Wz q) ?K
 ·exact YM run (fun r s' h'=>by obtain⟨rfl,q⟩:=h'; exact q) fun _ _ e=>e
 case H =>
  intro x hx y hy st Q hk q;obtain⟨i,hi,rfl⟩:=mem x hx;obtain⟨j,hj,rfl⟩:=mem y hy;rw[lt'_eq];refine Yf (Qv ?_);have hk':kindOf st=κ:=hk;rw[hk'];refine Yf (VW (W6 (hl _ _ i j hi hj ⟨rfl,?_⟩)));dsimp only at q;rw[hidx i hi,hidx j hj] at q;exact Yg q
 case T =>
  refine⟨fun x hx y hy z hz h1 h2 => ?_,?_⟩
  ·obtain⟨i,hi,rfl⟩:=mem x hx;obtain⟨j,hj,rfl⟩:=mem y hy;obtain⟨k,hk,rfl⟩:=mem z hz
   try dsimp only at h1 h2 ⊢
   rw[hidx i hi,hidx j hj] at h1;rw[hidx j hj,hidx k hk] at h2;rw[hidx i hi,hidx k hk];exact O.trn i j k hi hj hk h1 h2
  ·show List.Pairwise _ (vs.toArray.zip vs.toArray).toList;rw[Zfy,WY];refine List.Pairwise.imp_of_mem (R:=fun i j=>i<j) (fun {i j} hi hj hij => ?_) (List.pairwise_lt_range);have hi':=W7.mp hi;have hj':=W7.mp hj;rw[hidx i hi',hidx j hj'];cases e:lt i j with
   | true=>exact O.asy i j hi' hj' e
   | false=>exact O.tot i j hi' hj' (by omega) e
 case K =>
  intro st' hp hw hf;have hp':(arrOf st').toList.Perm (vs.toArray.zip vs.toArray).toList:=hp;have hm:∀x∈(arrOf st').toList,∃i,i<vs.length/\x=(vs.getD i Value.none,vs.getD i Value.none):=fun x hx=>mem x (hp'.mem_iff.mp hx);refine h st' ((arrOf st').map idx) ?_ ?_ ?_ hf
  ·rw[UJ];refine (hp'.map idx).trans (Vt ?_);rw[Zfy,Y0];refine (Wr fun i hi => ?_).trans (List.map_id _);exact hidx i (W7.mp hi)
  ·rw[UJ,WY];exact hw
  ·rw[Array.map_map];apply UI.mp;rw[UJ];symm;refine (Wr fun x hx => ?_).trans (List.map_id _);obtain⟨i,hi,rfl⟩:=hm x hx;show kas_item (vs.toArray.zip vs.toArray) (idx _)=_;rw[hidx i hi];exact kas_item_eq vs i
end
end SO
end
section
namespace DL
open PySem PySem.Spec PyProof.Rows L2 PySem.W
def prD(p:Int×Int):D:=.tup [.int p.1,.int p.2]
def ZbM:List D->Option (List (Int×Int))
 | []=>some []
 | .tup [.int a,.int b] :: ds=>(ZbM ds).map ((a,b) :: ·)
 | _ :: _=>none
theorem ZiW:∀{ds:List D} {ps:List (Int×Int)},ZbM ds=some ps->ds=ps.map prD
 | [],ps,e=>by cases e; rfl
 | d :: ds,ps,e=>by
  unfold ZbM at e;split at e
  ·rename_i h; cases h
  ·rename_i a b r h;cases h;obtain⟨qs,h1,rfl⟩:=WC.mp e;rw[ZiW h1]; rfl
  ·cases e
theorem ZhI:∀(ps:List (Int×Int)),ZbM (ps.map prD)=some ps
 | []=>rfl
 | (a,b) :: ps=>by
  show (ZbM (ps.map prD)).map ((a,b) :: ·)=_;rw[ZhI ps]; rfl
def Zam(a b:Int×Int):Bool:=decide (a.1<b.1\/a.1=b.1/\a.2<b.2)
def Zb5(a b:Int×Int):Bool:=decide (a.1<b.1\/a.1=b.1/\a.2<=b.2)
def Z4(ps:List (Int×Int)):List (Int×Int):=ps.mergeSort Zb5
theorem Zfa(ps:List (Int×Int)):(Z4 ps).Perm ps:=List.mergeSort_perm _ _
theorem Zqb(ps:List (Int×Int)):(Z4 ps).Pairwise (fun a b=>Zb5 a b=true):=by
 refine List.pairwise_mergeSort (fun a b c h1 h2 => ?_) (fun a b => ?_) ps
 ·simp only[Zb5,YD] at *; omega
 ·simp only[Zb5,Q0,YD]; omega
theorem Zi9{ps qs:List (Int×Int)}(hp:qs.Perm ps)(hw:qs.Pairwise (fun a b=>Zam a b=true)):qs=Z4 ps:=by
 refine UK (le:=fun a b=>Zb5 a b=true) (fun a b _ _ h1 h2 => ?_) (hw.imp fun {a b} h => ?_) (Zqb ps) (hp.trans (Zfa ps).symm)
 ·simp only[Zb5,YD] at h1 h2;exact Prod.ext (by omega) (by omega)
 ·simp only[Zb5,Zam,YD] at *; omega
def Zc3:List D->Sto->Out (List D)
 | [d],st=>match Zj st d with
  | some xs=>match ZbM xs with
   | some ps=>if ps.Nodup/\ps.length<64 then .ok ((Z4 ps).map prD) st else .bad
   | none => .bad
  | none => .bad
 | _,_ => .bad
section
variable{X:Cx}{EX:EXT}
theorem Zqa{ps:List (Int×Int)}(hn:ps.Nodup):SO.Ord ps.length (fun i j=>Zam (ps.getD i default) (ps.getD j default)):=by
 refine⟨fun i j hi hj ne h => ?_,fun i j hi hj h => ?_,fun i j k hi hj hk h1 h2 => ?_⟩
 ·simp only[Zam,YD,QT] at *;have:ps.getD i default≠ps.getD j default:=by
   rw[Ye,Ye,Yd hi,Yd hj];intro e;exact ne ((Qj hn).mp e)
  have h3:¬ ((ps.getD i default).1=(ps.getD j default).1/\(ps.getD i default).2=(ps.getD j default).2):=fun z=>this (Prod.ext z.1 z.2);omega
 ·simp only[Zam,YD,QT] at *;omega
 ·simp only[Zam,YD] at *;omega
theorem Zkb{pins:List (Addr×Obj)}{s:P0}{σ:L2.St}{H:Hp}{O:List Addr}{ps:List (Int×Int)}{vs:List V}{its:List P6}(I:Inv X pins σ H s)(r:Reps X.K O H (ps.map prD) vs)(rv:Vals vs its){i:Nat}(hi:i<ps.length) :
  ∃a o t u n,its[i]?=some (.ref a)/\s.heap.get? a=some o/\o.cls = .type "tuple"/\o.data = .seq #[.int (ps.getD i default).1 t,.int (ps.getD i default).2 u] n:=by
 obtain⟨v,h1,h2⟩:=r.get (i:=i) (d:=prD (ps.getD i default)) (by rw[Yw,Yd hi,Ye,Yd hi]; rfl);obtain⟨a,us,rfl,hH,ru⟩:=Rep.tup_i.mp h2;obtain⟨u,h3,h4⟩:=rv.get h1;cases h4;obtain⟨x1,r1,rfl,q1,ru⟩:=Reps.cons_i.mp ru;obtain⟨x2,r2,rfl,q2,ru⟩:=Reps.cons_i.mp ru;rw[Reps.nil_i] at ru;rw[Rep.int_i] at q1 q2;subst ru q1 q2;obtain⟨js,rj,⟨o,e,c,n,d⟩,_⟩:=I.tuple (SqT.of hH);obtain⟨t,w1⟩:=rj.get (i:=0) rfl;obtain⟨w,w2⟩:=rj.get (i:=1) rfl;have hl:=rj.length
 match js,hl,w1,w2 with
 | [j1,j2],_,⟨e1,t1,e1'⟩,⟨e2,t2,e2'⟩ =>
  simp at e1 e2;subst e1 e2;subst e1' e2';exact⟨a,o,t1,t2,n,h3,e,c,d⟩
theorem ZmN{pins:List (Addr×Obj)}{s:P0}{σ:L2.St}{H:Hp}{O:List Addr}{ps:List (Int×Int)}{vs:List V}{its:List P6}(I:Inv X pins σ H s)(r:Reps X.K O H (ps.map prD) vs)(rv:Vals vs its){a:Addr}{h':Heap}(ha:s.heap.objs.size<=a)(hk:∀b o,s.heap.get? b=some o->h'.get? b=some o) :
  SO.Cmp X.prog X.w { s with heap:=h' } a its (tuples' true) (fun i j=>Zam (ps.getD i default) (ps.getD j default)):=by
 have hl:its.length=ps.length:=by have:=rv.length; have:=r.length; rw[Yp] at this; omega
 have at':∀g,SO.KB { s with heap:=h' } a g->∀i,i<its.length->∃b o t u n,its[i]?=some (.ref b)/\g.get? b=some o/\o.cls = .type "tuple"/\o.data = .seq #[.int (ps.getD i default).1 t,.int (ps.getD i default).2 u] n:=fun g hg i hi=>by
  obtain⟨b,o,t,u,n,h1,h2,h3,h4⟩:=Zkb I r rv (i:=i) (by omega);exact⟨b,o,t,u,n,h1,hg b o (Yr (Yq (Yk h2) ha)) (hk b o h2),h3,h4⟩
 refine⟨fun h2 g A E Q hg hQ => ?_,fun h2 g A E Q i j hg hi hj hQ => ?_⟩
 ·have T:∃fs,KatTups g its fs/\fs.length=its.length/\∀v∈fs,∃n t,v = .int n t:=by
   have go:∀(k:Nat) (l:List P6),l=its.drop k->∃fs,KatTups g l fs/\fs.length=l.length/\∀v∈fs,∃n t,v = .int n t:=by
    intro k l
    induction l generalizing k with
    | nil=>exact fun _=>⟨[],trivial,rfl,fun v hv=>by cases hv⟩
    | cons x l ih =>
     intro e;have hkl:k<its.length:=by
      have:=congrArg List.length e;simp at this;omega
     obtain⟨fs,f1,f2,f3⟩:=ih (k+1) (by rw[<-VB,<-e]; rfl);obtain⟨b,o,t,u,n,h1,h2,h3,h4⟩:=at' g hg k hkl;have hx:its[k]?=some x:=by
      have:=congrArg (fun z=>z[0]?) e;simp at this;exact this.symm
     rw[h1] at hx;cases hx;refine⟨.int (ps.getD k default).1 t :: fs,KatTups.cons h2 h3 h4 rfl f1,by simp[f2],fun v hv => ?_⟩;rcases Yl.mp hv with rfl | hv
     ·exact⟨_,_,rfl⟩
     ·exact f3 v hv
   exact go 0 its rfl
  obtain⟨fs,f1,f2,f3⟩:=T;refine kat_kind (T:=.type "int") f1 (by omega) (fun v hv => ?_) rfl hQ;obtain⟨n,t,rfl⟩:=f3 v hv;exact Looks.of_pure rfl
 ·obtain⟨b,o,t,u,n,h1,h2,h3,h4⟩:=at' g hg i hi;obtain⟨b',o',t',u',n',h1',h2',h3',h4'⟩:=at' g hg j hj;rw[Ye,Ye,h1,h1'];revert hQ h4 h4';generalize ps.getD i default=x;generalize ps.getD j default=y;intro hQ h4 h4';refine kat_lt h2 h4 h2' h4' (kat_cons (VT ?_));by_cases e1:x.1=y.1
  ·rw[e1,QM];refine kat_yes (kat_cons (VT ?_));by_cases e2:x.2=y.2
   ·rw[e2,QM];refine kat_yes (kat_nil ?_);have:Zam x y=decide ((#[Value.int x.1 t,.int x.2 u]:Array P6).size<(#[Value.int y.1 t',.int y.2 u']:Array P6).size):=by
     simp[Zam,e1,e2]
    rw[this] at hQ;rw[e1] at hQ;rw[e2] at hQ;exact hQ
   ·rw[show (x.2 == y.2)=false by simp[e2]];refine kat_no (kat_one _ _ (HT.lt_ints ?_));have:Zam x y=decide (x.2<y.2):=by
     simp[Zam,e1]
    rw[this] at hQ;exact hQ
  ·rw[show (x.1 == y.1)=false by simp[e1]];refine kat_no (oneLt_int ?_);have:Zam x y=decide (x.1<y.1):=by
    simp[Zam,e1]
   rw[this] at hQ;exact hQ
theorem Zdn{α:Type}{f:α->V}{g:α->P6}:∀(l:List α),(∀i∈l,RelV (f i) (g i))->Vals (l.map f) (l.map g)
 | [],_ => .nil
 | i :: l,h => .cons (h i (.head _)) (Zdn l fun j hj=>h j (.tail _ hj))
theorem Zde{α:Type}{K:P1}{O:List Addr}{H:Hp}{f:α->D}{g:α->V}:∀(l:List α),(∀i∈l,Rep K O H (f i) (g i))->Reps K O H (l.map f) (l.map g)
 | [],_=>Reps.nil_i.mpr rfl
 | i :: l,h=>Reps.cons_i.mpr ⟨_,_,rfl,h i (.head _),Zde l fun j hj=>h j (.tail _ hj)⟩
theorem ZpU:Zdb X EX (.builtin "sorted") Zc3:=by
 intro pins s σ H xs us Q I rx h;obtain⟨O,ds,st,W,r,R⟩:=h
 match ds,r,R with
 | [],_,R=>exact R.elim
 | _ :: _ :: _,_,R=>exact R.elim
 | [d],r,R =>
  obtain⟨v,rfl,rv⟩:=r.one_of;dsimp only[Zc3] at R;cases e:Zj st d with
  | none=>rw[e] at R; exact R.elim
  | some zs =>
   rw[e] at R;dsimp only at R;cases e2:ZbM zs with
   | none=>rw[e2] at R; exact R.elim
   | some ps =>
    rw[e2] at R;dsimp only at R;by_cases hc:ps.Nodup/\ps.length<64
    ·rw[Yi hc] at R;obtain⟨p,vs,rfl,q,rs⟩:=rdL W rv e;have hzs:=ZiW e2;subst hzs;cases rx with
     | cons r0 rt =>
      cases rt;cases r0;obtain⟨its,rv',pl,hz⟩:=I.list q;have hl1:=rv'.length;have hl2:=rs.length;rw[Yp] at hl2;refine SO.sorted_keep (κ:=tuples' true) (lt:=fun i j=>Zam (ps.getD i default) (ps.getD j default)) pl.isList (by omega) (fun a h' ha hk=>ZmN I rs rv' ha hk) (by rw[<-hl1,<-hl2]; exact Zqa hc.1) fun ix hp hw a h' c ha hk hg => ?_;have hix:ix.map (fun i=>ps.getD i default)=Z4 ps:=by
       refine Zi9 ?_ (WY.mpr hw);have:=hp.map (fun i=>ps.getD i default);refine this.trans (Vt ?_);rw[<-hl1,<-hl2];refine Vh (by simp) fun i h1 h2 => ?_;simp[Ye,Yd h2]
      have hb:∀i∈ix,i<ps.length:=fun i hi=>by
       have:=hp.mem_iff.mp hi;simp at this;omega
      refine⟨.ref a,upd H a (.lst (ix.map fun i=>vs.getD i .non)),I.laid hk ha ⟨?_,ix.map (fun i=>its.getD i .none),c,?_,hg⟩,rfl,?_⟩
      ·have:=hp.length_eq;simp only[Yp,YV] at this ⊢;omega
      ·refine Zdn ix fun i hi => ?_;obtain⟨u,h1,h2⟩:=rv'.get (i:=i) (x:=vs.getD i .non) (by have:=hb i hi; rw[Ye,Yd (by omega)]; rfl);rw[Ye (l:=its),h1];exact h2
      ·refine Run.now (k:=New X.K Q) R W a _ ?_ (I.hok.fresh ha);rw[<-hix,Y0];refine Zde ix fun i hi => ?_;have:=hb i hi;obtain⟨v,h1,h2⟩:=rs.get (i:=i) (d:=prD (ps.getD i default)) (by rw[Yw,Ye,Yd this]; rfl);rw[Ye (l:=vs),h1];exact h2
    ·rw[Yh hc] at R; exact R.elim
end
open PySem PySem.Spec PyProof.Rows L2
section
variable{X:Cx}{EX:EXT}{e:Expr}{pos:Pos}
theorem Zka{x:Str}{p:Pos}{es:List Expr}{id:String}{g:List D->Sto->Out (List D)}{f:DA}(hc:Zdb X EX (.builtin id) g)(hg:Gl X x)(hm:X.mg x=none)(hv:bootBuiltins x=some (.builtin id))(ha:PDA X EX (e :: es) f)(hn:x≠"__name__":=by decide)(hdb:(x == ("__debug__" : Str))=false:=by decide)
  (he:starEach (e :: es) X.env=(false,eval e X.env) :: starEach es X.env:=by rfl) (hpl:(backTo pos (starEach es X.env)).any (·.1)=false:=by rfl):PDF X EX (.Call (.Name x p) (e :: es) [] pos) (Zn g f):=PE.mono (Zhg hc hg hm hv ha hn hdb he hpl) ZeB
end
end DL
end
section
end
section
namespace L2
open PySem PySem.Spec PyProof.Rows
section
variable{κ:Type}[DecidableEq κ]
def Zaj(kvs:List (κ×V))(k:κ):Option V:=(kvs.find? fun kv=>decide (kv.1=k)).map (·.2)
def putK(kvs:List (κ×V))(k:κ)(v:V):List (κ×V) :=
 if (kvs.any fun kv=>decide (kv.1=k))=true then kvs.map (fun kv=>if kv.1=k then (kv.1,v) else kv) else kvs++[(k,v)]
def Zi2(kvs:List (κ×V))(k:κ):List (κ×V):=kvs.filter fun kv=>decide (kv.1≠k)
theorem Zeo{p:κ×V}{r:List (κ×V)}{k:κ}(e:p.1=k):Zaj (p :: r) k=some p.2:=by simp[Zaj,Q3,e]
theorem Zee{p:κ×V}{r:List (κ×V)}{k:κ}(e:¬ p.1=k):Zaj (p :: r) k=Zaj r k:=by simp[Zaj,Q3,e]
theorem Zfm(k:κ):∀kvs:List (κ×V),(kvs.any fun kv=>decide (kv.1=k))=(Zaj kvs k).isSome
 | []=>rfl
 | p :: r=>by
  rw[QW];by_cases e:p.1=k
  ·simp only[Zeo e,YS e,Bool.true_or,Option.isSome_some]
  ·rw[Zee e,YQ e,Bool.false_or]; exact Zfm k r
theorem ZjN(kvs:List (κ×V))(k:κ)(v:V):(putK kvs k v).length<=kvs.length+1:=by
 unfold putK;split
 ·rw[Yp]; omega
 ·rw[WM,Yx,Ua]; omega
theorem RelO.isSome_eq{o:Option V}{u:Option P6}(r:RelO o u):o.isSome=u.isSome:=by
 cases o with
 | none=>cases u with
  | none=>rfl
  | some _=>exact (show False from r).elim
 | some _=>cases u with
  | none=>exact (show False from r).elim
  | some _=>rfl
theorem RelO.getD{o:Option V}{u:Option P6}{d:V}{d':P6}(r:RelO o u)(rd:RelV d d'):RelV (o.getD d) (u.getD d'):=by
 cases o with
 | none=>cases u with
  | none=>exact rd
  | some _=>exact (show False from r).elim
 | some _=>cases u with
  | none=>exact (show False from r).elim
  | some _=>exact r
theorem KV.val{kvs:List (κ×V)}{vs:List (κ×P6)}(r:KV kvs vs)(k:κ):RelO (Zaj kvs k) (valueAt vs k):=by
 unfold KV at r
 induction r with
 | nil=>exact True.intro
 | @cons p q ps qs h t ih =>
  obtain⟨h1,h2⟩:=h;by_cases e:p.1=k
  ·have e':q.1=k:=h1.symm.trans e;have b:valueAt (q :: qs) k=some q.2:=by simp[valueAt,Q3,e']
   rw[Zeo e,b]; exact h2
  ·have e':¬ q.1=k:=fun z=>e (h1.trans z);have b:valueAt (q :: qs) k=valueAt qs k:=by simp[valueAt,Q3,e']
   rw[Zee e,b]; exact ih
theorem KV.any{kvs:List (κ×V)}{vs:List (κ×P6)}(r:KV kvs vs)(k:κ):(kvs.any fun kv=>decide (kv.1=k))=vs.any fun kv=>decide (kv.1=k):=by
 unfold KV at r
 induction r with
 | nil=>rfl
 | cons h t ih=>rw[QW,QW,ih,h.1]
theorem KV.repl{kvs:List (κ×V)}{vs:List (κ×P6)}(r:KV kvs vs)(k:κ){y:V}{u:P6}(ry:RelV y u) :
  KV (kvs.map fun kv=>if kv.1=k then (kv.1,y) else kv) (vs.map fun kv=>if kv.1=k then (kv.1,u) else kv):=by
 unfold KV at r ⊢
 induction r with
 | nil=>exact .nil
 | @cons p q ps qs h t ih =>
  rw[Ys,Ys];refine .cons ?_ ih;obtain⟨h1,h2⟩:=h;by_cases e:p.1=k
  ·rw[Yi e,Yi (h1.symm.trans e)]; exact⟨h1,ry⟩
  ·rw[Yh e,Yh (fun z=>e (h1.trans z))]; exact⟨h1,h2⟩
theorem KV.put{kvs:List (κ×V)}{vs:List (κ×P6)}(r:KV kvs vs)(k:κ){y:V}{u:P6}(ry:RelV y u):KV (putK kvs k y) (stored vs k u):=by
 unfold putK stored;rw[r.any k];by_cases e:(vs.any fun kv=>decide (kv.1=k))=true
 ·rw[Yi e,Yi e]; exact r.repl k ry
 ·rw[Yh e,Yh e]; exact Paired.snoc r ⟨rfl,ry⟩
theorem KV.drop{kvs:List (κ×V)}{vs:List (κ×P6)}(r:KV kvs vs)(k:κ):KV (Zi2 kvs k) (without vs k):=by
 unfold KV at r ⊢;unfold Zi2 without
 induction r with
 | nil=>exact .nil
 | @cons p q ps qs h t ih =>
  obtain⟨h1,h2⟩:=h;rw[WB,WB];by_cases e:p.1=k
  ·have a:¬ decide (p.1≠k)=true:=by simp[e]
   have b:¬ decide (q.1≠k)=true:=by simp[h1.symm.trans e]
   rw[Yh a,Yh b]; exact ih
  ·have e':¬ q.1=k:=fun z=>e (h1.trans z);have a:decide (p.1≠k)=true:=by simp[e]
   have b:decide (q.1≠k)=true:=by simp[e']
   rw[Yi a,Yi b]; exact .cons ⟨h1,h2⟩ ih
theorem KV.keys{kvs:List (κ×V)}{vs:List (κ×P6)}(r:KV kvs vs):kvs.map (·.1)=vs.map (·.1):=by
 unfold KV at r
 induction r with
 | nil=>rfl
 | cons h t ih=>rw[Ys,Ys,ih,h.1]
theorem KV.length{kvs:List (κ×V)}{vs:List (κ×P6)}(r:KV kvs vs):kvs.length=vs.length:=Paired.length r
end
theorem Zeu{P:P4}{w:World}{k:Key}{u:P6}(r:RelV (kV k) u):(mixKind P w).is k u=true:=by
 cases k with
 | inl i=>obtain⟨t,e⟩:=(show ∃t,u=Value.int i t from r); subst e; exact Zmn P w i t
 | inr x=>obtain⟨t,e⟩:=(show ∃t,u=Value.str x t from r); subst e; exact Zlv P w x t
theorem ZjF{P:P4}{w:World}:∀{ks:List Key} {us:List P6},Vals (ks.map kV) us->ItemsAre (mixKind P w) ks us
 | [],_,r=>by rw[List.map_nil] at r; cases r; exact .nil
 | k :: ks,_,r=>by
  rw[Ys] at r;cases r with
  | cons h t=>exact .cons (Zeu h) (ZjF t)
noncomputable abbrev KT(H:Hp):List (List Key×V)->List (List Key×Addr×P6)->Prop:=Paired fun p q=>p.1=q.1/\H q.2.1=some (.tup (p.1.map kV))/\RelV p.2 q.2.2
theorem KT.val{H:Hp}{kvs:List (List Key×V)}{xs:List (List Key×Addr×P6)}(r:KT H kvs xs)(k:List Key):RelO (Zaj kvs k) ((atKey xs k).map (·.2)):=by
 induction r with
 | nil=>exact True.intro
 | @cons p q ps qs h t ih =>
  obtain⟨h1,_,h2⟩:=h;by_cases e:p.1=k
  ·have e':q.1=k:=h1.symm.trans e;have b:atKey (q :: qs) k=some q.2:=by simp[atKey,Q3,e']
   rw[Zeo e,b]; exact h2
  ·have e':¬ q.1=k:=fun z=>e (h1.trans z);have b:atKey (q :: qs) k=atKey qs k:=by simp[atKey,Q3,e']
   rw[Zee e,b]; exact ih
theorem KT.repl{H:Hp}{kvs:List (List Key×V)}{xs:List (List Key×Addr×P6)}(r:KT H kvs xs)(k:List Key){y:V}{u:P6}(ry:RelV y u) :
  KT H (kvs.map fun kv=>if kv.1=k then (kv.1,y) else kv) (xs.map (putAt k u)):=by
 induction r with
 | nil=>exact .nil
 | @cons p q ps qs h t ih =>
  rw[Ys,Ys];refine .cons ?_ ih;obtain⟨h1,h2,h3⟩:=h;unfold putAt;by_cases e:p.1=k
  ·rw[Yi e,Yi (h1.symm.trans e)]; exact⟨h1,h2,ry⟩
  ·rw[Yh e,Yh (fun z=>e (h1.trans z))]; exact⟨h1,h2,h3⟩
theorem KT.put{H:Hp}{kvs:List (List Key×V)}{xs:List (List Key×Addr×P6)}(r:KT H kvs xs)(k:List Key){b:Addr}{y:V}{u:P6}(hb:H b=some (.tup (k.map kV)))(ry:RelV y u) :
  KT H (putK kvs k y) (storedH xs k b u):=by
 have e:(kvs.any fun kv=>decide (kv.1=k))=(atKey xs k).isSome:=by
  rw[Zfm,(r.val k).isSome_eq,Option.isSome_map]
 unfold putK storedH;rw[e];by_cases q:(atKey xs k).isSome=true
 ·rw[Yi q,Yi q]; exact r.repl k ry
 ·rw[Yh q,Yh q]; exact Paired.snoc r ⟨rfl,hb,ry⟩
theorem KT.keeps{H H':Hp}{kvs:List (List Key×V)}{xs:List (List Key×Addr×P6)}(r:KT H kvs xs)(ht:∀b ys,H b=some (.tup ys)->H' b=some (.tup ys)):KT H' kvs xs :=
 Paired.mapP r fun _ _ z=>⟨z.1,ht _ _ z.2.1,z.2.2⟩
section
variable{P:P4}{w:World}{H:Hp}{h:Heap}{a:Addr}
theorem Zg4{u:HO}(ok:HOk P w H h)(e:Rd H a u):ObjOk P w H h a u:=e.ok ok
theorem ZbP{kvs:List (Key×V)}(ok:HOk P w H h)(e:Rd H a (.dK kvs)):kvs.length<=sizeLine/\(a == sysModules)=false/\∃vs,KV kvs vs/\h.DictOf (mixKind P w) a vs :=
 show ObjOk P w H h a (.dK kvs) from Zg4 ok e
theorem Zpz{kvs:List (Key×V)}(ok:HOk P w H h)(e:H a=some (.dK kvs)):kvs.length<=sizeLine/\(a == sysModules)=false/\∃vs,KV kvs vs/\h.DictOf (mixKind P w) a vs:=ZbP ok (.inl e)
theorem Zc1{ks:List Key}(ok:HOk P w H h)(e:H a=some (.tup (ks.map kV))):(tupleKind (mixKind P w)).is h ks a:=by
 obtain⟨_,its,r,⟨o,h1,h2,n,h3⟩,_⟩:=(show ObjOk P w H h a (.tup (ks.map kV)) from ok a _ e);exact⟨o,its.toArray,n,h1,h2,h3,by simpa using ZjF r⟩
theorem ZaL{kvs:List (List Key×V)}(ok:HOk P w H h)(e:Rd H a (.dT kvs)):kvs.length<=sizeLine/\(a == sysModules)=false /\
  ∃xs,KT H kvs xs/\h.DictOfH (tupleKind (mixKind P w)) a xs:=by
 obtain⟨z,y,xs,r,o,es,ep,h1,h2,h3,h4,h5⟩:=(show ObjOk P w H h a (.dT kvs) from Zg4 ok e);refine⟨z,y,xs,r,o,es,ep,h1,h2,h3,h4,fun x hx => ?_,h5⟩;have all:∀{l:List (List Key×V)} {m:List (List Key×Addr×P6)},KT H l m->∀x∈m,(tupleKind (mixKind P w)).is h x.1 x.2.1:=by
  intro l m q
  induction q with
  | nil=>intro x hx; exact nomatch hx
  | @cons p q ps qs hq t ih =>
   intro x hx;rcases Yl.mp hx with e | hx
   ·subst e;exact Zc1 ok (by rw[<-hq.1]; exact hq.2.1)
   ·exact ih x hx
 exact all r x hx
theorem Zns{kvs:List (List Key×V)}(ok:HOk P w H h)(e:H a=some (.dT kvs)):kvs.length<=sizeLine/\(a == sysModules)=false /\
  ∃xs,KT H kvs xs/\h.DictOfH (tupleKind (mixKind P w)) a xs:=ZaL ok (.inl e)
end
def DGet(H:Hp)(a:Addr)(y:V)(r:Option V):Prop :=
 (∃kvs k,Rd H a (.dK kvs)/\y=kV k/\r=Zaj kvs k)\/∃kvs k b,Rd H a (.dT kvs)/\y = .ref b/\H b=some (.tup (k.map kV))/\r=Zaj kvs k
def DPut(H:Hp)(a:Addr)(y v:V)(H':Hp):Prop :=
 (∃kvs k,H a=some (.dK kvs)/\y=kV k/\kvs.length<sizeLine/\H'=upd H a (.dK (putK kvs k v))) \/
 ∃kvs k b,H a=some (.dT kvs)/\y = .ref b/\H b=some (.tup (k.map kV))/\kvs.length<sizeLine/\H'=upd H a (.dT (putK kvs k v))
theorem DGet.k{H:Hp}{a:Addr}{kvs:List (Key×V)}{k:Key}(e:H a=some (.dK kvs)):DGet H a (kV k) (Zaj kvs k):=.inl ⟨kvs,k,.inl e,rfl,rfl⟩
theorem DGet.t{H:Hp}{a b:Addr}{kvs:List (List Key×V)}{k:List Key}(e:H a=some (.dT kvs))(eb:H b=some (.tup (k.map kV))):DGet H a (.ref b) (Zaj kvs k):=.inr ⟨kvs,k,b,.inl e,rfl,eb,rfl⟩
theorem DPut.k{H:Hp}{a:Addr}{kvs:List (Key×V)}{k:Key}{v:V}(e:H a=some (.dK kvs))(hl:kvs.length<sizeLine):DPut H a (kV k) v (upd H a (.dK (putK kvs k v))):=.inl ⟨kvs,k,e,rfl,hl,rfl⟩
theorem DPut.t{H:Hp}{a b:Addr}{kvs:List (List Key×V)}{k:List Key}{v:V}(e:H a=some (.dT kvs))(eb:H b=some (.tup (k.map kV)))(hl:kvs.length<sizeLine) :
  DPut H a (.ref b) v (upd H a (.dT (putK kvs k v))):=.inr ⟨kvs,k,b,e,rfl,eb,hl,rfl⟩
section
variable{X:Cx}{pins:List (Addr×Obj)}{σ:St}{H:Hp}{s:P0}{a:Addr}{y v:V}{u r:P6}{o:Option V}{A:P3}{E:P6->P0->Prop}
theorem Inv.big(I:Inv X pins σ H s):sysModules<s.heap.objs.size:=by
 have h:mainGlobals<s.heap.objs.size:=(I.mod.glob.keeps I.bk).lt;exact UD (by decide) h
theorem Zok{Q:P6->P0->Prop}(hu:A.units+1<cLine)(I:Inv X pins σ H s)(g:DGet H a y (some v))(ry:RelV y u)(h:∀w' s',Inv X pins σ H s'->RelV v w'->Q w' s') :
  wpAny (model X.prog X.w) A (getItem (.ref a) u) Q E s:=by
 rcases g with⟨kvs,k,e,ey,l⟩ | ⟨kvs,k,b,e,ey,eb,l⟩
 ·subst ey;obtain⟨z,hd,vs,rel,dd⟩:=ZbP I.hok e;obtain⟨w',hw,rw'⟩:=RelO.some_of (v:=v) (o:=valueAt vs k) (by rw[l]; exact rel.val k);exact wpAny_getItem_of (Zeu ry) dd.mapOf hw (h w' _ (I.tok _) rw')
 ·subst ey;cases (show u=Value.ref b from ry);obtain⟨z,hd,xs,rel,dd⟩:=ZaL I.hok e;obtain⟨w',hw,rw'⟩:=RelO.some_of (v:=v) (o:=(atKey xs k).map (·.2)) (by rw[l]; exact rel.val k);obtain⟨p,hp,hp2⟩:=WC.mp hw;refine wpAny_getItem_heap (Qp hu) (Zc1 I.hok eb) dd hp ?_;rw[hp2];exact h w' _ (I.tok _) rw'
theorem Zit{h':Heap}{t':Nat}{ob:HO}(I:Inv X pins σ H s)(mu:Mut (H a))(hs:Heap.SameBut a s.heap h')(he:∃q,h'.get? a=some q)(new:ObjOk X.prog X.w (upd H a ob) h' a ob) :
  Inv X pins σ (upd H a ob) { s with heap:=h',toks:=t' } :=
 I.write (x:=a) (e:=a) mu (.inl rfl) (fun b q hb z=>(hs.2 b hb).trans z) he new
theorem ZnO{P:P4}{w:World}{H':Hp}{h':Heap}{kvs:List (Key×V)}{vs:List (Key×P6)}(z:kvs.length<=sizeLine)(hd:(a == sysModules)=false)(rel:KV kvs vs)(dd:h'.DictOf (mixKind P w) a vs) :
  ObjOk P w H' h' a (.dK kvs):=⟨z,hd,vs,rel,dd⟩
theorem ZnX{H':Hp}{Q:Unit->P0->Prop}(hu:A.units+1<cLine)(I:Inv X pins σ H s)(g:DPut H a y v H')(ry:RelV y u)(rv:RelV v r)(h:∀s',Inv X pins σ H' s'->Q () s') :
  wpAny (model X.prog X.w) A (setItem (.ref a) u r) Q E s:=by
 rcases g with⟨kvs,k,e,ey,l,eH⟩ | ⟨kvs,k,b,e,ey,eb,l,eH⟩
 ·subst ey eH;obtain⟨z,hd,vs,rel,dd⟩:=Zpz I.hok e;have hz:vs.length<=sizeLine:=by rw[<-rel.length]; exact z
  have hl:(putK kvs k v).length<=sizeLine:=by have:=ZjN kvs k v; omega
  refine wpAny_setItem_pairs (hsz:=hz) (Zeu ry) dd fun h' dd' hs=>h _ ?_;have he:∃q,h'.get? a=some q:=let ⟨q,_,_,hq,_⟩:=dd'; ⟨q,hq⟩
  exact Zit I (by rw[e]; exact True.intro) hs he (ZnO hl hd (rel.put k rv) dd')
 ·subst ey eH;cases (show u=Value.ref b from ry);obtain⟨z,hd,xs,rel,dd⟩:=Zns I.hok e;have hz:xs.length<=sizeLine:=by rw[<-Paired.length rel]; exact z
  have hl:(putK kvs k v).length<=sizeLine:=by have:=ZjN kvs k v; omega
  refine wpAny_setItem_heap (hsz:=hz) (Qp hu) (Zc1 I.hok eb) dd fun h' dd' hs=>h _ ?_;obtain⟨q,es,ep,hq,h2,h3,h4,_,h5⟩:=dd';refine Zit I (by rw[e]; exact True.intro) hs ⟨q,hq⟩ ⟨hl,hd,_,(rel.put k eb rv).keeps fun c ys ec => ?_,q,es,ep,hq,h2,h3,h4,h5⟩;rw[Zk (ne_of ec e (fun z=>nomatch z))];exact ec
end
section
variable{X:Cx}{pins:List (Addr×Obj)}{σ:St}{H:Hp}{s:P0}{a:Addr}{kvs:List (Key×V)}{k:Key}{u:P6}{A:P3}{E:P6->P0->Prop}
theorem Zmw{Q:P6->P0->Prop}(I:Inv X pins σ H s)(e:Rd H a (.dK kvs))(h:∀t s',Inv X pins σ H s'->Q (.int kvs.length t) s'):wpAny (model X.prog X.w) A (call (.builtin "len") [.ref a]) Q E s:=by
 obtain⟨z,hd,vs,rel,dd⟩:=ZbP I.hok e;refine call_len_dict hd dd (by rw[<-rel.length]; rw[YN] at z; omega) ?_;rw[<-rel.length];exact h _ _ (I.tok _)
end
def Zga(i:Expr):Prop:=∀ov iv,subscripted i false ov iv=operate [ov,iv] (getItem ov iv)
theorem Zh6{prog:P4}{w:World}{A:P3}{E:P6->P0->Prop}{s:P0}{env:Env}{value slice:Expr}{pos:Pos}{T id:String}{Q:P6->P0->Prop}
  (hl:typeLookup (.type T) "__getitem__" = pure (some (.builtin id))) (hs:Zga slice)
  (h:wpAny (model prog w) A (eval value env) (fun o s₁=>wpAny (model prog w) A (eval slice env) (fun i s₂=>s₂.TypeIs o T/\wpAny (model prog w) A (getItem o i) Q E s₂) E s₁) E s) :
  wpAny (model prog w) A (eval (.Subscript value slice pos) env) Q E s:=by
 refine Subscript_ (YM h (fun o s₁ h₁=>YM h₁ (fun i s₂ h₂ => ?_) fun _ _ x=>x) fun _ _ x=>x);obtain⟨hT,h₂⟩:=h₂;unfold subscriptTail;refine Ya ?_;rw[getitemInPython_of_ne hT.not_modules];refine Ya (wpAny_specialOf hT hl ?_);have fin:wpAny (model prog w) A (subscripted slice false o i) (fun r s₃=>wpAny (model prog w) A (letTemporaryGo value o r >>= fun _=>pure r) Q E s₃) E s₂:=by
  rw[hs o i];exact wpAny_operating (YM h₂ (fun r s₃ h₃=>Ya (wpAny_letTemporaryGo (Yb h₃))) fun _ _ x=>x)
 first
  | exact Yb (Ya fin)
  | exact Ya (Yb (Ya fin))
  | exact Ya fin
theorem Zpl{X:Cx}{pins:List (Addr×Obj)}{σ:St}{H:Hp}{s:P0}{a:Addr}{y:V}{o:Option V}(I:Inv X pins σ H s)(g:DGet H a y o):s.TypeIs (.ref a) "dict":=by
 rcases g with⟨kvs,k,e,_,_⟩ | ⟨kvs,k,b,e,_,_,_⟩
 ·obtain⟨_,_,vs,_,dd⟩:=ZbP I.hok e;exact dd.typeIs
 ·obtain⟨_,_,xs,_,dd⟩:=ZaL I.hok e;exact dd.typeIs
def ZkU(td ty:TE):TE:=fun σ H Q=>td σ H fun x H1=>ty σ H1 fun y H2 => ∃a v,x = .ref a/\DGet H2 a y (some v)/\Q v H2
def Zlf(td ty tv:TE):TS:=fun D σ H=>tv σ H fun v H1=>td σ H1 fun x H2=>ty σ H2 fun y H3 => ∃a H4,x = .ref a/\DPut H3 a y v H4/\D.nx σ H4
section
variable{X:Cx}{o i e value:Expr}{pos pos' tpos:Pos}{td ty tv:TE}
theorem ZkV(hu:X.A.units+1<cLine)(ho:PE X o td)(hi:PE X i ty)(hs:Zga i):PE X (.Subscript o i pos) (ZkU td ty):=by
 intro pins s σ H Q I h;refine Zh6 Uz.lookup hs (thn (ho pins s σ H _ I h) fun u s1 ⟨x,H1,I1,rx,q1⟩=>thn (hi pins s1 σ H1 _ I1 q1) fun iv s2 ⟨y,H2,I2,ry,a,v,ex,g,q2⟩ => ?_);subst ex;obtain rfl:u=Value.ref a:=rx;exact⟨Zpl I2 g,Zok hu I2 g ry fun w' s3 I3 rw'=>⟨v,H2,I3,rw',q2⟩⟩
theorem Zmv(hu:X.A.units+1<cLine)(ho:PE X o td)(hi:PE X i ty)(hv:PE X value tv)(hs:swapsWith value (some (.Subscript o i pos')) pos.line X.env=pure false) :
  PS X (.Assign [.Subscript o i pos'] value pos) (Zlf td ty tv):=by
 intro pins s σ H D I h;refine wpAny_Assign_Subscript (thn (hv pins s σ H _ I h) fun r s1 ⟨v,H1,I1,rv,q1⟩=>thn (ho pins s1 σ H1 _ I1 q1) fun u s2 ⟨x,H2,I2,rx,q2⟩=>thn (hi pins s2 σ H2 _ I2 q2) fun iv s3 ⟨y,H3,I3,ry,a,H4,ex,g,q3⟩ => ?_) hs;subst ex;obtain rfl:u=Value.ref a:=rx;exact ZnX hu I3 g ry rv fun s4 I4=>⟨σ,H4,I4,q3⟩
end
theorem Zkk{P:P4}{w:World}{H:Hp}(h:Heap)(hb:sysModules<h.objs.size):ObjOk P w H (h.push { cls:=.type "dict",data:=.dict #[] }) h.objs.size (.dK []) :=
 ⟨YT _,Vn.mpr (YW (Yr hb)),[],.nil,Heap.DictOf.new h⟩
theorem Zpr{P:P4}{w:World}{H:Hp}(h:Heap)(hb:sysModules<h.objs.size):ObjOk P w H (h.push { cls:=.type "dict",data:=.dict #[] }) h.objs.size (.dT []) :=
 ⟨YT _,Vn.mpr (YW (Yr hb)),[],.nil,_,#[],0,Ym _ rfl,⟨rfl,rfl,rfl⟩,rfl,rfl,QK⟩
def Zne:TE:=fun _ H Q => ∀p,H p=none->Q (.ref p) (upd H p (.dK []))
def Zo8:TE:=fun _ H Q => ∀p,H p=none->Q (.ref p) (upd H p (.dT []))
section
variable{X:Cx}{pos:Pos}
theorem ZpP:PE X (.Dict [] [] pos) Zne:=fun pins s σ H Q I h =>
 wpAny_Dict_empty ⟨.ref s.heap.objs.size,_,I.laid (a:=s.heap.objs.size) (o:=.dK []) (t':=s.toks) (fun _ _ q=>Yc _ q) (Yj _) (Zkk s.heap I.big),rfl,h _ (I.hok.fresh (Yj _))⟩
theorem ZmC:PE X (.Dict [] [] pos) Zo8:=fun pins s σ H Q I h =>
 wpAny_Dict_empty ⟨.ref s.heap.objs.size,_,I.laid (a:=s.heap.objs.size) (o:=.dT []) (t':=s.toks) (fun _ _ q=>Yc _ q) (Yj _) (Zpr s.heap I.big),rfl,h _ (I.hok.fresh (Yj _))⟩
end
def ZkN(kvs more:List (Key×V)):List (Key×V):=more.foldl (fun acc kv=>putK acc kv.1 kv.2) kvs
theorem KV.merge:∀{more:List (Key×V)} {rs:List (Key×P6)} {kvs:List (Key×V)} {vs:List (Key×P6)},KV more rs->KV kvs vs->KV (ZkN kvs more) (merged vs rs):=by
 intro more rs kvs vs r;unfold KV at r
 induction r generalizing kvs vs with
 | nil=>intro q; exact q
 | @cons p q ps qs h t ih =>
  intro r0;have e:KV (putK kvs p.1 p.2) (stored vs q.1 q.2):=by
   have:=r0.put p.1 h.2;rw[<-h.1]; exact this
  exact ih e
structure M2(X:Cx)(o:Expr)(m:Str)(apos:Pos)(e f:Expr)(cpos:Pos):Prop where
 base:attributeBase o m X.env (eval o X.env)=eval o X.env
 few:((backTo cpos (starEach [e,f] X.env)).all (fun x => !x.1) && (backToKw cpos (keywordEach [] X.env)).all (fun x=>x.1.isSome)
  && decide (([e,f]:List Expr).length+([]:List Keyword).length+(if ([]:List Keyword).isEmpty then 0 else 1)<30))=true
 line:(apos.endLine == cpos.line)=true
 trees:backTo cpos (starEach [e,f] X.env)=[(false,eval e X.env),(false,eval f X.env)]
def IsD(H:Hp)(a:Addr):Prop:=(∃kvs,Rd H a (.dK kvs))\/∃kvs,Rd H a (.dT kvs)
theorem Zmh{X:Cx}{pins:List (Addr×Obj)}{σ:St}{H:Hp}{s:P0}{a:Addr}(I:Inv X pins σ H s)(d:IsD H a) :
  s.TypeIs (.ref a) "dict"/\(∀b,Value.ref a = .ref b->∃ob,s.heap.get? b=some ob/\ob.dict=none)/\(a == sysModules)=false:=by
 rcases d with⟨kvs,e⟩ | ⟨kvs,e⟩
 ·obtain⟨_,hd,vs,_,dd⟩:=ZbP I.hok e;refine⟨dd.typeIs,fun b q => ?_,hd⟩;cases q;obtain⟨ob,_,_,h1,h2,_⟩:=dd;exact⟨ob,h1,h2.2.1⟩
 ·obtain⟨_,hd,xs,_,dd⟩:=ZaL I.hok e;refine⟨dd.typeIs,fun b q => ?_,hd⟩;cases q;obtain⟨ob,_,_,h1,h2,_⟩:=dd;exact⟨ob,h1,h2.2.1⟩
section
variable{X:Cx}{pins:List (Addr×Obj)}{σ:St}{H:Hp}{s:P0}{a:Addr}{y d:V}{u r:P6}{o:Option V}{A:P3}{E:P6->P0->Prop}
theorem Zn4{Q:P6->P0->Prop}(hu:A.units+1<cLine)(I:Inv X pins σ H s)(g:DGet H a y o)(ry:RelV y u)(rd:RelV d r)(h:∀w' s',Inv X pins σ H s'->RelV (o.getD d) w'->Q w' s') :
  wpAny (model X.prog X.w) A (call (.builtin "dict.get") [.ref a,u,r]) Q E s:=by
 rcases g with⟨kvs,k,e,ey,l⟩ | ⟨kvs,k,b,e,ey,eb,l⟩
 ·subst ey;obtain⟨z,hd,vs,rel,dd⟩:=ZbP I.hok e;refine call_meetsIn V3 dd.typeIs PySem.F.entry_dict_get (PySem.F.args_dict_get_3 _ _ _) (meets_dict_get_default (mixKind X.prog X.w) a (Zeu ry) hd r) ⟨_,dd.mapOf,h _ _ (I.tok _) ?_⟩;rw[l];exact (rel.val k).getD rd
 ·subst ey;cases (show u=Value.ref b from ry);obtain⟨z,hd,xs,rel,dd⟩:=ZaL I.hok e;refine call_meetsIn V3 dd.typeIs PySem.F.entry_dict_get (PySem.F.args_dict_get_3 _ _ _) (meetsH_dict_get_default (tupleKind (mixKind X.prog X.w)) a b hd r) ⟨Qp hu,k,xs,Zc1 I.hok eb,dd,h _ _ (I.tok _) ?_⟩;rw[l];exact (rel.val k).getD rd
end
def Zlp(td ty tx:TE):TE:=fun σ H Q=>td σ H fun x H1 => ∃a,x = .ref a/\IsD H1 a/\ty σ H1 fun y H2=>tx σ H2 fun z H3 => ∃o,DGet H3 a y o/\Q (o.getD z) H3
section
variable{X:Cx}{o e f:Expr}{apos cpos:Pos}{td ty tx:TE}
theorem Zko(hu:X.A.units+1<cLine)(ho:PE X o td)(he:PE X e ty)(hf:PE X f tx)(m:M2 X o "get" apos e f cpos):PE X (.Call (.Attribute o "get" apos) [e,f] [] cpos) (Zlp td ty tx):=by
 intro pins s σ H Q I h;refine wpAny_Call_method m.base m.few m.line PySem.F.plainAttrs_dict V3 PySem.F.type_dict_get (thn (ho pins s σ H _ I h) fun u s1 ⟨x,H1,I1,rx,a,ex,d,q1⟩ => ?_);subst ex;obtain rfl:u=Value.ref a:=rx;obtain⟨t1,t2,_⟩:=Zmh I1 d;refine⟨t1,t2,?_⟩;rw[m.trees];refine VN rfl (Calls.evalArgs_plain (Qn (thn (he pins s1 σ H1 _ I1 q1) fun iv s2 ⟨y,H2,I2,ry,q2⟩ =>
  Qn (thn (hf pins s2 σ H2 _ I2 q2) fun fv s3 ⟨z,H3,I3,rz,ov,g,q3⟩=>Q7 ?_))))
 exact Zn4 hu I3 g ry rz fun w' s4 I4 rw'=>⟨_,H3,I4,rw',q3⟩
end
section
variable{X:Cx}
theorem Zav:Za5 X (.builtin "len") (fun xs H Q => ∃a kvs,xs=[V.ref a]/\H a=some (.dK kvs)/\Q (.int kvs.length) H):=by
 intro pins s σ H xs us Q I r h;obtain⟨a,kvs,rfl,ha,q⟩:=h;obtain⟨u,rfl,ru⟩:=vals1 r;cases ru;exact Zmw I (.inl ha) fun t s' I'=>⟨.int kvs.length,H,I',⟨t,rfl⟩,q⟩
end
end L2
end
section
namespace DL
open PySem PySem.Spec PyProof.Rows L2
section
variable{κ:Type}[DecidableEq κ](f:D->Option κ)
def ZF:List (D×D)->D->Option D
 | [],_=>none
 | p :: r,k=>if f p.1=f k then some p.2 else ZF r k
def hasD(ds:List (D×D))(k:D):Bool:=ds.any fun p=>decide (f p.1=f k)
def putD(ds:List (D×D))(k v:D):List (D×D) :=
 if hasD f ds k=true then ds.map (fun p=>if f p.1=f k then (p.1,v) else p) else ds++[(k,v)]
end
def RelO'(K:P1)(O:List Addr)(H:Hp):Option D->Option V->Prop
 | none,none=>True
 | some d,some v=>Rep K O H d v
 | _,_=>False
section
variable{κ:Type}[DecidableEq κ]{f:D->Option κ}{K:P1}{O:List Addr}{H:Hp}
theorem ZhA(k:D):∀ds:List (D×D),hasD f ds k=(ZF f ds k).isSome
 | []=>rfl
 | p :: r=>by
  unfold hasD;rw[QW];by_cases e:f p.1=f k
  ·simp[ZF,e]
  ·rw[YQ e,Bool.false_or];have:=ZhA k r;unfold hasD at this;rw[this,ZF,Yh e]
theorem Zbw{k:D}{q:κ}(hk:f k=some q):∀{ds:List (D×D)} {vs:List (κ×V)},Kvs K f O H ds vs->RelO' K O H (ZF f ds k) (Zaj vs q)
 | [],vs,h=>by
  cases (show vs=[] from h);exact trivial
 | (a,d) :: ds,vs,h=>by
  obtain⟨qa,v,r,rfl,ha,hr,ht⟩:=(show ∃q v r,vs=(q,v) :: r/\f a=some q/\Rep K O H d v/\Kvs K f O H ds r from h);by_cases e:qa=q
  ·have e':f (a,d).1=f k:=by rw[hk]; show f a=_; rw[ha,e]
   rw[ZF,Yi e',Zeo (p:=(qa,v)) e];exact hr
  ·have e':¬ f (a,d).1=f k:=by
    rw[hk]; show ¬ f a=_; rw[ha]; intro z; exact e (Option.some.inj z)
   rw[ZF,Yh e',Zee (p:=(qa,v)) e];exact Zbw hk ht
theorem RelO'.isSome{a:Option D}{b:Option V}(h:RelO' K O H a b):b.isSome=a.isSome:=by
 cases a <;> cases b <;> first | rfl | exact h.elim
theorem ZfT:∀{ds:List (D×D)} {vs:List (κ×V)},Kvs K f O H ds vs->vs.length=ds.length
 | [],vs,h=>by
  cases (show vs=[] from h);rfl
 | (a,d) :: ds,vs,h=>by
  obtain⟨qa,v,r,rfl,ha,hr,ht⟩:=(show ∃q v r,vs=(q,v) :: r/\f a=some q/\Rep K O H d v/\Kvs K f O H ds r from h);simp[ZfT ht]
theorem ZhH{k d:D}{q:κ}{v:V}(hk:f k=some q)(hr:Rep K O H d v):∀{ds:List (D×D)} {vs:List (κ×V)},Kvs K f O H ds vs->Kvs K f O H (ds++[(k,d)]) (vs++[(q,v)])
 | [],vs,h=>by
  cases (show vs=[] from h);exact⟨q,v,[],rfl,hk,hr,rfl⟩
 | (a,d) :: ds,vs,h=>by
  obtain⟨qa,w,r,rfl,ha,hw,ht⟩:=(show ∃q v r,vs=(q,v) :: r/\f a=some q/\Rep K O H d v/\Kvs K f O H ds r from h);exact⟨qa,w,r++[(q,v)],rfl,ha,hw,ZhH hk hr ht⟩
theorem ZgR{k d:D}{q:κ}{v:V}(hk:f k=some q)(hr:Rep K O H d v):∀{ds:List (D×D)} {vs:List (κ×V)},Kvs K f O H ds vs ->
  Kvs K f O H (ds.map fun p=>if f p.1=f k then (p.1,d) else p) (vs.map fun kv=>if kv.1=q then (kv.1,v) else kv)
 | [],vs,h=>by
  cases (show vs=[] from h);exact rfl
 | (a,e) :: ds,vs,h=>by
  obtain⟨qa,w,r,rfl,ha,hw,ht⟩:=(show ∃q v r,vs=(q,v) :: r/\f a=some q/\Rep K O H e v/\Kvs K f O H ds r from h);have ih:=ZgR hk hr ht;rw[Ys,Ys];by_cases z:qa=q
  ·have z':f (a,e).1=f k:=by rw[hk]; show f a=_; rw[ha,z]
   rw[Yi z',Yi (show (qa,w).1=q from z)];exact⟨qa,v,_,rfl,ha,hr,ih⟩
  ·have z':¬ f (a,e).1=f k:=by
    rw[hk]; show ¬ f a=_; rw[ha]; intro y; exact z (Option.some.inj y)
   rw[Yh z',Yh (show ¬ (qa,w).1=q from z)];exact⟨qa,w,_,rfl,ha,hw,ih⟩
theorem ZiE{k d:D}{q:κ}{v:V}(hk:f k=some q)(hr:Rep K O H d v){ds:List (D×D)}{vs:List (κ×V)}(h:Kvs K f O H ds vs):Kvs K f O H (putD f ds k d) (putK vs q v):=by
 unfold putD putK;rw[ZhA,Zfm,(Zbw hk h).isSome];split
 ·exact ZgR hk hr h
 ·exact ZhH hk hr h
end
theorem Zd7{K:P1}{O:List Addr}{H:Hp}{d:D}{q:Key}{v:V}(h:Zx d=some q)(r:Rep K O H d v):v=kV q:=by
 cases d with
 | int i =>
  cases (show some (Sum.inl i)=some q from h);exact Rep.int_i.mp r
 | str x =>
  cases (show some (Sum.inr x)=some q from h);exact Rep.str_i.mp r
 | _=>cases h
theorem Ziw{K:P1}{O:List Addr}{H:Hp}:∀{ds:List D} {qs:List Key} {vs:List V},ZaR ds=some qs->Reps K O H ds vs->vs=qs.map kV
 | [],qs,vs,h,r=>by
  cases (show some []=some qs from h);exact (by unfold Reps at r; exact r)
 | d :: ds,qs,vs,h,r=>by
  unfold ZaR at h;unfold Reps at r;obtain⟨v,w,rfl,hv,hw⟩:=r;split at h
  ·rename_i k ks h1 h2;cases h;rw[Zd7 h1 hv,Ziw h2 hw];rfl
  ·cases h
theorem Zet{K:P1}{O:List Addr}{H:Hp}{d:D}{q:List Key}{v:V}(h:Zq d=some q)(r:Rep K O H d v):∃b,v = .ref b/\H b=some (.tup (q.map kV)):=by
 cases d with
 | tup ds =>
  rw[Rep.tup_i] at r;obtain⟨a,vs,rfl,e,rs⟩:=r;have h':ZaR ds=some q:=h;rw[Ziw h' rs] at e;exact⟨a,rfl,e⟩
 | _=>cases h
def dAt(st:Sto)(d k:D):Option (Option D):=match d with
 | .res i=>match st[i]? with
  | some (.dct ds)=>if (Zx k).isSome=true then some (ZF Zx ds k) else none
  | some (.fdc ds)=>if (Zx k).isSome=true then some (ZF Zx ds k) else none
  | some (.dtt ds)=>if (Zq k).isSome=true then some (ZF Zq ds k) else none
  | some (.fdt _ ds)=>if (Zq k).isSome=true then some (ZF Zq ds k) else none
  | _=>none
 | _=>none
theorem Zgu{K:P1}{O:List Addr}{H:Hp}{st:Sto}{d k:D}{o:Option D}{x y:V}(W:WR K O H st)(h:dAt st d k=some o)(rx:Rep K O H d x)(ry:Rep K O H k y) :
  ∃a ov,x = .ref a/\DGet H a y ov/\RelO' K O H o ov:=by
 cases d with
 | res i =>
  rw[Rep.res_i] at rx;obtain⟨a,rfl,q⟩:=rx;unfold dAt at h;dsimp only at h;cases e:st[i]? with
  | none=>rw[e] at h; cases h
  | some s =>
   rw[e] at h;cases s with
   | lst xs=>cases h
   | ins C fs=>cases h
   | tab P b=>cases h
   | dct ds =>
    obtain⟨vs,e2,kv⟩:=W.at_ _ _ _ q e;dsimp only at h;cases hk:Zx k with
    | none=>rw[hk] at h; cases h
    | some c =>
     rw[hk] at h;cases h;cases Zd7 hk ry;exact⟨a,_,rfl,DGet.k e2,Zbw hk kv⟩
   | fdc ds =>
    obtain⟨ob,vs,e2,kv⟩:=W.at_ _ _ _ q e;dsimp only at h;cases hk:Zx k with
    | none=>rw[hk] at h; cases h
    | some c =>
     rw[hk] at h;cases h;cases Zd7 hk ry;exact⟨a,_,rfl,(.inl ⟨_,_,.inr ⟨_,e2⟩,rfl,rfl⟩),Zbw hk kv⟩
   | dtt ds =>
    obtain⟨vs,e2,kv⟩:=W.at_ _ _ _ q e;dsimp only at h;cases hk:Zq k with
    | none=>rw[hk] at h; cases h
    | some c =>
     rw[hk] at h;cases h;obtain⟨b,rfl,hb⟩:=Zet hk ry;exact⟨a,_,rfl,DGet.t e2 hb,Zbw hk kv⟩
   | fdt ob ds =>
    obtain⟨vs,e2,kv⟩:=W.at_ _ _ _ q e;dsimp only at h;cases hk:Zq k with
    | none=>rw[hk] at h; cases h
    | some c =>
     rw[hk] at h;cases h;obtain⟨b,rfl,hb⟩:=Zet hk ry;exact⟨a,_,rfl,(.inr ⟨_,_,_,.inr ⟨_,e2⟩,rfl,hb,rfl⟩),Zbw hk kv⟩
 | _=>cases h
def ZaX(st:Sto)(d k v:D):Option Sto:=match d with
 | .res i=>match st[i]? with
  | some (.dct ds)=>if (Zx k).isSome=true/\ds.length<small then some (st.set i (.dct (putD Zx ds k v))) else none
  | some (.dtt ds)=>if (Zq k).isSome=true/\ds.length<small then some (st.set i (.dtt (putD Zq ds k v))) else none
  | _=>none
 | _=>none
theorem Zmo{K:P1}{O:List Addr}{H:Hp}{st st':Sto}{d k z:D}{x y w:V}(W:WR K O H st)(h:ZaX st d k z=some st')(rx:Rep K O H d x)(ry:Rep K O H k y)(rw':Rep K O H z w) :
  ∃a H',x = .ref a/\DPut H a y w H'/\Keep K O H O H'/\WR K O H' st':=by
 cases d with
 | res i =>
  rw[Rep.res_i] at rx;obtain⟨a,rfl,q⟩:=rx;unfold ZaX at h;dsimp only at h;cases e:st[i]? with
  | none=>rw[e] at h; cases h
  | some s =>
   rw[e] at h;cases s with
   | lst xs=>cases h
   | ins C fs=>cases h
   | fdc ds=>cases h
   | fdt o ds=>cases h
   | tab P b=>cases h
   | dct ds =>
    obtain⟨vs,e2,kv⟩:=W.at_ _ _ _ q e;dsimp only at h;split at h
    ·rename_i hc;cases hk:Zx k with
     | none=>rw[hk] at hc; cases hc.1
     | some c =>
      cases h;cases Zd7 hk ry;refine⟨a,_,rfl,DPut.k e2 (by rw[ZfT kv]; exact Yq hc.2 ZaJ),Keep.write W q,W.write q ?_⟩;exact⟨_,ZW,Kvs.mono (Keep.write W q) _ _ (ZiE hk rw' kv)⟩
    ·cases h
   | dtt ds =>
    obtain⟨vs,e2,kv⟩:=W.at_ _ _ _ q e;dsimp only at h;split at h
    ·rename_i hc;cases hk:Zq k with
     | none=>rw[hk] at hc; cases hc.1
     | some c =>
      cases h;obtain⟨b,rfl,hb⟩:=Zet hk ry;refine⟨a,_,rfl,DPut.t e2 hb (by rw[ZfT kv]; exact Yq hc.2 ZaJ),Keep.write W q,W.write q ?_⟩;exact⟨_,ZW,Kvs.mono (Keep.write W q) _ _ (ZiE hk rw' kv)⟩
    ·cases h
 | _=>cases h
def ZeH(fo fi:DE):DE:=fun ρ st=>(fo ρ st).bind fun d st1=>(fi ρ st1).bind fun k st2=>match dAt st2 d k with
 | some (some v) => .ok v st2
 | _ => .bad
def ZdX:DE:=fun _ st => .ok (.res st.length) (st++[.dct []])
def ZaQ:DE:=fun _ st => .ok (.res st.length) (st++[.dtt []])
def Zbt(fo fi fv:DE):DS:=fun ρ st=>(fv ρ st).to fun v st1=>(fo ρ st1).to fun d st2=>(fi ρ st2).to fun k st3=>match ZaX st3 d k v with
 | some st4 => .nx ρ st4
 | _ => .bad
section
variable{X:Cx}{EX:EXT}{a b c e o i:Expr}{fa fb fc fo fi fv:DE}{pos p p2 apos cpos:Pos}
theorem Zph(hu:X.A.units+64<cLine)(ho:PD X EX o fo)(hi:PD X EX i fi)(hs:Zga i:=by intro _ _; rfl):PD X EX (.Subscript o i pos) (ZeH fo fi):=by
 refine PE.mono (ZkV (by omega) ho hi hs) ?_;rintro σ H Q ⟨O,ρ,st,W,E,R⟩;refine⟨O,ρ,st,W,E,R.bind.mono fun d st1 O1 H1 k1 W1 R1 x rx => ?_⟩;refine⟨O1,ρ,st1,W1,E.mono k1,R1.bind.mono fun k st2 O2 H2 k2 W2 R2 y ry => ?_⟩;split at R2
 ·rename_i v hv;obtain⟨a,ov,rfl,g,rel⟩:=Zgu W2 hv (Rep.mono k2 _ _ rx) ry;cases ov with
  | none=>exact rel.elim
  | some w=>exact⟨a,w,rfl,g,Run.now (k:=Val X.K Q) R2 W2 _ rel⟩
 ·exact R2.elim
theorem Zod:PD X EX (.Dict [] [] pos) ZdX:=by
 refine PE.mono ZpP ?_;rintro σ H Q ⟨O,ρ,st,W,E,R⟩ p hp;exact R (O++[p]) _ (Keep.push hp) (W.push' hp ⟨[],ZW,rfl⟩) _ (Rep.res_i.mpr ⟨p,rfl,by rw[<-W.len]; simp⟩)
theorem Zdx:PD X EX (.Dict [] [] pos) ZaQ:=by
 refine PE.mono ZmC ?_;rintro σ H Q ⟨O,ρ,st,W,E,R⟩ p hp;exact R (O++[p]) _ (Keep.push hp) (W.push' hp ⟨[],ZW,rfl⟩) _ (Rep.res_i.mpr ⟨p,rfl,by rw[<-W.len]; simp⟩)
theorem Zcv(hu:X.A.units+64<cLine)(ho:PD X EX o fo)(hi:PD X EX i fi)(hv:PD X EX e fv)(hs:swapsWith e (some (.Subscript o i p)) pos.line X.env=pure false:=by rfl) :
  PDs X EX (.Assign [.Subscript o i p] e pos) (Zbt fo fi fv):=by
 refine PS.mono (Zmv (by omega) ho hi hv hs) ?_;rintro Dn σ H ⟨O,ρ,st,W,E,R⟩;refine⟨O,ρ,st,W,E,R.to.mono fun w st1 O1 H1 k1 W1 R1 v r => ?_⟩;refine⟨O1,ρ,st1,W1,E.mono k1,R1.to.mono fun d st2 O2 H2 k2 W2 R2 u r2 => ?_⟩;refine⟨O2,ρ,st2,W2,E.mono (k1.trans k2),R2.to.mono fun j st3 O3 H3 k3 W3 R3 z r3 => ?_⟩;split at R3
 ·rename_i st4 h4;obtain⟨a,H4,rfl,g,kp,W4⟩:=Zmo W3 h4 (Rep.mono k3 _ _ r2) r3 (Rep.mono (k2.trans k3) _ _ r);exact⟨a,H4,rfl,g,R3 O3 H4 σ kp W4 (E.mono (k1.trans (k2.trans (k3.trans kp))))⟩
 ·exact R3.elim
end
section
variable{fo fi fv:DE}{ρ:Ev}{st:Sto}{C:Addr}{x:Str}
theorem Zo2:ZeH fo fi ρ st=(fo ρ st).bind fun d st1=>(fi ρ st1).bind fun k st2=>match dAt st2 d k with
 | some (some v) => .ok v st2
 | _ => .bad:=rfl
theorem ZcH:Zbt fo fi fv ρ st=(fv ρ st).to fun v st1=>(fo ρ st1).to fun d st2=>(fi ρ st2).to fun k st3=>match ZaX st3 d k v with
 | some st4 => .nx ρ st4
 | _ => .bad:=rfl
@[simp] theorem ZqY:ZdX ρ st = .ok (.res st.length) (st++[.dct []]):=rfl
@[simp] theorem Zrm:ZaQ ρ st = .ok (.res st.length) (st++[.dtt []]):=rfl
end
end DL
end
section
namespace SO
open PySem PySem.W PyProof.Rows
section
variable{prog:P4}{w:World}{A:P3}{E:P6->P0->Prop}{s:P0}
def tltB(a b:Str):Bool:=decide (a.cps.toList<b.cps.toList)
def tleB(a b:Str):Bool:=decide (a.cps.toList<=b.cps.toList)
theorem str_cps{a b:Str}(h:a.cps.toList=b.cps.toList):a=b:=by
 cases a; cases b;simp only at h;congr 1;exact UI.mp h
theorem ZkW{a:Addr}{vs:List P6}{ss:List Str}(h:StrsAre vs ss):Cmp prog w s a vs oneType' (fun i j=>tltB (ss.getD i default) (ss.getD j default)):=by
 refine⟨fun h2 g A E Q hg hQ => ?_,fun h2 g A E Q i j hg hi hj hQ => ?_⟩
 ·match vs,h,h2 with
  | [],_,h2=>simp at h2
  | [_],_,h2=>simp at h2
  | v1 :: v2 :: vs,h,_ =>
   rw[keyKind_strs h];exact Yb hQ
 ·have hl:=h.length;obtain⟨t,h1⟩:=h.at (j:=i) (y:=ss.getD i default) (by rw[Ye,Yd (by omega)]; rfl);obtain⟨u,h3⟩:=h.at (j:=j) (y:=ss.getD j default) (by rw[Ye,Yd (by omega)]; rfl);rw[Ye (l:=vs),Ye (l:=vs),h1,h3,keyLt'_oneType];exact oneLt_str hQ
theorem Zi6{ss:List Str}(hn:ss.Nodup):Ord ss.length (fun i j=>tltB (ss.getD i default) (ss.getD j default)):=by
 have apart:∀i j,i<ss.length->j<ss.length->i≠j->(ss.getD i default).cps.toList≠(ss.getD j default).cps.toList:=fun i j hi hj ne e=>by
  have e':=str_cps e;rw[Ye,Ye,Yd hi,Yd hj] at e';exact ne ((Qj hn).mp e')
 refine⟨fun i j hi hj ne h => ?_,fun i j hi hj h => ?_,fun i j k hi hj hk h1 h2 => ?_⟩
 ·have ha:=apart i j hi hj ne;simp only[tltB,YD,QT] at *;have h1:=Uk.mp h;by_cases h2:(ss.getD j default).cps.toList<(ss.getD i default).cps.toList
  ·exact h2
  ·exact absurd (VZ (Uk.mp h2) h1) ha
 ·simp only[tltB,YD,QT] at *;exact fun h2=>List.lt_irrefl _ (US h h2)
 ·simp only[tltB,YD] at *;exact US h1 h2
def srtS(ss:List Str):List Str:=ss.mergeSort tleB
theorem srtS_perm(ss:List Str):(srtS ss).Perm ss:=List.mergeSort_perm _ _
theorem srtS_pw(ss:List Str):(srtS ss).Pairwise (fun a b=>tleB a b=true):=by
 refine List.pairwise_mergeSort (fun a b c h1 h2 => ?_) (fun a b => ?_) ss
 ·simp only[tleB,YD] at *;exact List.le_trans h1 h2
 ·simp only[tleB,Q0,YD];exact List.le_total _ _
theorem srtS_uniq{ss qs:List Str}(hp:qs.Perm ss)(hw:qs.Pairwise (fun a b=>tltB a b=true)):qs=srtS ss:=by
 refine UK (le:=fun a b=>tleB a b=true) (fun a b _ _ h1 h2 => ?_) (hw.imp fun {a b} h => ?_) (srtS_pw ss) (hp.trans (srtS_perm ss).symm)
 ·simp only[tleB,YD] at h1 h2;exact str_cps (VZ h1 h2)
 ·simp only[tleB,tltB,YD] at *;exact Uk.mp fun h2=>List.lt_irrefl _ (US h h2)
end
end SO
namespace DL
open PySem PySem.Spec PyProof.Rows L2 PySem.W SO
def Zbd:List D->Option (List Str)
 | []=>some []
 | .str x :: ds=>(Zbd ds).map (x :: ·)
 | _ :: _=>none
theorem Zf6:∀{ds:List D} {ss:List Str},Zbd ds=some ss->ds=ss.map D.str
 | [],ss,e=>by cases e; rfl
 | d :: ds,ss,e=>by
  unfold Zbd at e;split at e
  ·rename_i h; cases h
  ·rename_i x r h;cases h;obtain⟨qs,h1,rfl⟩:=WC.mp e;rw[Zf6 h1]; rfl
  ·cases e
theorem Ze2:∀(ss:List Str),Zbd (ss.map D.str)=some ss
 | []=>rfl
 | x :: ss=>by
  show (Zbd (ss.map D.str)).map (x :: ·)=_;rw[Ze2 ss]; rfl
theorem Zij{x:Str}{v:P6}(h:Value.isStrOf x v=true):∃t,v = .str x t:=by
 unfold Value.isStrOf at h;split at h
 ·rename_i y t;exact⟨t,by rw[eq_of_beq h]⟩
 ·cases h
theorem ZhV{K:P1}{O:List Addr}{H:Hp}:∀{ds:List (D×D)} {vs:List (Key×V)} {ss:List Str},Kvs K Zx O H ds vs->ds.map (·.1)=ss.map D.str->vs.map (·.1)=ss.map Sum.inr
 | [],vs,ss,h,e=>by
  cases (show vs=[] from h);cases ss with
  | nil=>rfl
  | cons a b=>cases e
 | (k,d) :: ds,vs,ss,h,e=>by
  obtain⟨q,v,r,rfl,hk,hr,ht⟩:=(show ∃q v r,vs=(q,v) :: r/\Zx k=some q/\Rep K O H d v/\Kvs K Zx O H ds r from h);cases ss with
  | nil=>cases e
  | cons a b =>
   rw[Ys,Ys] at e;obtain⟨e1,e2⟩:=List.cons.inj e;have e1':k=D.str a:=e1;subst e1';cases (show some (Sum.inr a)=some q from hk);rw[Ys,Ys,ZhV ht e2]
theorem ZiT:∀{vs:List P6} {ss:List Str},vs.length=ss.length->(∀(i:Nat) (v:P6) (x:Str),vs[i]?=some v->ss[i]?=some x->∃t,v = .str x t)->StrsAre vs ss
 | [],[],_,_ => .nil
 | [],_ :: _,h,_=>by cases h
 | _ :: _,[],h,_=>by cases h
 | v :: vs,x :: ss,h,k=>by
  obtain⟨t,rfl⟩:=k 0 v x rfl rfl;exact .cons x t (ZiT (by simpa using h) fun i v' x' h1 h2=>k (i+1) v' x' (by simpa using h1) (by simpa using h2))
section
variable{X:Cx}{EX:EXT}
theorem Zqv{pins:List (Addr×Obj)}{s:P0}{σ:L2.St}{H:Hp}{O:List Addr}{st:Sto}{Q:VK}{its:List P6}{ss:List Str}{ix:List Nat}{a:Addr}{h1 h':Heap}{tk c:Nat}(I:Inv X pins σ H s)(W:WR X.K O H st)(hs:StrsAre its ss)
  (R:Run X.K EX O H (.ok ((srtS ss).map D.str) st) (New X.K Q)) (hp:ix.Perm (List.range ss.length)) (hw:ix.Pairwise (fun i j=>tltB (ss.getD i default) (ss.getD j default)=true)) (h64:ss.length<64)
  (k1:∀b o,s.heap.get? b=some o->h1.get? b=some o) (ha:h1.objs.size<=a) (hk:∀b o,h1.get? b=some o->h'.get? b=some o) (hg:h'.get? a=some (seqObj "list" (ix.map fun i=>its.getD i .none).toArray c)) :
  ∃v H',Inv X pins σ H' { s with heap:=h',toks:=tk }/\RelV v (.ref a)/\Q v H':=by
 have hl:=hs.length;have hix:ix.map (fun i=>ss.getD i default)=srtS ss:=by
  refine srtS_uniq ?_ (WY.mpr hw);refine (hp.map (fun i=>ss.getD i default)).trans (Vt ?_);refine Vh (by simp) fun i h1 h2 => ?_;simp[Ye,Yd h2]
 have hb:∀i∈ix,i<ss.length:=fun i hi=>by
  have:=hp.mem_iff.mp hi;simpa using this
 have I1:Inv X pins σ H { s with heap:=h1,toks:=tk }:=I.kept k1;refine⟨.ref a,upd H a (.lst (ix.map fun i=>V.str (ss.getD i default))),I1.laid hk ha ⟨?_,ix.map (fun i=>its.getD i .none),c,?_,hg⟩,rfl,?_⟩
 ·have h0:=hp.length_eq;simp only[Yp,YV] at h0 ⊢;rw[YN];omega
 ·refine Zdn ix fun i hi => ?_;have:=hb i hi;obtain⟨t,h3⟩:=hs.at (j:=i) (y:=ss.getD i default) (by rw[Ye,Yd this]; rfl);rw[Ye (l:=its),h3];exact⟨t,rfl⟩
 ·refine Run.now (k:=New X.K Q) R W a _ ?_ (I1.hok.fresh ha);rw[<-hix,Y0];exact Zde ix fun i hi=>Rep.str_i.mpr rfl
end
end DL
end
section
namespace DL
open PySem PySem.Spec PyProof.Rows L2
section
variable{K:P1}{O:List Addr}{H:Hp}
def RPs(K:P1)(O:List Addr)(H:Hp):List (D×D)->List (V×V)->Prop
 | [],vs=>vs=[]
 | p :: ps,vs => ∃x y r,vs=(x,y) :: r/\Rep K O H p.1 x/\Rep K O H p.2 y/\RPs K O H ps r
theorem RPs.mono{O':List Addr}{H':Hp}(k:Keep K O H O' H'):∀{ps:List (D×D)} {vs:List (V×V)},RPs K O H ps vs->RPs K O' H' ps vs
 | [],vs,h=>h
 | p :: ps,vs,h=>by
  obtain⟨x,y,r,e,hx,hy,ht⟩:=(show ∃x y r,vs=(x,y) :: r/\Rep K O H p.1 x/\Rep K O H p.2 y/\RPs K O H ps r from h);exact⟨x,y,r,e,Rep.mono k _ _ hx,Rep.mono k _ _ hy,RPs.mono k ht⟩
end
section
variable{X:Cx}{EX:EXT}{e o i:Expr}{fo fi fe:DE}{pos apos cpos:Pos}
def Zbi(st:Sto)(d:D):Bool:=match d with
 | .res i=>match st[i]? with
  | some (.dct _)=>true
  | some (.dtt _)=>true
  | _=>false
 | _=>false
theorem ZnV{K:P1}{O:List Addr}{H:Hp}{st:Sto}{d:D}{x:V}(W:WR K O H st)(h:Zbi st d=true)(r:Rep K O H d x):∃a,x = .ref a/\IsD H a:=by
 unfold Zbi at h;split at h
 ·rename_i j;rw[Rep.res_i] at r;obtain⟨a,rfl,q⟩:=r;split at h
  ·rename_i ds e;obtain⟨vs,e2,_⟩:=W.at_ _ _ _ q e;exact⟨a,rfl,.inl ⟨vs,.inl e2⟩⟩
  ·rename_i ds e;obtain⟨vs,e2,_⟩:=W.at_ _ _ _ q e;exact⟨a,rfl,.inr ⟨vs,.inl e2⟩⟩
  ·cases h
 ·cases h
def ZaW(fo fi fe:DE):DE:=fun ρ st=>(fo ρ st).bind fun d st1=>if Zbi st1 d=true then (fi ρ st1).bind fun k st2=>(fe ρ st2).bind fun z st3=>(match dAt st3 d k with
 | some o => .ok (o.getD z) st3
 | none => .bad) else .bad
theorem Zev(hu:X.A.units+64<cLine)(ho:PD X EX o fo)(hi:PD X EX i fi)(he:PD X EX e fe)(m:M2 X o "get" apos i e cpos:=by exact⟨rfl,rfl,rfl,rfl⟩):PD X EX (.Call (.Attribute o "get" apos) [i,e] [] cpos) (ZaW fo fi fe):=by
 refine PE.mono (Zko (by omega) ho hi he m) ?_;rintro σ H Q ⟨O,ρ,st,W,E,R⟩;refine⟨O,ρ,st,W,E,R.bind.mono fun d st1 O1 H1 k1 W1 R1 x rx => ?_⟩;by_cases hd:Zbi st1 d=true
 ·rw[Yi hd] at R1;obtain⟨a,rfl,ia⟩:=ZnV W1 hd rx;refine⟨a,rfl,ia,O1,ρ,st1,W1,E.mono k1,R1.bind.mono fun k st2 O2 H2 k2 W2 R2 y ry => ?_⟩;refine⟨O2,ρ,st2,W2,E.mono (k1.trans k2),R2.bind.mono fun z st3 O3 H3 k3 W3 R3 zv rz => ?_⟩;split at R3
  ·rename_i ov hv;obtain⟨a',w,e,g,rel⟩:=Zgu W3 hv (Rep.mono (k2.trans k3) _ _ rx) (Rep.mono k3 _ _ ry);cases e;refine⟨w,g,?_⟩;cases ov with
   | none =>
    cases w with
    | none=>exact Run.now (k:=Val X.K Q) R3 W3 _ rz
    | some _=>exact rel.elim
   | some z =>
    cases w with
    | none=>exact rel.elim
    | some w=>exact Run.now (k:=Val X.K Q) R3 W3 _ rel
  ·exact R3.elim
 ·rw[Yh hd] at R1; exact R1.elim
end
section
variable{fo fi fe:DE}{ρ:Ev}{st:Sto}
theorem Zd4:ZaW fo fi fe ρ st=(fo ρ st).bind fun d st1=>if Zbi st1 d=true then (fi ρ st1).bind fun k st2=>(fe ρ st2).bind fun z st3=>(match dAt st3 d k with
 | some o => .ok (o.getD z) st3
 | none => .bad) else .bad:=rfl
end
end DL
end
section
namespace DL
open PySem PySem.Spec PyProof.Rows L2
def ZfI:List D->Option (List Int)
 | []=>some []
 | .int x :: ds=>(ZfI ds).map (x :: ·)
 | _ :: _=>none
end DL
end
section
end
section
namespace DL
open PySem PySem.Spec PyProof.Rows L2
section
variable{X:Cx}{pins:List (Addr×Obj)}{σ:L2.St}{H:Hp}{s:P0}{d:Addr}{o:Obj}{vs:List (Key×V)}
theorem Inv.thaw(I:Inv X pins σ H s)(e:H d=some (.frz o (.dK vs)))(hn:∀ob u,X.H₀ d≠some (.frz ob u)):Inv X pins σ (upd H d (.dK vs)) s:=by
 have ne:∀b,H b=none->b≠d:=fun b q z=>by subst z; rw[e] at q; cases q
 refine⟨I.ok,I.os,I.bare,⟨I.base.keep,I.base.slot,fun b ob q n hx => ?_,I.base.there,fun b xs q => ?_,fun b ob u q => ?_,fun b ps q => ?_⟩,I.loc,I.cell,?_,fun x c hx => ?_,fun p hp => ?_,fun b u q => ?_,I.len⟩
 ·have:=I.base.free b ob q n hx;rw[Zk (ne b this)]; exact this
 ·have h:=I.base.tups b xs q;rw[Zk]; exact h;rintro rfl; rw[e] at h; cases h
 ·have h:=I.base.frzs b ob u q;rw[Zk]; exact h;rintro rfl; exact hn _ _ q
 ·obtain⟨m,h⟩:=I.base.tbls b ps q;refine⟨m,?_⟩;rw[Zk]; exact h;rintro rfl; rw[e] at h; cases h
 ·have:=I.free;rw[Zk (ne _ this)]; exact this
 ·have:=I.freeC x c hx;rw[Zk (ne _ this)]; exact this
 ·obtain⟨p1,p2,p3⟩:=I.pin p hp;exact⟨p1,by rw[Zk (ne _ p2)]; exact p2,p3⟩
 ·have st:∀{b u},ObjOk X.prog X.w H s.heap b u->ObjOk X.prog X.w (upd H d (.dK vs)) s.heap b u:=fun x=>x.stay (fun b u _ q=>q) (fun c r=>by rw[Zk (fun z=>by rw[z,e] at r; cases r)]; exact r) fun c xs r=>by rw[Zk (fun z=>by rw[z,e] at r; cases r)]; exact r
  by_cases hb:b=d
  ·subst hb;rw[ZW] at q;cases q;exact st (I.hok b _ e).2
  ·rw[Zk hb] at q;exact st (I.hok b u q)
end
end DL
end
section
namespace DL
open PySem PySem.Spec PyProof.Rows L2
theorem Zht:∀{xs:List V} {us:List P6},Vals xs us->Vals xs.reverse us.reverse
 | _,_,.nil => .nil
 | _,_,.cons r t=>by
  rw[QE,QE];exact (Zht t).append (.cons r .nil)
theorem Zfr{K:P1}{O:List Addr}{H:Hp}:∀{ds:List D} {vs:List V},Reps K O H ds vs->Reps K O H ds.reverse vs.reverse
 | [],vs,h=>by
  have e:vs=[]:=by unfold Reps at h; exact h
  subst e;exact h
 | d :: ds,vs,h=>by
  unfold Reps at h;obtain⟨v,r,rfl,h1,h2⟩:=h;rw[QE,QE];exact (Zfr h2).append (Reps.one h1)
def Zgb(fa fk:DE):DA:=fun ρ st=>(fa ρ st).bind fun x st1=>(fk ρ st1).bind fun z st2=>match z with
 | .int k=>if k = -1 then (match Zj st2 x with
  | some xs => .ok xs.reverse st2
  | none => .bad) else .bad
 | _ => .bad
section
variable{X:Cx}{EX:EXT}{e k:Expr}{pos p2:Pos}{fa fk:DE}
theorem ZkY(he:PD X EX e fa)(hk:PD X EX k fk):PDF X EX (.Subscript e (.Slice none none (some k) p2) pos) (Zgb fa fk):=by
 rintro pins s σ H Q I ⟨O,ρ,st,W,E,R⟩;refine Subscript_ (thn (he pins s σ H (fun v H1 => ∃O1 x st1,WR X.K O1 H1 st1/\REnv X.K O1 H1 ρ σ/\Rep X.K O1 H1 x v/\Run X.K EX O1 H1 ((fk ρ st1).bind fun z st2=>match z with
  | .int k=>if k = -1 then (match Zj st2 x with
   | some xs => .ok xs.reverse st2
   | none => .bad) else .bad
  | _ => .bad) (New X.K Q)) I ⟨O,ρ,st,W,E,R.bind.mono fun x st1 O1 H1 k1 W1 R1 v r=>⟨O1,x,st1,W1,E.mono k1,r,R1⟩⟩) fun v s1 h1 => ?_)
 obtain⟨xv,H1,I1,r1,O1,x,st1,W1,E1,rx,R1⟩:=h1;refine wpAny_Slice ?_;rw[evalPart_none];refine Yb (Yb ?_);rw[evalPart_some];refine thn (hk pins s1 σ H1 (fun z H2 => ∃O2 st2 xs,z = .int (-1)/\WR X.K O2 H2 st2/\Rep X.K O2 H2 x xv/\Zj st2 x=some xs/\Run X.K EX O2 H2 (.ok xs.reverse st2) (New X.K Q)) I1 ⟨O1,ρ,st1,W1,E1,R1.bind.mono fun z st2 O2 H2 k2 W2 R2 zv rz => ?_⟩) fun vk s2 h2 => ?_
 ·cases z with
  | int k =>
   dsimp only at R2;split at R2
   ·rename_i hk1;subst hk1;rw[Rep.int_i] at rz;cases hs:Zj st2 x with
    | none=>rw[hs] at R2; exact R2.elim
    | some xs =>
     rw[hs] at R2;exact⟨O2,st2,xs,rz,W2,Rep.mono k2 _ _ rx,hs,R2⟩
   ·exact R2.elim
  | _=>exact R2.elim
 ·obtain⟨zv,H2,I2,rz,O2,st2,xs,rfl,W2,rx2,hs,R2⟩:=h2;obtain⟨t,rfl⟩:=(show ∃t,vk=Value.int (-1) t from rz);obtain⟨a,vs,rfl,q,rs⟩:=rdL W2 rx2 hs;cases r1;have I4:Inv X pins σ H2 { s2 with heap:=s2.heap.push { cls:=.type "slice",data:=.fields #[.none,.none,.int (-1) t] } }:=I2.kept (t':=s2.toks) fun b ob q=>Yc _ q;obtain⟨its,r,ht,hz⟩:=I4.list q;have hlen:=r.length;show wpAny (model X.prog X.w) X.A (subscriptTail e (.Slice none none (some k) p2) (.ref a) (.ref s2.heap.objs.size)) (EP X pins σ Q) X.xe { s2 with heap:=s2.heap.push { cls:=.type "slice",data:=.fields #[.none,.none,.int (-1) t] } };refine tail_any (ops:=[.ref a,.ref s2.heap.objs.size]) ht.isList.typeIs slot_list_getitem.lookup ?_ (by with_unfolding_all rfl);refine wpAny_getItem_list_slice ht.isList (Heap.IsSliceOf.new ..) .none .none (.int (-1) t) (by decide) ?_ (by rw[Yn] <;> omega);rw[PySem.W.krv_pick];refine⟨.ref _,upd H2 _ (.lst vs.reverse),I4.laid (t':=s2.toks) (o:=.lst vs.reverse) (fun b ob q=>Yc _ q) (Yj _) ?_,rfl,Run.now (k:=New X.K Q) R2 W2 _ _ (Zfr rs) (I4.hok.fresh (Yj _))⟩;exact⟨by rw[Ud]; omega,its.reverse,0,Zht r,Ym _ rfl⟩
end
theorem ZpT{fa fk:DE}{ρ:Ev}{st:Sto}:Zgb fa fk ρ st=(fa ρ st).bind fun x st1=>(fk ρ st1).bind fun z st2=>match z with
 | .int k=>if k = -1 then (match Zj st2 x with
  | some xs => .ok xs.reverse st2
  | none => .bad) else .bad
 | _ => .bad:=rfl
end DL
end
section
namespace DL
open PySem PySem.Spec PyProof.Rows L2
theorem Zfl(t:SetTable)(es:Array (Int×P6))(h:Int)(x:P6):(layNew t es h x).2.1.led=t.led/\((layNew t es h x).2.1.plain=true->t.plain=true):=by
 unfold layNew;cases t.freeSlot h with
 | none=>exact⟨rfl,fun z=>by cases z⟩
 | some p =>
  obtain⟨j,d⟩:=p;dsimp only;unfold SetTable.orStandIn;split
  ·exact⟨rfl,fun z=>z⟩
  ·exact⟨rfl,fun z=>by cases z⟩
theorem ZpO{mask finger moves:Nat}{led plain:Bool}{hs:Array Int}{t:SetTable}{o:Array Nat}(h:SetTable.laid mask finger moves led plain hs=some (t,o)):t.led=led/\t.plain=plain:=by
 unfold SetTable.laid at h;cases hc:SetTable.layClean mask hs with
 | none=>rw[hc] at h; cases h
 | some ow =>
  rw[hc] at h;have h':=Option.some.inj h;cases h';exact⟨rfl,rfl⟩
theorem ZjQ(t:SetTable)(es:Array (Int×P6))(k:Nat):(relayAll t es k).2.1.led=t.led/\((relayAll t es k).2.1.plain=true->t.plain=true):=by
 unfold relayAll;cases hr:t.relaid (es.map (·.1)) k with
 | none=>exact⟨rfl,fun z=>by cases z⟩
 | some p =>
  obtain⟨t',o⟩:=p;obtain⟨h1,h2⟩:=ZpO hr;dsimp only;split
  ·exact⟨h1,fun z=>by rw[<-h2]; exact z⟩
  ·exact⟨rfl,fun z=>by cases z⟩
def byT(w:World):Bool:=w.params.followText "set-order"
structure TabT(w:World)(t:SetTable)(n:Nat):Prop where
 fits:t.fits n=true
 led:t.led = !byT w
 plain:t.plain=true->n=0
section
variable(prog:P4)(w:World)
def SetT(h:Heap)(a:Addr)(xs:List Str):Prop :=
 ∃o es ep t,h.get? a=some o/\o.ExactSet/\o.data = .set es ep t/\TabT w t es.size/\ElemsOf (strKind prog w) es.toList/\StrsAre (es.toList.map (·.2)) xs/\xs.Nodup/\es.size<scanBound
end
section
variable{prog:P4}{w:World}{A:P3}{E:P6->P0->Prop}{s:P0}{a:Addr}
theorem ZfX:∀{vs:List P6} {xs:List Str},StrsAre vs xs->∀x,x∈xs ↔ ∃v∈vs,(strKind prog w).is x v=true
 | _,_,.nil,x=>⟨(fun h=>by cases h),fun⟨v,h,_⟩=>by cases h⟩
 | _,_,.cons y t r,x=>by
  have ih:=ZfX r x;constructor
  ·intro h;rcases Yl.mp h with rfl | h
   ·exact⟨_,Yz,strKind_is _ _ _ _⟩
   ·obtain⟨v,h1,h2⟩:=ih.mp h;exact⟨v,Yv _ h1,h2⟩
  ·rintro⟨v,h1,h2⟩;rcases Yl.mp h1 with rfl | h1
   ·have e:x=y:=(strKind prog w).inj _ x y h2 (strKind_is _ _ _ _);rw[e];exact Yz
   ·exact Yv _ (ih.mpr ⟨v,h1,h2⟩)
theorem Zec:∀{vs vs':List P6},vs.Perm vs'->∀{xs:List Str},StrsAre vs xs->∃xs',StrsAre vs' xs'/\xs.Perm xs':=by
 intro vs vs' p
 induction p with
 | nil=>intro xs h; exact⟨xs,h,.refl _⟩
 | cons v _ ih =>
  intro xs h;cases h with
  | cons x t r =>
   obtain⟨xs',h1,h2⟩:=ih r;exact⟨x :: xs',.cons x t h1,h2.cons x⟩
 | swap u v l =>
  intro xs h;cases h with
  | cons x t r =>
   cases r with
   | cons y t' r'=>exact⟨y :: x :: _,.cons y t' (.cons x t r'),.swap y x _⟩
 | trans _ _ ih1 ih2 =>
  intro xs h;obtain⟨ys,h1,h2⟩:=ih1 h;obtain⟨zs,h3,h4⟩:=ih2 h1;exact⟨zs,h3,h2.trans h4⟩
theorem strs_snoc:∀{vs:List P6} {xs:List Str},StrsAre vs xs->∀(x:Str) (t:Tok),StrsAre (vs++[.str x t]) (xs++[x])
 | _,_,.nil,x,t => .cons x t .nil
 | _,_,.cons y u r,x,t => .cons y u (strs_snoc r x t)
theorem Zgv{es es1:Array (Int×P6)}{ep:Nat}{t t2:SetTable}{o:Obj}{xs1:List Str}{wd:Bool}{g:Bool->Sem Unit}{R:Option Bool->P0->Prop}(hg:∀(b:Bool) (s₁:P0) (Q':Unit->P0->Prop),Q' () s₁->wpAny (model prog w) A (g b) Q' E s₁)
  (ho:s.heap.get? a=some o) (hx:o.ExactSet) (hd:o.data = .set es ep t) (hb:es1.size<scanBound) (hT:TabT w t2 es1.size) (hel:ElemsOf (strKind prog w) es1.toList) (hs:StrsAre (es1.toList.map (·.2)) xs1) (hn:xs1.Nodup)
  (h:∀h' xs',Heap.SameBut a s.heap h'->SetT prog w h' a xs'->xs1.Perm xs'->R (some true) { s with heap:=h' }) :
  wpAny (model prog w) A (do
    storeSet a es1 t2
    if (!wd && t2.tooFull)=true then do
      g (relayAll t2 es1 (SetTable.grown es1.size)).2.2
      storeSet a (relayAll t2 es1 (SetTable.grown es1.size)).1 (relayAll t2 es1 (SetTable.grown es1.size)).2.1
      pure (some true)
     else pure (some true)) R E s:=by
 refine Ya (VI ho hd ?_ (QF hb));have o1:(s.heap.update a (Obj.putSet es1 t2)).get? a=some { o with data:=.set es1 (ep+1) t2 }:=by
  have q:=YJ (Obj.putSet es1 t2) ho (by rw[Vw es1 t2 hd]; rfl);rwa[Vw es1 t2 hd] at q
 have b1:=Yy s.heap a (Obj.putSet es1 t2);by_cases hc:(!wd && t2.tooFull)=true
 ·rw[Yi hc];have hp:=relayAll_perm t2 es1 (SetTable.grown es1.size);have hf:=relayAll_fits t2 es1 (SetTable.grown es1.size);have hl:=ZjQ t2 es1 (SetTable.grown es1.size);generalize relayAll t2 es1 (SetTable.grown es1.size)=Rl at hp hf hl ⊢;obtain⟨es2,t3,gv⟩:=Rl;dsimp only at hp hf hl ⊢;have hz:es2.size=es1.size:=by simpa using hp.length_eq
  obtain⟨xs2,hs2,hpx⟩:=Zec (hp.map (·.2)).symm hs;refine Ya (hg _ _ _ (Ya (VI (s:={ s with heap:=s.heap.update a (Obj.putSet es1 t2) }) o1 rfl ?_ (QF (by rw[hz]; exact hb)))));have o2:((s.heap.update a (Obj.putSet es1 t2)).update a (Obj.putSet es2 t3)).get? a=some { o with data:=.set es2 (ep+1+1) t3 }:=by
   have q:=YJ (Obj.putSet es2 t3) o1 (by rw[Vw es2 t3 rfl]; rfl);rwa[Vw es2 t3 rfl] at q
  exact Yb (h _ xs2 (b1.trans (Yy _ a _)) ⟨_,es2,_,t3,o2,hx,rfl,⟨hf,by rw[hl.1]; exact hT.led,fun z=>by rw[hz]; exact hT.plain (hl.2 z)⟩,hel.perm hp,hs2,hpx.nodup_iff.mp hn,by rw[hz]; exact hb⟩ hpx)
 ·rw[Yh hc];exact Yb (h _ xs1 b1 ⟨_,es1,_,t2,o1,hx,rfl,hT,hel,hs,hn,hb⟩ (.refl _))
theorem Zk3{x:Str}{tk:Tok}{xs:List Str}{Q:Bool->P0->Prop}(hS:SetT prog w s.heap a xs)(hr:xs.length+1<scanBound)
  (h:∀h' xs' b,Heap.SameBut a s.heap h'->SetT prog w h' a xs'->(∀y,y∈xs' ↔ y∈xs\/y=x)->xs'.length<=xs.length+1->Q b { s with heap:=h' }) :
  wpAny (model prog w) A (setAddHashed a (.str x tk) ((strKind prog w).hash x)) Q E s:=by
 obtain⟨o,es,ep,t,ho,hx,hd,hT,hel,hs,hn,hb⟩:=id hS;have hsz:es.size=xs.length:=by
  have:=hs.length;simpa using this
 have hkey:(strKind prog w).is x (.str x tk)=true:=strKind_is _ _ _ _;have hsc:(Value.str x tk).scannable=true:=rfl;unfold setAddHashed setAddHashedIn;refine Y1 (Ya (WD ho hd hT.fits ?_));dsimp only;rw[byScan_of (knd:=strKind prog w) hsc hb hel,Yi rfl];unfold setAddByScan;refine Ya (Ya (Wz (Ya (wpAny_setScan_of (knd:=strKind prog w) hkey ho hd hT.fits hel ?_))));cases hf:es.toList.findIdx? (fun e=>(strKind prog w).is x e.2) with
 | some j =>
  dsimp only;obtain⟨hj,hp,_⟩:=VQ.mp hf;have hm:x∈xs:=(ZfX hs x).mpr ⟨_,YX.mpr ⟨_,Qk hj,rfl⟩,hp⟩;refine Yb (Yb ?_);have e:s = { s with heap:=s.heap }:=by cases s; rfl
  rw[e];exact h s.heap xs false (Heap.SameBut.refl a s.heap) hS (fun y=>⟨.inl,fun z=>z.elim id fun z=>z ▸ hm⟩) (Qc _)
 | none =>
  dsimp only;have hm:x ∉ xs:=fun hm=>by
   obtain⟨v,hv,q⟩:=(ZfX (prog:=prog) (w:=w) hs x).mp hm;obtain⟨e,he,rfl⟩:=YX.mp hv;have:=UA.mp hf e he;rw[q] at this;cases this
  have hg:∀(b:Bool) {s₁:P0} {Q':Unit->P0->Prop},Q' () s₁->wpAny (model prog w) A (match b with | true=>rule "set.scan.the-table-gave-way" | false=>pure ()) Q' E s₁:=by
   intro b s₁ Q' hq;cases b
   ·exact Yb hq
   ·exact Wz hq
  have hp:=layNew_perm t es ((strKind prog w).hash x) (.str x tk);have hfit:=layNew_fits t es ((strKind prog w).hash x) (.str x tk);have hl:=Zfl t es ((strKind prog w).hash x) (.str x tk);generalize layNew t es ((strKind prog w).hash x) (.str x tk)=Ln at hp hfit hl ⊢;obtain⟨es1,t1,wd,gv⟩:=Ln;dsimp only at hp hfit hl ⊢;rw[WX] at hp;have hz:es1.size=es.size+1:=by simpa using hp.length_eq
  have hel1:ElemsOf (strKind prog w) es1.toList:=(hel.push hkey hsc).perm hp;have hs0:StrsAre ((es.toList++[((strKind prog w).hash x,Value.str x tk)]).map (·.2)) (xs++[x]):=by
   rw[Wm];exact strs_snoc hs x tk
  obtain⟨xs1,hs1,hpx⟩:=Zec (hp.map (·.2)).symm hs0;have hn1:xs1.Nodup:=hpx.nodup_iff.mp (Q8.mpr ⟨hn,by simp,fun u hu v hv=>by
   rw[YA.mp hv];rintro rfl;exact hm hu⟩)
  have fin:∀h' xs',Heap.SameBut a s.heap h'->SetT prog w h' a xs'->xs1.Perm xs'->Q true { s with heap:=h' }:=fun h' xs' b1 b2 b3=>h h' xs' true b1 b2 (fun y=>by
   rw[<-(hpx.trans b3).mem_iff];simp) (by rw[<-(hpx.trans b3).length_eq]; simp)
  refine Ya (hg _ ?_);by_cases hpl:t1.plain=true
  ·rw[Yi hpl,hashByValue_scannable 8 hsc];refine Ya (Yb ?_);refine Zgv (t2:=if plainKind (Value.str x tk)=true then t1 else { t1 with plain:=false }) (fun b s₁ Q' hq=>by cases b <;> first | exact Yb hq | exact Wz hq) ho hx hd (by omega) ?_ hel1 hs1 hn1 fun h' xs' b1 b2 b3=>Yb (fin h' xs' b1 b2 b3);rw[Yh (show ¬ plainKind (Value.str x tk)=true from fun z=>by cases z)];exact⟨SetTable.fits_plain_off hfit,by rw[<-hT.led]; exact hl.1,fun z=>by cases z⟩
  ·rw[Yh hpl];refine Ya (Yb ?_);simp only[Wq];exact Zgv (fun b s₁ Q' hq=>by cases b <;> first | exact Yb hq | exact Wz hq) ho hx hd (by omega) ⟨hfit,by rw[<-hT.led]; exact hl.1,fun z=>absurd z hpl⟩ hel1 hs1 hn1 fun h' xs' b1 b2 b3=>Yb (fin h' xs' b1 b2 b3)
theorem ZqI{I:Addr}{fp wr:List Addr}{G:Array GenState->Array GenState->Prop}{n:Nat}{P:Nat->P6->Prop}{St:Nat->P0->Prop}{R:Result->P0->Prop}(W:WalksS prog w A.in1 I fp wr G n P St){a:Addr}(ha:a ∉ fp)(val:Nat->Str)(hv:∀i v,P i v->∃t,v = .str (val i) t)(hn:n+1<scanBound)
  : ∀(k i:Nat) (s:P0) (xs:List Str),n - i=k->i<=n->St i s->SetT prog w s.heap a xs->(∀y,y∈xs ↔ ∃j,j<i/\y=val j)->xs.length<=i ->
   (∀s' xs',Moved (a :: wr) G s s'->SetT prog w s'.heap a xs'->(∀y,y∈xs' ↔ ∃j,j<n/\y=val j)->R (.ok (.ret .none)) s') ->
   codeAny (model prog w) A (.builtin "set.update.loop" ⟨[.ref a,.ref I],[]⟩) R s:=by
 have haw:a ∉ wr:=fun z=>ha (W.sub _ z);have sub:∀b∈wr,b∈a :: wr:=fun b z=>Yv _ z;have keepS:∀{s s':P0} {xs:List Str},Moved wr G s s'->SetT prog w s.heap a xs->SetT prog w s'.heap a xs:=by
  rintro s s' xs m ⟨o,es,ep,t,ho,r⟩;exact⟨o,es,ep,t,m.heap a o haw ho,r⟩
 intro k
 induction k with
 | zero =>
  intro i s xs hk hi hst hS hm _ hR;obtain rfl:i=n:=by omega
  refine WI Vx ?_;rw[Wn Qq _];show wpAny _ A.in1 (pyNext (.ref I) >>= _) _ _ s;exact Ya (W.done s _ _ hst fun s' m=>Yb (hR s' xs (m.mono sub) (keepS m hS) hm))
 | succ k ih =>
  intro i s xs hk hi hst hS hm hl hR;have hlt:i<n:=by omega
  refine WI Vx ?_;rw[Wn Qq _];show wpAny _ A.in1 (pyNext (.ref I) >>= _) _ _ s;refine Ya (W.item i s _ _ hlt hst fun v s1 hP hst1 m1 => ?_);obtain⟨t,rfl⟩:=hv i v hP;show wpAny _ A.in1 (holding [Value.str (val i) t] (setAdd a (.str (val i) t)) >>= _) _ _ s1;refine Ya (Y1 ?_);unfold setAdd;refine Y1 (Ya ((strKind prog w).pyHash (k:=val i) (strKind_is _ _ _ _) ?_));refine Zk3 (s:={ s1 with toks:=s1.toks+1 }) (show SetT prog w s1.heap a xs from keepS m1 hS) (by omega) fun h' xs' _ b1 b2 b3 b4 => ?_;refine Yb ⟨QA Qq _,ih (i+1) _ xs' (by omega) hlt (W.frame _ s1 _ _ hst1 (Qc _) fun b hb o e => ?_) b2 (fun y => ?_) (by omega) fun s2 xs2 m2 c1 c2 => ?_⟩
  ·rw[b1.2 b fun z=>ha (by rw[<-z]; exact hb)];exact e
  ·rw[b3,hm];constructor
   ·rintro (⟨j,h1,h2⟩ | h)
    ·exact⟨j,by omega,h2⟩
    ·exact⟨i,by omega,h⟩
   ·rintro⟨j,h1,h2⟩;by_cases hj:j<i
    ·exact .inl ⟨j,hj,h2⟩
    ·have:j=i:=by omega
     exact .inr (by rw[h2,this])
  ·refine hR s2 xs2 (Moved.trans W.gtrans ((m1.mono sub).then_heap (Qc _) fun b o hb e => ?_) m2) c1 c2;rw[b1.2 b fun z=>hb (by rw[z]; exact Yz)];exact e
theorem Zn6(v:P6){Q₁:P6->P0->Prop}(h:Q₁ (.ref s.heap.objs.size) { s with heap:=s.heap.push { cls:=.type "set",dict:=none,data:=.set #[] 0 (.fresh 0 0 (!byT w)) } }) :
  codeAny (model prog w) A (.call (.builtin "set.__new__") ⟨[.type "set",v],[]⟩) (wants Q₁ E) s:=by
 refine codeAny_of_tree ?_;show wpAny _ A.in1 (do checkBuiltinCall "set.__new__" ⟨[.type "set",v],[]⟩; again (.builtin "set.__new__" ⟨[.type "set",v],[]⟩)) _ _ s;refine Ya (Ul (PySem.F.newCall_set_1 v) (Yb ⟨QA PySem.F.plain_set_new _,?_⟩));refine WI PySem.F.entry_set_new ?_;rw[Wn PySem.F.plain_set_new _];unfold Builtin.«set.__new__» Builtin.Frozenset.newClass;have hsub:=sub_set_self;obtain⟨hp,g,d,tk,os⟩:=s;dsimp only
 wp_walk
 refine UL (Yb ?_);dsimp only;simp only[newObj];exact Ya (wpAny_alloc (Yb (Yb h)))
end
end DL
end
section
namespace DL
open PySem PySem.Spec PyProof.Rows L2
section
variable{prog:P4}{w:World}{A:P3}{E:P6->P0->Prop}{s:P0}{a:Addr}
theorem Zqs{l:Addr}{items:Array P6}{ss:List Str}{Q:P6->P0->Prop}(hh:A.handled=none)(hl:s.heap.IsList l items)(hi:StrsAre items.toList ss)(hb:items.size+1<scanBound)
  (h:∀(h':Heap) (tk:Nat) (xs:List Str),SetT prog w h' s.heap.objs.size xs->(∀y,y∈xs ↔ y∈ss)->(∀b o,b<s.heap.objs.size->s.heap.get? b=some o->h'.get? b=some o)->Q (.ref s.heap.objs.size) { s with heap:=h',toks:=tk }) :
  wpAny (model prog w) A (call (.type "set") [.ref l]) Q E s:=by
 obtain⟨c,tl,hmro⟩:=WN.mro;have hmade:=WN.made;have hsub:=WN.sub;have h1:=WN.notType;have h2:=WN.canCreate;have hct:=PySem.F.typeCall_set_1 (.ref l);obtain⟨O,hO⟩:∃O:Obj,O = { cls:=.type "set",dict:=none,data:=.set #[] 0 (.fresh 0 0 (!byT w)) }:=⟨_,rfl⟩;have hnew:codeAny (model prog w) A.in1 (.call (.builtin "set.__new__") ⟨[.type "set",.ref l],[]⟩) (wants (fun obj s1=>obj = .ref s.heap.objs.size/\s1 = { s with heap:=s.heap.push O }) E) s:=Zn6 (.ref l) ⟨rfl,by rw[hO]⟩;refine wpAny_call (codeAny_of_tree ?_);show wpAny _ _ (callAny (.type "set") _) _ _ _;refine Yb ⟨Code.quiet_builtin _ (by decide +kernel),WI PySem.F.entry_type_call ?_⟩;rw[Around.under_plain (weight_type_call_type "set" [.ref l] []) rfl]
 repeat (any_goals (first | assumption | wp_step))
 refine V8 hnew fun r s1 hr => ?_;cases r with
 | error e=>exact hr
 | ok fl =>
  cases fl with
  | ret obj =>
   obtain⟨rfl,rfl⟩:=hr;have hS:(s.heap.push O).get? s.heap.objs.size=some O:=Ym _ (by rw[hO]; rfl);have hT:Shared.TypeIs { s with heap:=s.heap.push O } (.ref s.heap.objs.size) "set":=⟨_,hS,by rw[hO]⟩;have hli:=WN.init.lookup;have hbi:=WN.init.bind (.ref s.heap.objs.size)
   repeat (any_goals (first | assumption | wp_step))
   have hbody:wpAny (model prog w) A.in1.in1 (Builtin.«set.__init__» ⟨[.ref s.heap.objs.size,.ref l],[]⟩) (fun fin s'=>match fin with
     | .done f=>wants (fun r s2=>r = .none/\∃h' tk xs,s2 = { s with heap:=h',toks:=tk }/\SetT prog w h' s.heap.objs.size xs/\(∀y,y∈xs ↔ y∈ss)/\∀b o,b<s.heap.objs.size->s.heap.get? b=some o->h'.get? b=some o) E (.ok f) s'
     | .again c'=>c'.quiet=true/\codeAny (model prog w) A.in1 c' (wants (fun r s2=>r = .none/\∃h' tk xs,s2 = { s with heap:=h',toks:=tk }/\SetT prog w h' s.heap.objs.size xs/\(∀y,y∈xs ↔ y∈ss)/\∀b o,b<s.heap.objs.size->s.heap.get? b=some o->h'.get? b=some o) E) s')
     (fun e s'=>wants (fun r s2=>r = .none/\∃h' tk xs,s2 = { s with heap:=h',toks:=tk }/\SetT prog w h' s.heap.objs.size xs/\(∀y,y∈xs ↔ y∈ss)/\∀b o,b<s.heap.objs.size->s.heap.get? b=some o->h'.get? b=some o) E (.error e) s') { s with heap:=s.heap.push O }:=by
    obtain⟨ol,hol,hcl,nl,hdl⟩:=hl;obtain⟨ocls,odict,odata,oslots⟩:=ol;simp only at hcl hdl;subst hcl hdl hO;obtain⟨H1,hH1⟩:∃H1,H1=s.heap.push { cls:=.type "set",dict:=none,data:=.set #[] 0 (.fresh 0 0 (!byT w)) }:=⟨_,rfl⟩;rw[<-hH1] at hS hT ⊢;have hsz1:H1.objs.size=s.heap.objs.size+1:=by rw[hH1,Y9]
    have hlS:l<s.heap.objs.size:=Yk hol;have hol':H1.get? l=some { cls:=.type "list",dict:=odict,data:=.seq items nl,slots:=oslots }:=by rw[hH1]; exact Yc _ hol
    have hl1:H1.IsList l items:=⟨_,hol',rfl,nl,rfl⟩;have hk1:∀b o,s.heap.get? b=some o->H1.get? b=some o:=fun b o e=>by rw[hH1]; exact Yc _ e
    have hsls:=PySem.F.sub_list_set;have hslf:=PySem.F.sub_list_frozenset;have hne:(Value.type "list" == Value.type "dict")=false:=by decide
    unfold Builtin.«set.__init__» noKeywords Builtin.Frozenset.updateFrom;generalize hPI:pyIter=PI
    wp_walk
    subst hPI;refine Q6 hl1 (Ya (wpAny_runValue ?_));have hh3:A.in1.in1.in1.handled=none:=by simp[hh]
    have hI:l≠H1.objs.size:=Yr (by rw[hsz1]; exact Qh hlS);have hf:s.heap.objs.size ∉ [H1.objs.size,l]:=by
     simp only[Yl,YC,Wg,Vv];exact⟨Yr (by rw[hsz1]; exact VV _),WK hlS⟩
    have hv:∀(i:Nat) (v:P6),items[i]?=some v->∃t,v = .str (ss.getD i "") t:=fun i v e=>by
     obtain⟨y,t,e1,e2⟩:=StrsAre.item hi i v (by rw[Y3]; exact e);exact⟨t,by rw[e1,Ye,e2]; rfl⟩
    have hlen:ss.length=items.size:=by
     have:=hi.length;simpa using this.symm
    refine ZqI ((Walks.list hh3 _ l hI items).toS) hf (fun i=>ss.getD i "") hv hb (items.size - 0) 0 _ [] (by omega) (YT _) ⟨⟨_,Ym _ rfl,rfl,rfl⟩,hl1.push _⟩ ?_ (fun y=>⟨(fun z=>by cases z),fun⟨j,z,_⟩=>by omega⟩) (Yj _) fun s' xs m hS' hm => ?_
    ·exact⟨_,#[],0,_,Yc _ hS,⟨rfl,rfl,rfl⟩,rfl,⟨by rfl,rfl,fun _=>rfl⟩,fun e he=>by simp at he,.nil,QK,by decide⟩
    ·obtain⟨h',g',d',tk',os'⟩:=s';have eg:g'=s.gens:=m.gens;have ed:d'=s.drawn:=m.drawn;have eo:os'=s.os:=m.os;subst eg ed eo;show wpAny _ _ _ _ _ _;refine Yb ?_;show wpAny _ _ (ret Value.none) _ _ _;refine Yb ⟨rfl,h',tk',xs,rfl,hS',fun y => ?_,fun b o hb' e => ?_⟩
     ·rw[hm];constructor
      ·rintro⟨j,hj,rfl⟩;rw[Ye,Yd (by omega)];exact Qk _
      ·intro hy;obtain⟨j,hj,rfl⟩:=Ue hy;exact⟨j,by omega,by rw[Ye,Yd hj]; rfl⟩
     ·refine m.heap b o ?_ (Yc _ (hk1 b o e));simp only[Yl,YC,Wg,Vv];exact⟨Yr hb',Yr (by rw[hsz1]; exact Qh hb')⟩
   refine V8 (codeAny_call_builtin WN.init.plain PySem.F.entry_set_init (check_set_init_1 hT hbody)) fun r2 s2 hr2 => ?_;cases r2 with
   | error e=>exact hr2
   | ok fl2 =>
    cases fl2 with
    | ret r =>
     obtain⟨rfl,h',tk,xs,rfl,g1,g2,g3⟩:=hr2
     repeat (any_goals (first | assumption | wp_step))
     exact h _ _ xs g1 g2 g3
    | _=>exact hr2.elim
  | _=>exact hr.elim
end
end DL
end
section
namespace DL
open PySem PySem.Spec PyProof.Rows L2
namespace SF
theorem slotN:Slot "set_iterator" "__next__" "set_iterator.__next__" :=
 .of (owner:="set_iterator") (n:="__next__") (by rw[typeLookup_type,builtinLookup_eq_fast]; kernel_rfl) (by decide +kernel) (by decide +kernel)
  (by decide +kernel) (by first | exact .inl (by decide +kernel) | exact .inr (by decide +kernel)) (by rw[Ui]; kernel_rfl)
theorem entryN:entryFor table "set_iterator.__next__" = some Builtin.«set_iterator.__next__»:=entryFor_of_tree (by kernel_rfl)
theorem ZjT:Manifest.owners.lookup (String.ofList ['r','o','t','a','r','e','t','i','_','t','e','s'].reverse)=some Manifest.sig_set_iterator:=by kernel_rfl
theorem argsN(v:P6):argsOk "set_iterator.__next__" ⟨[v],[]⟩:=by
 unfold argsOk;rw[signature?_of (id:="set_iterator.__next__") (n:=['_','_','t','x','e','n','_','_']) (o:=['r','o','t','a','r','e','t','i','_','t','e','s']) (by kernel_rfl) ZjT]
 kernel_rfl
theorem entryI:entryFor table "set.__iter__" = some Builtin.«frozenset.__iter__»:=entryFor_alias (id':="frozenset.__iter__") (by kernel_rfl) rfl (by decide +kernel) (by kernel_rfl)
end SF
theorem ZoM{M:Model}{A:P3}{E:P6->P0->Prop}{s:P0}{src:Source}{n:Nat}{Q:Nat->P0->Prop}(hn:n≠0)(h:∀i d,i<n->Q i { s with drawn:=d }):wpAny M A (choose src n) Q E s :=
 fun _ _ _=>⟨hn,h _ _ (Ub _ (Nat.pos_of_ne_zero hn))⟩
theorem Zf4{α:Type}:∀(xs:List α) (i:Nat) (h:i<xs.length),(xs[i] :: xs.eraseIdx i).Perm xs
 | x :: xs,0,_ => .refl _
 | x :: xs,i+1,h=>by
  have hi:i<xs.length:=by simpa using h
  have ih:=Zf4 xs i hi;show (xs[i]'hi :: x :: xs.eraseIdx i).Perm (x :: xs);exact (List.Perm.swap _ _ _).trans (ih.cons x)
theorem ZgX{α:Type}{M:Model}{A:P3}{E:P6->P0->Prop}:∀(n:Nat) (xs:List α) (s:P0) {Q:List α->P0->Prop},xs.length=n->(∀ys d,ys.Perm xs->Q ys { s with drawn:=d })->wpAny M A (drawOrder n xs) Q E s
 | 0,xs,s,Q,hl,h=>by
  have e:xs=[]:=WU.mp hl;subst e;have e2:s = { s with drawn:=s.drawn }:=by cases s; rfl
  unfold drawOrder;refine Yb ?_;rw[e2];exact h [] _ (.refl _)
 | n+1,[],s,Q,hl,h=>by cases hl
 | n+1,x :: xs,s,Q,hl,h=>by
  unfold drawOrder;refine Ya (ZoM (by simp) fun i d hi => ?_);rw[Yd hi];dsimp only;refine Ya (ZgX n ((x :: xs).eraseIdx i) _ (by rw[Up hi,hl]; rfl) fun ys d' p=>Yb ?_);refine h _ d' ((p.cons _).trans ?_);exact Zf4 _ i hi
theorem Zhv{α:Type}(next:Nat->Nat):∀(f k:Nat) (left:List α) (out:Array α),left.length=f->(pickOrder.go next f k left out).toList.Perm (out.toList++left)
 | 0,k,left,out,hl=>by
  have e:left=[]:=WU.mp hl;subst e;unfold pickOrder.go;rw[Qt]
 | f+1,k,left,out,hl=>by
  have hi:next k % left.length<left.length:=Ub _ (by omega);unfold pickOrder.go;rw[Yd hi];dsimp only;refine (Zhv next f (k+1) _ _ (by rw[Up hi,hl]; rfl)).trans ?_;rw[WX,Ws];exact (Zf4 left _ hi).append_left _
theorem Zlk{α:Type}(next:Nat->Nat)(xs:Array α):(pickOrder next xs).toList.Perm xs.toList:=by
 unfold pickOrder;have:=Zhv next xs.size 0 xs.toList #[] (by simp);simpa using this
section
variable{prog:P4}{w:World}{A:P3}{E:P6->P0->Prop}{s:P0}{a:Addr}
theorem ZdU{Q:Bool->P0->Prop}(h:Q (byT w) s):wpAny (model prog w) A setsByText Q E s:=by
 unfold setsByText;exact Ya (UL (Yb h))
structure ItS(h:Heap)(I a:Addr)(o:Obj)(n ep:Nat)(first:P6)(i:Nat):Prop where
 it:∃oI,h.get? I=some oI/\oI.cls = .type "set_iterator"/\oI.data = .fields #[first,.int i 0,.ref a,.int n 0,.int ep 0]
 st:h.get? a=some o
theorem ItS.typeIs{o:Obj}{n ep i:Nat}{first:P6}{I:Addr}(x:ItS s.heap I a o n ep first i):s.TypeIs (.ref I) "set_iterator":=by
 obtain⟨⟨oI,h1,h2,_⟩,_⟩:=x;exact⟨oI,h1,h2⟩
theorem Zfv{α:Type}{Q':α->P0->Prop}{E':P6->P0->Prop}(hh:A.handled=none)(h:∀o1 o2:Obj,o2.cls = .type "StopIteration"->((s.heap.push o1).push o2).get? (s.heap.push o1).objs.size=some o2->E' (.ref (s.heap.push o1).objs.size) { s with heap:=(s.heap.push o1).push o2 }) :
  wpAny (model prog w) A.in1 (newExc (.type "StopIteration") [] >>= fun e=>(raiseNew e:Sem α)) Q' E' s:=by
 refine Ya ?_;simp only[newExc,newTuple];refine Ya (YZ ?_ (by size_fits));refine Ya (m:=firstArgMember _ _) (Ul (a:=Value.none) (by first | rfl | (simp only[firstArgMember]; rfl)) ?_);refine YZ ?_ (by size_fits);simp only[raiseNew];refine Ya (wpAny_handled ?_);rw[show A.in1.handled=none from hh];refine Ya (Yb (wpAny_throw ?_));exact h _ _ rfl (Ym _ rfl)
theorem next_item{I:Addr}{o:Obj}{es:Array (Int×P6)}{ep i:Nat}{t:SetTable}{first first' x:P6}{Q:Option P6->P0->Prop}(X:ItS s.heap I a o es.size ep first i)(hd:o.data = .set es ep t)(hf:t.fits es.size=true)(hIa:I≠a)
  (hstep:(∃(slot j:Nat),first = .int slot 0/\first' = .int j 0/\∀(A:P3) (E:P6->P0->Prop) (Q:Option (P6×Nat)->P0->Prop),Q (some (x,j)) s->wpAny (model prog w) A (setNext a slot i ep) Q E s) \/
   (∃(T:Addr) (oT:Obj) (ps:Array P6) (m place:Nat) (hx:Int),first = .ref T/\first' = .ref T/\s.heap.get? T=some oT/\oT.data = .seq ps m/\ps[i]?=some (.int place 0)/\es[place]?=some (hx,x)))
  (h:∀h',Heap.SameBut I s.heap h'->ItS h' I a o es.size ep first' (i+1)->Q (some x) { s with heap:=h' }) :
  wpAny (model prog w) A (pyNext (.ref I)) Q E s:=by
 obtain⟨⟨oI,hI,hc,hdI⟩,ha⟩:=id X;have fin:∀{h':Heap},Heap.SameBut I s.heap h'->h'.get? I=some { oI with data:=.fields #[first',.int ((i:Int)+1) 0,.ref a,.int es.size 0,.int ep 0] }->ItS h' I a o es.size ep first' (i+1):=by
  intro h' sb e;exact⟨⟨_,e,hc,rfl⟩,(sb.2 a (YW hIa)).trans ha⟩
 unfold pyNext;refine Ya (W6 (Y4 (name:=Str.ofString "__next__") X.typeIs SF.slotN (YI SF.slotN X.typeIs SF.entryN ?_ (SF.argsN _))));unfold Builtin.«set_iterator.__next__»;refine Ya (Yb (Ya (Vd hI hdI ?_)));dsimp only;refine Ya (Ug ha hd hf ?_);rw[Yh (by simp)];rcases hstep with⟨slot,j,rfl,rfl,hn⟩ | ⟨T,oT,ps,m,place,hx,rfl,rfl,hT,hdT,hp,he⟩
 ·dsimp only;simp only[Y7];refine Ya (hn _ _ _ ?_);dsimp only;refine Ya (W9 hI hdI (by simp) ?_);have h1:=YJ (Obj.mapFields (·.setIfInBounds 0 (rawInt (j:Int)))) hI (Qw (Wo hdI _));have d1:=Wo hdI (·.setIfInBounds 0 (rawInt (j:Int)));refine Ya (W9 (s:={ s with heap:=s.heap.update I (Obj.mapFields (·.setIfInBounds 0 (rawInt (j:Int)))) }) h1 d1 (by simp) ?_);have h2:=YJ (Obj.mapFields (·.setIfInBounds 1 (rawInt ((i:Int)+1)))) h1 (Qw (Wo d1 _));have d2:=Wo d1 (·.setIfInBounds 1 (rawInt ((i:Int)+1)));have sb:=(Yy s.heap I (Obj.mapFields (·.setIfInBounds 0 (rawInt (j:Int))))).trans (Yy _ I (Obj.mapFields (·.setIfInBounds 1 (rawInt ((i:Int)+1)))));refine Yb ⟨_,rfl,Yb (h _ sb ⟨⟨_,h2,?_,?_⟩,(sb.2 a (YW hIa)).trans ha⟩)⟩
  ·rw[VJ,VJ]; exact hc
  ·rw[d2]; simp[rawInt]
 ·dsimp only;simp only[Y7];unfold seqItems?;dsimp only;refine Ya (Ya (Uy hT ?_));rw[hdT];refine Yb ?_;dsimp only;rw[hp];dsimp only;simp only[Y7];unfold setNextDrawn;refine Ya (Ya (WD ha hd hf ?_));dsimp only;rw[Yh (by simp)];rw[he];refine Yb ?_;refine Ya (W9 hI hdI (by simp) ?_);have h2:=YJ (Obj.mapFields (·.setIfInBounds 1 (rawInt ((i:Int)+1)))) hI (Qw (Wo hdI _));have d2:=Wo hdI (·.setIfInBounds 1 (rawInt ((i:Int)+1)));have sb:=Yy s.heap I (Obj.mapFields (·.setIfInBounds 1 (rawInt ((i:Int)+1))));refine Yb ⟨_,rfl,Yb (h _ sb ⟨⟨_,h2,?_,?_⟩,(sb.2 a (YW hIa)).trans ha⟩)⟩
  ·rw[VJ]; exact hc
  ·rw[d2]; simp[rawInt]
theorem next_end{I:Addr}{o:Obj}{es:Array (Int×P6)}{ep i:Nat}{t:SetTable}{first:P6}{Q:Option P6->P0->Prop}(hh:A.handled=none)(X:ItS s.heap I a o es.size ep first i)(hd:o.data = .set es ep t)(hf:t.fits es.size=true)
  (hstep:(∃(slot:Nat),first = .int slot 0/\∀(A:P3) (E:P6->P0->Prop) (Q:Option (P6×Nat)->P0->Prop),Q none s->wpAny (model prog w) A (setNext a slot i ep) Q E s) \/
   (∃(T:Addr) (oT:Obj) (ps:Array P6) (m:Nat),first = .ref T/\s.heap.get? T=some oT/\oT.data = .seq ps m/\ps[i]?=none))
  (h:∀h',Heap.ExtBut I s.heap h'->Q none { s with heap:=h' }) :
  wpAny (model prog w) A (pyNext (.ref I)) Q E s:=by
 obtain⟨⟨oI,hI,hc,hdI⟩,ha⟩:=id X;unfold pyNext;refine Ya (W6 (Y4 (name:=Str.ofString "__next__") X.typeIs SF.slotN (YI SF.slotN X.typeIs SF.entryN ?_ (SF.argsN _))));unfold Builtin.«set_iterator.__next__»;refine Ya (Yb (Ya (Vd hI hdI ?_)));dsimp only;refine Ya (Ug ha hd hf ?_);rw[Yh (by simp)];rcases hstep with⟨slot,rfl,hn⟩ | ⟨T,oT,ps,m,rfl,hT,hdT,hp⟩
 ·dsimp only;simp only[Y7];refine Ya (hn _ _ _ ?_);dsimp only;refine Ya (W9 hI hdI (by simp) ?_);refine Zfv (s:={ s with heap:=s.heap.update I (Obj.mapFields (·.setIfInBounds 2 Value.none)) }) hh fun o1 o2 c2 g2 => ?_;refine Ya (WO (T:="StopIteration") (b:=true) ⟨_,g2,c2⟩ VC ?_);exact Yb (h _ (((Yy ..).extBut.push _).push _))
 ·dsimp only;simp only[Y7];unfold seqItems?;dsimp only;refine Ya (Ya (Uy hT ?_));rw[hdT];refine Yb ?_;dsimp only;rw[hp];dsimp only;refine Ya (W9 hI hdI (by simp) ?_);have h1:=YJ (Obj.mapFields (·.setIfInBounds 0 (rawInt 0))) hI (Qw (Wo hdI _));have d1:=Wo hdI (·.setIfInBounds 0 (rawInt 0));refine Ya (W9 (s:={ s with heap:=s.heap.update I (Obj.mapFields (·.setIfInBounds 0 (rawInt 0))) }) h1 d1 (by simp) ?_);refine Zfv (s:={ s with heap:=(s.heap.update I (Obj.mapFields (·.setIfInBounds 0 (rawInt 0)))).update I (Obj.mapFields (·.setIfInBounds 2 Value.none)) }) hh fun o1 o2 c2 g2 => ?_;refine Ya (WO (T:="StopIteration") (b:=true) ⟨_,g2,c2⟩ VC ?_);exact Yb (h _ ((((Yy ..).trans (Yy ..)).extBut.push _).push _))
end
end DL
end
section
namespace DL
open PySem PySem.Spec PyProof.Rows L2
namespace SF
theorem slotJ:Slot "set_iterator" "__iter__" "set_iterator.__iter__" :=
 .of (owner:="set_iterator") (n:="__iter__") (by rw[typeLookup_type,builtinLookup_eq_fast]; kernel_rfl) (by decide +kernel) (by decide +kernel)
  (by decide +kernel) (by first | exact .inl (by decide +kernel) | exact .inr (by decide +kernel)) (by rw[Ui]; kernel_rfl)
theorem entryJ:entryFor table "set_iterator.__iter__" = some Builtin.«dict_keyiterator.__iter__»:=entryFor_alias (id':="dict_keyiterator.__iter__") (by kernel_rfl) rfl (by decide +kernel) (by kernel_rfl)
theorem argsJ(v:P6):argsOk "set_iterator.__iter__" ⟨[v],[]⟩:=by
 unfold argsOk;rw[signature?_of (id:="set_iterator.__iter__") (n:=['_','_','r','e','t','i','_','_']) (o:=['r','o','t','a','r','e','t','i','_','t','e','s']) (by kernel_rfl) ZjT]
 kernel_rfl
end SF
section
variable{prog:P4}{w:World}{A:P3}{E:P6->P0->Prop}{s:P0}{a:Addr}
def Zl7(prog:P4)(w:World)(s:P0)(a:Addr)(es:Array (Int×P6))(ep i:Nat)(first first' x:P6):Prop :=
 (∃(slot j:Nat),first = .int slot 0/\first' = .int j 0/\∀(A:P3) (E:P6->P0->Prop) (Q:Option (P6×Nat)->P0->Prop),Q (some (x,j)) s->wpAny (model prog w) A (setNext a slot i ep) Q E s) \/
   (∃(T:Addr) (oT:Obj) (ps:Array P6) (m place:Nat) (hx:Int),first = .ref T/\first' = .ref T/\s.heap.get? T=some oT/\oT.data = .seq ps m/\ps[i]?=some (.int place 0)/\es[place]?=some (hx,x))
def Zpk(prog:P4)(w:World)(s:P0)(a:Addr)(ep i:Nat)(first:P6):Prop :=
 (∃(slot:Nat),first = .int slot 0/\∀(A:P3) (E:P6->P0->Prop) (Q:Option (P6×Nat)->P0->Prop),Q none s->wpAny (model prog w) A (setNext a slot i ep) Q E s) \/
   (∃(T:Addr) (oT:Obj) (ps:Array P6) (m:Nat),first = .ref T/\s.heap.get? T=some oT/\oT.data = .seq ps m/\ps[i]?=none)
theorem ZeK{I:Addr}{o:Obj}{es:Array (Int×P6)}{ep:Nat}{t:SetTable}{fp:List Addr}{P:Nat->P6->Prop}{F:Nat->P6->Heap->Prop}(hh:A.handled=none)(hd:o.data = .set es ep t)(hf:t.fits es.size=true)(hIa:I≠a)(hI:I∈fp)(ha:a∈fp)
  (hF:∀i f h h',F i f h->(∀b∈fp,b≠I->∀o,h.get? b=some o->h'.get? b=some o)->F i f h')
  (hs:∀i (s:P0) f,i<es.size->s.heap.get? a=some o->F i f s.heap->∃x f',P i x/\Zl7 prog w s a es ep i f f' x/\F (i+1) f' s.heap)
  (he:∀(s:P0) f,s.heap.get? a=some o->F es.size f s.heap->Zpk prog w s a ep es.size f) :
  WalksS prog w A I fp [I] (fun x y=>y=x) es.size P (fun i s => ∃f,ItS s.heap I a o es.size ep f i/\F i f s.heap) where
 sub:=fun b hb=>by rw[YA.mp hb]; exact hI
 grefl:=fun _=>rfl
 gtrans:=fun _ _ _ h1 h2=>h2.trans h1
 frame:=fun i s h' tk st _ hk=>by
  obtain⟨f,X,hf'⟩:=st;obtain⟨⟨oI,h1,h2,h3⟩,h4⟩:=X;exact⟨f,⟨⟨oI,hk I hI _ h1,h2,h3⟩,hk a ha _ h4⟩,hF _ _ _ _ hf' fun b hb _ o e=>hk b hb o e⟩
 item:=fun i s Q E hi st hQ=>by
  obtain⟨f,X,hf'⟩:=st;obtain⟨x,f',hP,hst,hn⟩:=hs i s f hi X.st hf';refine next_item X hd hf hIa hst fun h' sb X'=>hQ x _ hP ⟨f',X',hF _ _ _ _ hn fun b _ hb o e=>(sb.2 b hb).trans e⟩ ⟨fun b o hb e => ?_,rfl,rfl,rfl,Yj _⟩;exact (sb.2 b fun z=>hb (YA.mpr z)).trans e
 done:=fun s Q E st hQ=>by
  obtain⟨f,X,hf'⟩:=st;refine next_end hh X hd hf (he s f X.st hf') fun h' xb=>hQ _ ⟨fun b o hb e=>xb b o (fun z=>hb (YA.mpr z)) e,rfl,rfl,rfl,Yj _⟩
 self:=fun i s Q E st hQ=>by
  obtain⟨f,X,_⟩:=st;refine VL X.typeIs SF.slotJ (YI SF.slotJ X.typeIs SF.entryJ ?_ (SF.argsJ _));show wpAny _ _ (ret (.ref I)) _ _ s;exact Yb ⟨_,rfl, "set_iterator",_,X.typeIs,SF.slotN.lookup,hQ⟩
theorem Zhs{o:Obj}{es:Array (Int×P6)}{ep:Nat}{t:SetTable}{slot i:Nat}{Q:Option (P6×Nat)->P0->Prop}(hb:byT w=true)(ho:s.heap.get? a=some o)(hd:o.data = .set es ep t)(hf:t.fits es.size=true)
  (h:Q (((pickOrder (w.params.setOrder a ep) es)[i]?).map fun e=>(e.2,slot)) s):wpAny (model prog w) A (setNext a slot i ep) Q E s:=by
 unfold setNext;refine Ya (WD ho hd hf ?_);dsimp only;refine Ya (ZdU ?_);rw[hb];rw[Yi rfl,Yh (by simp)];refine Ya ?_;unfold setWalk;refine Ya (WD ho hd hf ?_);dsimp only;refine Ya (ZdU ?_);rw[hb,Yi rfl];exact Ya (UL (Yb (Yb h)))
theorem ZjH(p j:Nat):SetTable.below #[p] j=if p<j then 1 else 0:=by
 show SetTable.below.go #[p] j 1 0 1=_;unfold SetTable.below.go;rw[Yi (by omega)];show (if (#[p]:Array Nat).getD 0 j<j then SetTable.below.go #[p] j 0 1 1 else SetTable.below.go #[p] j 0 0 0)=_;show (if p<j then _ else _)=_;split <;> rfl
theorem Zhc{o:Obj}{es:Array (Int×P6)}{ep:Nat}{t:SetTable}{slot i:Nat}{Q:Option (P6×Nat)->P0->Prop}(hb:byT w=false)(ho:s.heap.get? a=some o)(hd:o.data = .set es ep t)(hT:TabT w t es.size)(h1:es.size<=1)
  (h:Q (match es[SetTable.below t.place slot]?,t.place[SetTable.below t.place slot]? with | some (_,x),some j=>some (x,j+1) | _,_=>none) s):wpAny (model prog w) A (setNext a slot i ep) Q E s:=by
 unfold setNext;refine Ya (WD ho hd hT.fits ?_);dsimp only;refine Ya (ZdU ?_);rw[hb];refine Wf (fun z=>absurd z (by decide)) (fun _ => ?_);refine Wf (fun z => ?_) (fun _ => ?_)
 ·exfalso;have z':(!t.plain && decide (es.size > 1))=true:=z;rw[YE,YD] at z';omega
 ·have hl:t.led=true:=by rw[hT.led,hb]; rfl
  refine Ya ?_;refine Ul (a:=()) ?_ (Yb h);show (if (!t.led && !es.isEmpty)=true then unsupported "set:maker-not-led" else pure ())=_;rw[hl];rfl
end
end DL
end
section
namespace DL
open PySem PySem.Spec PyProof.Rows L2
theorem map_getD{α β:Type}(f:α->β)(b:β)(es:List α):(List.range es.length).map (fun i=>((es[i]?).map f).getD b)=es.map f:=by
 refine Vh (by simp) fun i h1 h2 => ?_;have:i<es.length:=by simpa using h1
 simp[Yd this]
theorem ZnC{L:List P6}{acc:Array P6}(h:ItemsOf (fun i v=>L[i]?=some v) acc L.length):acc.toList=L:=by
 obtain⟨h1,h2⟩:=h;refine Uw fun i => ?_;rw[Y3];by_cases hi:i<acc.size
 ·rw[Yt hi];exact (h2 i _ (Yt hi)).symm
 ·rw[Qm (by omega),Qa (by omega)]
section
variable{prog:P4}{w:World}{A:P3}{E:P6->P0->Prop}{s:P0}{a:Addr}
theorem Zpf{xs:List Str}{Q:P6->P0->Prop}(hS:SetT prog w s.heap a xs)
  (h:∀(h':Heap) (d:Drawn) (I:Addr) (fp:List Addr) (St:Nat->P0->Prop) (L:List P6) (ys:List Str),(∀b o,s.heap.get? b=some o->h'.get? b=some o)->s.heap.objs.size<=I->(∀b∈fp,b=a\/s.heap.objs.size<=b) ->
   (∀A':P3,A'.handled=none->WalksS prog w A' I fp [I] (fun x y=>y=x) L.length (fun i v=>L[i]?=some v) St)->St 0 { s with heap:=h',drawn:=d }->StrsAre L ys->ys.Perm xs->Q (.ref I) { s with heap:=h',drawn:=d }) :
  wpAny (model prog w) A (pyIter (.ref a)) Q E s:=by
 obtain⟨o,es,ep,t,ho,hx,hd,hT,hel,hs,hn,hb⟩:=id hS;have haS:a<s.heap.objs.size:=Yk ho;have hty:s.TypeIs (.ref a) "set":=⟨_,ho,hx.1⟩;refine VL hty PySem.F.slot_set_iter (YI PySem.F.slot_set_iter hty SF.entryI ?_ (PySem.F.args_set_iter_1 _));unfold Builtin.«frozenset.__iter__»;refine Ya (m:=Builtin.Frozenset.slot0 _ _) (Yb ?_);dsimp only;unfold Builtin.Frozenset.sizeOf;refine Ya (Ya (Ug ho hd hT.fits (Yb ?_)));refine Ya (m:=setDrawn a) (Ya (WD ho hd hT.fits ?_));dsimp only;refine Ya (ZdU (Yb ?_));have hz:es.toList.length=es.size:=YO;refine Wf (fun hc => ?_) (fun hc => ?_)
 ·-- drawn
  refine Ya (ZgX es.size (List.range es.size) s (by simp) fun q d hq => ?_);refine Ya (Vc ?_ (by
   rw[Yp,hq.length_eq,YV];exact QF hb))
  have hqb:∀(i p:Nat),q[i]?=some p->p<es.size:=fun i p e=>by
   have:=hq.mem_iff.mp (Wa e);simpa using this
  generalize hTo:({ cls:=.type "tuple",data:=.seq (q.map fun (i:Nat)=>rawInt (i:Int)).toArray }:Obj)=oT;refine Ya (m:=setEpoch a) (Ya (WD (s:={ s with heap:=s.heap.push oT,drawn:=d }) (Yc _ ho) hd hT.fits (Yb ?_)));refine Ya (YZ (Yb ⟨_,rfl, "set_iterator",_,⟨_,Ym _ rfl,rfl⟩,SF.slotN.lookup,?_⟩));have hTg:(s.heap.push oT).get? s.heap.objs.size=some oT:=Ym _ (by rw[<-hTo]; rfl);have hsz:(s.heap.push oT).objs.size=s.heap.objs.size+1:=Y9 ..;have hIT:(s.heap.push oT).objs.size≠s.heap.objs.size:=by omega
  have hIa:(s.heap.push oT).objs.size≠a:=WK (by rw[hsz]; exact Qh haS);have hL:(q.map fun i=>((es.toList[i]?).map (·.2)).getD .none).Perm (es.toList.map (·.2)):=by
   refine (hq.map _).trans (Vt ?_);rw[<-hz];exact map_getD (·.2) .none es.toList
  obtain⟨ys,hys,hp⟩:=Zec hL.symm hs;have hlen:(q.map fun i=>((es.toList[i]?).map (·.2)).getD .none).length=es.size:=by rw[Yp,hq.length_eq,YV]
  refine h _ d _ [(s.heap.push oT).objs.size,s.heap.objs.size,a] (fun i s' => ∃f,ItS s'.heap (s.heap.push oT).objs.size a o es.size ep f i/\(f = .ref s.heap.objs.size/\s'.heap.get? s.heap.objs.size=some oT)) _ ys (fun b o e=>Yc _ (Yc _ e)) (show s.heap.objs.size<=(s.heap.push oT).objs.size by rw[hsz]; exact Qc _) (fun b hb' => ?_) (fun A' hA' => ?_) ?_ hys hp.symm
  ·simp only[Yl,YC,Wg] at hb';rcases hb' with rfl | rfl | rfl
   ·right; omega
   ·right; omega
   ·left; rfl
  ·rw[hlen];refine ZeK (F:=fun i f h'=>f = .ref s.heap.objs.size/\h'.get? s.heap.objs.size=some oT) hA' hd hT.fits hIa (by simp) (by simp) (fun i f h1 h2 hF hk=>⟨hF.1,hk _ (by simp) (YW hIT) _ hF.2⟩) (fun i s' f hi _ hF => ?_) (fun s' f _ hF => ?_)
   ·have hiq:i<q.length:=by rw[hq.length_eq,YV]; exact hi
    have e1:q[i]?=some q[i]:=Yd hiq;have e2:=hqb i _ e1;have e3:es.toList[q[i]]?=some (es[q[i]]):=by rw[Y3,Yt e2]
    refine⟨(es[q[i]]).2,.ref s.heap.objs.size,?_,.inr ⟨s.heap.objs.size,oT,(q.map fun (i:Nat)=>rawInt (i:Int)).toArray,0,q[i],(es[q[i]]).1,hF.1,rfl,hF.2,by rw[<-hTo],?_,?_⟩,rfl,hF.2⟩
    ·rw[Yw,e1];simp only[Vp,e3,Option.getD_some]
    ·rw[List.getElem?_toArray,Yw,e1];rfl
    ·rw[Yt e2]
   ·refine .inr ⟨s.heap.objs.size,oT,(q.map fun (i:Nat)=>rawInt (i:Int)).toArray,0,hF.1,hF.2,by rw[<-hTo],?_⟩;rw[List.getElem?_toArray];refine Qa ?_;rw[Yp,hq.length_eq,YV];exact Yj _
  ·exact⟨_,⟨⟨_,Ym _ rfl,rfl,rfl⟩,Yc _ (Yc _ ho)⟩,rfl,Yc _ hTg⟩
 ·-- by its places
  have hc':¬ (!byT w && (!t.plain && decide (es.size > 1)))=true:=hc;refine Ya (Yb ?_);refine Ya (m:=setEpoch a) (Ya (WD ho hd hT.fits (Yb ?_)));refine Ya (YZ (Yb ⟨_,rfl, "set_iterator",_,⟨_,Ym _ rfl,rfl⟩,SF.slotN.lookup,?_⟩));have hIa:s.heap.objs.size≠a:=WK haS;have hfp:∀b∈[s.heap.objs.size,a],b=a\/s.heap.objs.size<=b:=fun b hb'=>by
   simp only[Yl,YC,Wg] at hb';rcases hb' with rfl | rfl
   ·right; omega
   ·left; rfl
  generalize hIo:({ cls:=.type "set_iterator",data:=.fields [rawInt 0,rawInt 0,Value.ref a,rawInt (es.size:Int),rawInt (ep:Int)].toArray }:Obj)=oI;have hIg:(s.heap.push oI).get? s.heap.objs.size=some oI:=Ym _ (by rw[<-hIo]; rfl);have X0:ItS (s.heap.push oI) s.heap.objs.size a o es.size ep (.int 0 0) 0:=⟨⟨_,hIg,by rw[<-hIo],by rw[<-hIo]; rfl⟩,Yc _ ho⟩;have es0:∀{h':Heap},({ s with heap:=h' }:P0) = { s with heap:=h',drawn:=s.drawn }:=fun {h'}=>by cases s; rfl
  rw[es0];by_cases hbt:byT w=true
  ·have hL:((pickOrder (w.params.setOrder a ep) es).toList.map (·.2)).Perm (es.toList.map (·.2)):=(Zlk _ es).map _;obtain⟨ys,hys,hp⟩:=Zec hL.symm hs;have hlen:((pickOrder (w.params.setOrder a ep) es).toList.map (·.2)).length=es.size:=by rw[hL.length_eq,Yp,hz]
   have hpl:(pickOrder (w.params.setOrder a ep) es).size=es.size:=by simpa using hlen
   refine h _ s.drawn _ [s.heap.objs.size,a] (fun i s' => ∃f,ItS s'.heap s.heap.objs.size a o es.size ep f i/\f = .int 0 0) _ ys (fun b o e=>Yc _ e) (Yj _) hfp (fun A' hA' => ?_) ⟨_,X0,rfl⟩ hys hp.symm;rw[hlen];refine ZeK (F:=fun i f h'=>f = .int 0 0) hA' hd hT.fits hIa (by simp) (by simp) (fun i f h1 h2 hF hk=>hF) (fun i s' f hi ho' hF => ?_) (fun s' f ho' hF => ?_)
   ·have hi':i<(pickOrder (w.params.setOrder a ep) es).size:=by omega
    refine⟨((pickOrder (w.params.setOrder a ep) es)[i]).2,.int 0 0,?_,.inl ⟨0,0,hF,rfl,fun A E Q hQ=>Zhs hbt ho' hd hT.fits ?_⟩,rfl⟩
    ·rw[Yw,Y3,Yt hi']; rfl
    ·rw[Yt hi']; exact hQ
   ·refine .inl ⟨0,hF,fun A E Q hQ=>Zhs hbt ho' hd hT.fits ?_⟩;rw[Qm (by omega)];exact hQ
  ·have hbf:byT w=false:=by simpa using hbt
   have h1:es.size<=1:=by
    rw[hbf] at hc';by_cases hp:t.plain=true
    ·have:=hT.plain hp; omega
    ·rw[Bool.not_eq_true] at hp;rw[hp] at hc';simp at hc';omega
   have hpl:t.place.size=es.size:=by
    have:=hT.fits;unfold SetTable.fits at this;rw[YE] at this;exact eq_of_beq this.1
   have hlen:(es.toList.map (·.2)).length=es.size:=by simp
   refine h _ s.drawn _ [s.heap.objs.size,a] (fun i s' => ∃f,ItS s'.heap s.heap.objs.size a o es.size ep f i/\∃k:Nat,f = .int k 0/\SetTable.below t.place k=i) (es.toList.map (·.2)) xs (fun b o e=>Yc _ e) (Yj _) hfp (fun A' hA' => ?_) ⟨_,X0,0,rfl,?_⟩ hs (.refl _)
   ·rw[hlen];refine ZeK (F:=fun i f h' => ∃k:Nat,f = .int k 0/\SetTable.below t.place k=i) hA' hd hT.fits hIa (by simp) (by simp) (fun i f h1 h2 hF hk=>hF) (fun i s' f hi ho' hF => ?_) (fun s' f ho' hF => ?_)
    ·obtain⟨k,rfl,hk⟩:=hF;have hi':i<t.place.size:=by omega
     refine⟨(es[i]).2,.int ((t.place[i]+1:Nat)) 0,?_,.inl ⟨k,t.place[i]+1,rfl,rfl,fun A E Q hQ=>Zhc hbf ho' hd hT h1 ?_⟩,_,rfl,?_⟩
     ·rw[Yw,Y3,Yt hi]; rfl
     ·rw[hk,Yt hi,Yt hi']; exact hQ
     ·have hi0:i=0:=by omega
      subst hi0;have e1:t.place = #[t.place[0]]:=Array.ext (by simp; omega) fun j h2 h3=>by
       have:j=0:=by omega
       subst this; rfl
      generalize t.place[0]=p at e1 ⊢;rw[e1,ZjH,Yi (by omega)]
    ·obtain⟨k,rfl,hk⟩:=hF;refine .inl ⟨k,rfl,fun A E Q hQ=>Zhc hbf ho' hd hT h1 ?_⟩;rw[hk,Qm (Yj _)];exact hQ
   ·by_cases h0:es.size=0
    ·have:t.place = #[]:=Array.eq_empty_of_size_eq_zero (by omega);rw[this]; rfl
    ·have hp1:t.place.size=1:=by omega
     have e1:t.place = #[t.place[0]]:=Array.ext (by simp; omega) fun j h2 h3=>by
       have:j=0:=by omega
       subst this; rfl
     generalize t.place[0]=p at e1;rw[e1,ZjH,Yh (by omega)]
end
end DL
end
section
namespace DL
open PySem PySem.Spec PyProof.Rows L2 PySem.W SO
section
variable{prog:P4}{w:World}{A:P3}{E:P6->P0->Prop}{s:P0}{a:Addr}
theorem SetT.kept{h h':Heap}{xs:List Str}(x:SetT prog w h a xs)(hk:∀b o,h.get? b=some o->h'.get? b=some o):SetT prog w h' a xs:=by
 obtain⟨o,es,ep,t,ho,r⟩:=x;exact⟨o,es,ep,t,hk _ _ ho,r⟩
theorem SetT.typeIs{xs:List Str}(x:SetT prog w s.heap a xs):s.TypeIs (.ref a) "set":=by
 obtain⟨o,es,ep,t,ho,hx,_⟩:=x;exact⟨o,ho,hx.1⟩
theorem SetT.len{h:Heap}{xs:List Str}(x:SetT prog w h a xs):xs.length<scanBound/\xs.Nodup/\a<h.objs.size:=by
 obtain⟨o,es,ep,t,ho,hx,hd,hT,hel,hs,hn,hb⟩:=x;have:=hs.length;rw[Yp,YO] at this;exact⟨by omega,hn,Yk ho⟩
theorem ZkR{Q:Bool->P0->Prop}(hT:s.TypeIs (.ref a) "set")(h:Q false s):wpAny (model prog w) A (Builtin.List.listLengthHint (.ref a)) Q E s:=by
 unfold Builtin.List.listLengthHint;refine Ya (wpAny_specialOf hT PySem.F.slot_set_len.lookup ?_);generalize hid:("set.__len__" : String)=id0
 wp_delta
 rw[show splitId id0=some ("set", "__len__") from by subst hid; decide +kernel];subst hid;refine Ya (WO (T:="set") (b:=true) hT (by rw[Ui]; kernel_rfl) ?_);refine Wf (fun z=>absurd z (by decide)) (fun _ => ?_);exact Wf (fun _=>Ya (Q9 hT (Yb h))) (fun z=>absurd (by decide +kernel) z)
theorem Zla{xs:List Str}{R:List P6->P0->Prop}(hh:A.handled=none)(hS:SetT prog w s.heap a xs)
  (h:∀(h':Heap) (tk:Nat) (d:Drawn) (vs:List P6) (ys:List Str),(∀b o,s.heap.get? b=some o->h'.get? b=some o)->StrsAre vs ys->ys.Perm xs->R vs { s with heap:=h',toks:=tk,drawn:=d }) :
  wpAny (model prog w) A (collect (.ref a)) R E s:=by
 unfold collect;refine Ya (wpAny_runValue (WI entry_proto_collect' ?_));rw[Wn Uo _];show wpAny _ A.in1 (newList [] >>= fun l=>again (.builtin "list.__iadd__" ⟨[l,.ref a],[]⟩)) _ _ s;refine Ya (YZ (Yb ⟨QA QU _,WI entry_list_iadd' ?_⟩));rw[Wn QU _];show wpAny _ A.in1 (Builtin.List.listExtendWith (.ref s.heap.objs.size) (.ref a) (.ref s.heap.objs.size)) _ _ _;generalize hoL:({ cls:=.type "list",data:=.seq ([]:List P6).toArray }:Obj)=oL;have hL:(s.heap.push oL).get? s.heap.objs.size=some { cls:=.type "list",data:=.seq #[] }:=by rw[Ym _ (by rw[<-hoL]; rfl),<-hoL]
 have k0:∀b o,s.heap.get? b=some o->(s.heap.push oL).get? b=some o:=fun b o e=>Yc _ e;have hsz:(s.heap.push oL).objs.size=s.heap.objs.size+1:=Y9 ..;have haS:=hS.len.2.2;have hS1:SetT prog w (s.heap.push oL) a xs:=hS.kept k0;generalize s.heap.push oL=H1 at hL k0 hsz hS1;unfold Builtin.List.listExtendWith;refine Ya (Q9 (T:="set") (SetT.typeIs (s:={ s with heap:=H1 }) hS1) ?_);have h1:Builtin.List.listSameRef (.ref s.heap.objs.size) (.ref a)=false:=by
  have:s.heap.objs.size≠a:=WK haS;simp[Builtin.List.listSameRef,this]
 refine Wf (fun z => ?_) (fun _ => ?_)
 ·rw[h1] at z;exact absurd z (by decide)
 refine Ya (Zpf (s:={ s with heap:=H1 }) hS1 fun h2 d I fp St L ys k2 hI hfp W st0 hys hp => ?_);refine Ya (Y1 (ZkR (SetT.typeIs (s:={ s with heap:=h2,drawn:=d }) (hS1.kept k2)) ?_));refine Wf (fun _ => ?_) (fun z=>absurd (by decide +kernel) z);refine Ya (Wz ?_);have hf:s.heap.objs.size ∉ fp:=fun z=>by
  rcases hfp _ z with e | e
  ·rw[e] at haS; exact absurd haS (YY _)
  ·have e':H1.objs.size<=s.heap.objs.size:=e;omega
 have hg2:=k2 _ _ hL;refine Ya ?_;show wpAny _ _ (updateSeq s.heap.objs.size (·.push .none) >>= fun _=>updateSeq s.heap.objs.size (·.pop)) _ _ _;refine Ya (Qd hg2 rfl ?_);have hg3:=YJ (Obj.mapSeq (·.push Value.none)) hg2 rfl;refine Qd (hz:=by seq_fits) hg3 rfl ?_;have hg4:=YJ (Obj.mapSeq (·.pop)) hg3 rfl;have k4:∀b o,b≠s.heap.objs.size->h2.get? b=some o->((h2.update s.heap.objs.size (Obj.mapSeq (·.push Value.none))).update s.heap.objs.size (Obj.mapSeq (·.pop))).get? b=some o:=fun b o hb e =>
  (W5 _ _ (YW hb)).trans ((W5 _ _ (YW hb)).trans e)
 refine Yb ⟨QA WJ _,?_⟩;have hl:L.length=xs.length:=by rw[<-hp.length_eq]; exact hys.length
 have W1:=W A.in1 (by simp[hh]);have st1:=W1.frame 0 _ ((h2.update s.heap.objs.size (Obj.mapSeq (·.push Value.none))).update s.heap.objs.size (Obj.mapSeq (·.pop))) s.toks st0 (Yj _) fun b hb o e=>k4 b o (fun z=>hf (z ▸ hb)) e;refine codeAny_extend_loopS W1 (by rw[hl]; exact QF hS.len.1) s.heap.objs.size hf _ (L.length - 0) 0 _ #[] _ rfl (YT _) st1 hg4 (ItemsOf.nil _) fun s' acc c m hg hit => ?_;rw[Moved.eq_with m];refine Ya (Uy hg ?_);refine Yb ?_;rw[ZnC hit];refine h _ _ _ _ ys (fun b o e=>m.heap b o ?_ (k4 b o (Yr (Yk e)) (k2 _ _ (k0 _ _ e)))) hys hp;have hb:=Yk e;have hI':s.heap.objs.size+1<=I:=hsz ▸ hI;simp only[Yl,YC,Wg,Vv];exact⟨Yr hb,Yr (Yq hb (Uu hI'))⟩
end
end DL
end
section
namespace DL
open PySem PySem.Spec PyProof.Rows L2 PySem.W SO
def ddS:List Str->List Str
 | []=>[]
 | x :: xs=>if x∈ddS xs then ddS xs else x :: ddS xs
theorem ZcT:∀(xs:List Str) (y:Str),y∈ddS xs ↔ y∈xs
 | [],y=>Vm
 | x :: xs,y=>by
  unfold ddS;split
  ·rename_i h;rw[ZcT xs y,Yl];exact⟨.inr,fun z=>z.elim (fun e=>e ▸ (ZcT xs x).mp h) id⟩
  ·rw[Yl,Yl,ZcT xs y]
theorem ZcS:∀(xs:List Str),(ddS xs).Nodup
 | []=>QK
 | x :: xs=>by
  unfold ddS;split
  ·exact ZcS xs
  ·rename_i h;exact WH.mpr ⟨h,ZcS xs⟩
theorem ZfM:∀(xs:List Str),(ddS xs).length<=xs.length
 | []=>Yj _
 | x :: xs=>by
  unfold ddS;have:=ZfM xs;split
  ·exact Nat.le_succ_of_le this
  ·exact Nat.succ_le_succ this
def Zdz:List D->Sto->Out (List D)
 | [d],st=>match Zj st d with
  | some xs=>match Zbd xs with
   | some ss=>if ss.length<64 then .ok ((srtS (ddS ss)).map D.str) st else .bad
   | none => .bad
  | none => .bad
 | _,_ => .bad
section
variable{prog:P4}{w:World}{A:P3}{E:P6->P0->Prop}{s:P0}{a:Addr}
theorem Zj8{xs:List Str}{Q:P6->P0->Prop}(hh:A.handled=none)(hS:SetT prog w s.heap a xs)(h64:xs.length<64)
  (k:∀vs ys,StrsAre vs ys->ys.Perm xs->∀p:List Nat,p.Perm (List.range ys.length)->p.Pairwise (fun i j=>tltB (ys.getD i default) (ys.getD j default)=true)->∀(h1:Heap) b (h':Heap) tk d c,(∀b o,s.heap.get? b=some o->h1.get? b=some o)->h1.objs.size<=b->(∀b o,h1.get? b=some o->h'.get? b=some o) ->
   h'.get? b=some (seqObj "list" (p.map fun i=>vs.getD i .none).toArray c)->Q (.ref b) { s with heap:=h',toks:=tk,drawn:=d }) :
  wpAny (model prog w) A (call (.builtin "sorted") [.ref a]) Q E s:=by
 refine Vr kind_sorted plain_sorted entry_sorted (args_sorted1 _) ?_;unfold Builtin.«sorted»;refine Ya (m:=checkCount "sorted" 1 1 _) (Yb ?_);refine Ya (Zla (by simp[hh]) hS fun h1 tk d vs ys k1 hys hp => ?_);have hl:vs.length=ys.length:=hys.length;have hl2:ys.length=xs.length:=hp.length_eq;refine Ya (QX ?_ (by rw[YN]; omega));have hoL:(h1.push (seqObj "list" vs.toArray 0)).get? h1.objs.size=some (seqObj "list" vs.toArray 0):=Ym _ rfl;have keep:∀b o,h1.get? b=some o->(h1.push (seqObj "list" vs.toArray 0)).get? b=some o:=fun b o q=>Yc _ q;show wpAny _ _ _ _ _ { s with heap:=h1.push (seqObj "list" vs.toArray 0),toks:=tk,drawn:=d };generalize h1.push (seqObj "list" vs.toArray 0)=g at hoL keep;refine Ya (Y1 (YI slot_list_sort ⟨_,hoL,rfl⟩ entry_list_sort ?body (args_list_sort _)))
 case body =>
  refine ZhX (s:={ s with heap:=g,toks:=tk,drawn:=d }) (κ:=oneType') (lt:=fun i j=>tltB (ys.getD i default) (ys.getD j default)) hoL (by omega) (ZkW hys) (by rw[hl]; exact Zi6 (hp.nodup_iff.mpr hS.len.2.1)) fun p hp' hpw h' c hb hc => ?_;refine⟨_,rfl,Yb ⟨_,rfl,?_⟩⟩;rw[hl] at hp';exact k vs ys hys hp p hp' hpw h1 _ h' tk d c k1 (Yj _) (fun b o e=>hb b o (Yr (Yk e)) (keep b o e)) hc
end
section
variable{X:Cx}{EX:EXT}{pins:List (Addr×Obj)}{σ:L2.St}{H:Hp}{s:P0}
theorem Inv.drew{d:Drawn}(I:Inv X pins σ H s):Inv X pins σ H { s with drawn:=d }:=⟨I.ok,I.os,I.bare,I.base,I.loc,I.cell,I.free,I.freeC,I.pin,I.hok,I.len⟩
theorem Zls{e:Expr}{x y:Str}{p q pos pos2:Pos}{f:DA}(hcalm:X.calm=true)(hg:Gl X x)(hm:X.mg x=none)(hv:bootBuiltins x=some (.builtin "sorted"))(hg2:Gl X y)(hm2:X.mg y=none)(hv2:bootBuiltins y=some (.type "set"))(ha:PDA X EX [e] f)
  (hn:x≠"__name__":=by decide) (hdb:(x == ("__debug__" : Str))=false:=by decide) (hn2:y≠"__name__":=by decide) (hdb2:(y == ("__debug__" : Str))=false:=by decide)
  (he:starEach [e] X.env=(false,eval e X.env) :: starEach [] X.env:=by rfl):PDF X EX (.Call (.Name x p) [.Call (.Name y q) [e] [] pos2] [] pos) (Zn Zdz f):=by
 intro pins s σ H Q I h;have h':=ZeB _ _ _ h;refine W8 (ZaY I hg hm hv ?_ hn hdb);refine QY ?_ rfl rfl;show wpAny _ _ (spliced ((false,eval (.Call (.Name y q) [e] [] pos2) X.env) :: backTo pos (starEach [] X.env))) _ _ s;refine Qn ?_;refine W8 (ZaY I hg2 hm2 hv2 ?_ hn2 hdb2);refine Ww (thn (ha pos2 pins s σ H _ I h') fun us s1 ⟨vs,H1,I1,r1,q1⟩ => ?_) he rfl;obtain⟨O,ds,st,W,r,R⟩:=q1;unfold Zdz at R;split at R
 ·rename_i d;obtain⟨v,rfl,rv⟩:=r.one_of;split at R
  ·rename_i zs ez;split at R
   ·rename_i ss hss;by_cases hc:ss.length<64
    ·rw[Yi hc] at R;obtain⟨pl,vs,rfl,qq,rs⟩:=rdL W rv ez;have hzs:=Zf6 hss;subst hzs;cases r1 with
     | cons r0 rt =>
      cases rt;cases r0;obtain⟨its,rv',pl',hz⟩:=I1.list qq;have hl1:=rv'.length;have hl2:=rs.length;rw[Yp] at hl2;have sAll:StrsAre its ss:=by
       refine ZiT (by omega) fun i v x h1 h2 => ?_;obtain⟨y,h3,h4⟩:=rs.get (i:=i) (d:=D.str x) (by rw[Yw,h2]; rfl);rw[Rep.str_i] at h4;subst h4;obtain⟨u,h5,t,h6⟩:=rv'.get h3;rw[h1] at h5;cases h5;exact⟨t,h6⟩
      have hsb:its.length=ss.length:=by omega
      refine Zqs (items:=its.toArray) (ss:=ss) (I1.ok.hd hcalm) pl'.isList (by simpa using sAll) (by
       have:scanBound=4096:=rfl;simp; omega) fun h2 tk xs hS hmem hk => ?_
      refine Q7 ?_;have k1:∀b o,s1.heap.get? b=some o->h2.get? b=some o:=fun b o e=>hk b o (Yk e) e;have hperm:xs.Perm (ddS ss):=(Uq hS.len.2.1 (ZcS ss)).mpr fun y=>by rw[hmem,ZcT]
      have hxl:xs.length<64:=by
       rw[hperm.length_eq];exact Nat.lt_of_le_of_lt (ZfM ss) hc
      have I2:Inv X pins σ H1 { s1 with heap:=h2,toks:=tk }:=I1.kept k1;refine Zj8 (s:={ s1 with heap:=h2,toks:=tk }) (I1.ok.hd hcalm) hS hxl fun vs' ys hys hp ix hpx hw h3 b h4 tk4 d4 c k3 hb k4 hg4 => ?_;have I3:Inv X pins σ H1 { s1 with heap:=h2,toks:=tk,drawn:=d4 }:=Inv.drew I2;have hsame:srtS ys=srtS (ddS ss):=by
       refine (srtS_uniq ?_ ?_).symm
       ·exact (srtS_perm _).trans (hp.trans hperm).symm
       ·refine List.Pairwise.imp₂ (R:=fun a b=>tleB a b=true) (S:=fun a b=>a≠b) (fun a b h1 h2 => ?_) (srtS_pw _) ((srtS_perm (ddS ss)).nodup_iff.mpr (ZcS ss));simp only[tleB,tltB,YD] at *;by_cases h5:a.cps.toList<b.cps.toList
        ·exact h5
        ·exact absurd (str_cps (VZ h1 (Uk.mp h5))) h2
      exact Zqv (s:={ s1 with heap:=h2,toks:=tk,drawn:=d4 }) I3 W hys (hsame ▸ R) hpx hw (by rw[hp.length_eq]; exact hxl) k3 hb k4 hg4
    ·rw[Yh hc] at R; exact R.elim
   ·exact R.elim
  ·exact R.elim
 ·exact R.elim
end
end DL
end
section
end
section
end
section
namespace DL
open PySem PySem.Spec PyProof.Rows L2
def Itl(K:P1)(a b:Addr):It :=
  ⟨fun i H => ∃xs ys x y,SqL K H a xs/\SqL K H b ys/\xs[i]?=some x/\ys[i]?=some y,
   fun i H v H' => ∃p x y,H p=none/\v = .ref p/\H'=upd H p (.tup [x,y])/\(∀xs,SqL K H a xs->xs[i]?=some x)/\∀ys,SqL K H b ys->ys[i]?=some y,
   fun i H => ∃xs ys,SqL K H a xs/\SqL K H b ys/\(xs.length<=i\/ys.length<=i)⟩
end DL
end
section
namespace DL
open PySem PySem.Spec PyProof.Rows L2
def Itv(K:P1)(a:Addr)(n:Nat):It :=
 ⟨fun i H => ∃xs x,SqL K H a xs/\xs.length=n/\xs.reverse[i]?=some x,fun i H x H'=>H'=H/\∀xs,SqL K H a xs->xs.reverse[i]?=some x,fun i H => ∃xs,SqL K H a xs/\xs.length=n/\n<=i⟩
theorem Zpj{P:P4}{w:World}{K:P1}{tg:Expr}(a it:Addr)(n:Nat):Turn P w K tg (Itv K a n) [it] it (fun i h=>i<=n/\h.IsRevIter it a ((n:Int) - 1 - (i:Nat))) where
 mem:=by simp
 obj:=fun i h st b hb=>by
  have e:b=it:=by simpa using hb
  subst e;obtain⟨_,o,e,c,d⟩:=st;exact⟨o,e,fun v z=>by rw[d] at z; cases z⟩
 keep:=fun i h h' st k=>⟨st.1,st.2.at fun o e=>k it (by simp) o e⟩
 item:=by
  intro X hP hw hK hc i pins s σ H E I hf st hg;subst hP hw hK;obtain⟨xs,x,hq,hn,hx⟩:=hg;obtain⟨its,rv,p,hz⟩:=I.list hq;have hi:i<n:=by
   have:=(Yo.mp hx).1;rw[Ud] at this;omega
  have hx2:xs[n - 1 - i]?=some x:=by
   rw[List.getElem?_reverse (by omega)] at hx;rw[<-hn];exact hx
  obtain⟨u,hu,ru⟩:=rv.get hx2;obtain⟨f0,f1,f2,f3,f4,f5⟩:=hf it (by simp);have hidx:((n:Int) - 1 - (i:Nat))=((n - 1 - i:Nat):Int):=by omega
  refine wpAny_pyNext_rev_item (i:=n - 1 - i) (hidx ▸ st.2) p.isList (x:=u) (by simpa using hu) fun h' st' sb => ?_;have hnext:((n - 1 - i:Nat):Int) - 1=(n:Int) - 1 - ((i+1:Nat):Int):=by omega
  rw[hnext] at st';have I1:Inv X pins σ H { s with heap:=h' }:=I.turned (t':=s.toks) (fun b o hb e=>(sb.2 b hb).trans e) f0 f1 f3 f4 f5;obtain⟨o,e,c,d⟩:=id st';exact⟨u,rfl,Zen (s:={ s with heap:=h' }) e c d (by decide) ⟨x,H,I1,ru,⟨rfl,fun ys hy=>by rw[I.list_inj hy hq]; exact hx⟩,⟨hi,st'⟩,fun b hb=>(hf b hb).1⟩⟩
 done:=by
  intro X hP hw hK hc i pins s σ H E I hf st hg;subst hP hw hK;obtain⟨xs,hq,hn,hx⟩:=hg;obtain⟨f0,f1,f2,f3,f4,f5⟩:=hf it (by simp);have hidx:((n:Int) - 1 - (i:Nat)) = -1:=by
   have:=st.1;omega
  exact wpAny_pyNext_rev_end (I.ok.hd hc) (hidx ▸ st.2) fun h' eb=>⟨rfl,I.turned (t':=s.toks) (fun b o hb e=>eb b o hb e) f0 f1 f3 f4 f5⟩
 self:=fun _ _ _ _ _ st h=>by
  have hT:=st.2.typeIs;refine VL hT PySem.F.slot_lri_iter (YI PySem.F.slot_lri_iter hT PySem.F.entry_lri_iter ?_ (PySem.F.args_lri_iter_1 _));show wpAny _ _ (ret (.ref it)) _ _ _;exact Yb ⟨_,rfl, "list_reverseiterator",_,hT,PySem.F.slot_lri_next.lookup,h⟩
section
variable{X:Cx}{EX:EXT}{tg a:Expr}{p pos:Pos}{f:DE}
def ZmE(K:P1)(tl:TA):TI:=fun σ H R=>tl σ H fun vs H1 => ∃a xs,vs=[.ref a]/\SqL K H1 a xs/\R (Itv K a xs.length) H1
theorem ZoI{ta:TA}(hg:Gl X "reversed")(hm:X.mg "reversed" = none)(ha:PA X [a] ta)(hs:starEach [a] X.env=[(false,eval a X.env)]:=by rfl):PI X tg (.Call (.Name "reversed" p) [a] [] pos) (ZmE X.K ta):=by
 intro pins s σ H R I h;refine Call_ (ZaY I hg hm PyProof.Rows.boot_reversed (Ww (thn (ha pos pins s σ H _ I h) fun us s1 ⟨vs,H1,I1,r1,q1⟩ => ?_) (by rw[hs]; rfl) rfl));obtain⟨pa,xs,e,h1,q⟩:=q1;subst e;cases r1 with
 | cons r rr =>
  cases rr;cases r;obtain⟨its1,v1,p1,_⟩:=I1.list h1;have hl:=v1.length;refine call_reversed_list p1.isList ?_;have I2:Inv X pins σ H1 { s1 with heap:=s1.heap.push (revObj pa ((its1.toArray.size:Int) - 1)) }:=I1.kept (t':=s1.toks) fun b o e=>Yc _ e;have T:=Zpj (P:=X.prog) (w:=X.w) (K:=X.K) (tg:=tg) pa s1.heap.objs.size xs.length;have st:(0:Nat)<=xs.length/\(s1.heap.push (revObj pa ((its1.toArray.size:Int) - 1))).IsRevIter s1.heap.objs.size pa ((xs.length:Int) - 1 - ((0:Nat):Int)):=by
   refine⟨YT _,_,Ym _ rfl,rfl,?_⟩;show Data.fields #[.ref pa,rawInt ((its1.toArray.size:Int) - 1)]=_;rw[Yn,<-hl];simp
  refine T.self _ 0 _ _ _ st ?_;refine⟨_,_,_,_,H1,rfl,I2,T,st,fun c hc => ?_,q⟩;have hle:s1.heap.objs.size<=c:=by
   simp only[Yl,YC,Wg] at hc;rw[hc];exact Yj _
  exact I1.fpOk hle (I1.hok.fresh hle)
def Zf3(f:DE):DI:=fun ρ st=>(f ρ st).bind fun d st1=>match Zj st1 d with
 | some xs => .ok (xs.reverse,fun st=>Zj st d=some xs) st1
 | none => .bad
theorem ZmH(hg:Gl X "reversed")(hm:X.mg "reversed" = none)(ha:PD X EX a f)(hs:starEach [a] X.env=[(false,eval a X.env)]:=by rfl):PID X EX tg (.Call (.Name "reversed" p) [a] [] pos) (Zf3 f):=by
 refine PI.mono (ZoI hg hm (Zf ha Zm (by rw[hs]; rfl)) hs) ?_;rintro σ H R ⟨O,ρ,st,W,E,R0⟩;have R1:=R0.bind;refine⟨O,ρ,st,W,E,?_⟩;unfold Zc Zg;cases hf:f ρ st with
 | bad=>rw[hf] at R1; exact R1.elim
 | exc c st'=>rw[hf] at R1; exact R1
 | ok d st' =>
  rw[hf] at R1;refine fun O1 H1 k1 W1 vs r => ?_;have R2:=R1 O1 H1 k1 W1;dsimp only at R2;obtain⟨v,rfl,rv⟩:=r.one_of;cases e:Zj st' d with
  | none=>rw[e] at R2; exact R2.elim
  | some xs =>
   rw[e] at R2;obtain⟨pa,va,rfl,q,rs⟩:=rdL W1 rv e;refine⟨pa,va,rfl,q,Run.now (k:=fun q _ O' H' => ∀J,ItD X.K J O' H' q->R J H') R2 W1 _ ?_⟩;intro i O' H' st2 kp W' hp;obtain⟨pa',ws,e1,q',r'⟩:=rdL W' (Rep.mono kp _ _ rv) hp;cases e1;have hl1:=rs.length;have hl2:=r'.length;refine⟨fun x hx => ?_,fun hl=>⟨ws,q',by omega,by rw[Ud] at hl; omega⟩⟩;dsimp only at hx;obtain⟨v,h1,h2⟩:=(Zfr r').get hx;refine⟨⟨ws,v,q',by omega,h1⟩,?_⟩;rintro y H2 ⟨rfl,h3⟩;have h4:=h3 ws q';rw[h1] at h4;cases h4;exact⟨Keep.refl,W',h2⟩
end
end DL
end
section
namespace DL
open PySem PySem.Spec PyProof.Rows L2 PySem.W
def RawD(h:Heap)(d:Addr)(es:Array DictEntry)(ep:Nat):Prop:=∃o,h.get? d=some o/\o.ExactDict/\o.data = .dict es ep
section
variable{prog:P4}{w:World}{A:P3}{E:P6->P0->Prop}{s:P0}
theorem RawD.typeIs{d:Addr}{es:Array DictEntry}{ep:Nat}(x:RawD s.heap d es ep):s.TypeIs (.ref d) "dict":=let ⟨o,e,c,_⟩:=x; ⟨o,e,c.1⟩
theorem RawD.kept{h h':Heap}{d:Addr}{es:Array DictEntry}{ep:Nat}(x:RawD h d es ep)(k:∀o,h.get? d=some o->h'.get? d=some o):RawD h' d es ep:=let ⟨o,e,r⟩:=x; ⟨o,k o e,r⟩
theorem Zlo{d:Addr}{es:Array DictEntry}{ep:Nat}{Q:P6->P0->Prop}(hd:(d == sysModules)=false)(hm:RawD s.heap d es ep)
  (hQ:Q (.ref s.heap.objs.size) { s with heap:=s.heap.push { cls:=.type "dict_keyiterator",data:=.fields #[.ref d,.int 0 0,.int es.size 0,.int ep 0] } }):wpAny (model prog w) A (pyIter (.ref d)) Q E s:=by
 obtain⟨o,ho,hc,hdat⟩:=id hm;have hT:=hm.typeIs;refine VL hT PySem.F.slot_dict_iter (YI PySem.F.slot_dict_iter hT PySem.F.entry_dict_iter ?_ (PySem.F.args_dict_iter_1 _));unfold Builtin.«dict.__iter__» Builtin.Dict.dictSlotNone;refine Ya (Ya (Ve hT (Yb ?_)));dsimp only;refine Ya (m:=Builtin.Dict.showsAll d) ?_;unfold Builtin.Dict.showsAll;refine Wf (fun z=>by rw[hd] at z; cases z) (fun _=>Yb ?_);refine Ya (WE ho hdat (Ya (Qx ho hdat ?_)));refine Ya (YZ (Yb ⟨_,rfl, "dict_keyiterator",_,⟨_,Ym _ rfl,rfl⟩,Wt.lookup,?_⟩));simpa[rawInt] using hQ
theorem ZlA{it d:Addr}{i ep:Nat}{es:Array DictEntry}{e:DictEntry}{Q:Option P6->P0->Prop}(hit:s.heap.IsKeyIter it d i es.size ep)(hm:RawD s.heap d es ep)(hx:es[i]?=some e)
  (hQ:∀h',h'.IsKeyIter it d (i+1) es.size ep->Heap.SameBut it s.heap h'->Q (some e.key) { s with heap:=h' }):wpAny (model prog w) A (pyNext (.ref it)) Q E s:=by
 obtain⟨o,ho,hc,hd⟩:=id hit;obtain⟨od,hod,hcd,hdd⟩:=id hm;unfold pyNext;refine Ya (W6 (Y4 (name:=Str.ofString "__next__") hit.typeIs Wt
  (YI Wt hit.typeIs VD ?_ (Vy _))))
 have hown:Builtin.Dict_items.ownsTuple "dict_keyiterator" = false:=by decide
 have hT:=hit.typeIs
 repeat (any_goals (first | assumption | with_reducible refine Qi hT ?_ | with_reducible refine Vd ho hd ?_ | with_reducible refine WE hod hdd ?_ | with_reducible refine Qx hod hdd ?_ | with_reducible refine Qy hT ?_ | wp_step))
 simp only[show ¬ ((i:Int)<0) by omega,Wc,Y7,hx]
 repeat (any_goals (first | assumption | with_reducible refine Qi hT ?_ | with_reducible refine Qy hT ?_ | ((fail_if_success (with_reducible show wpAny _ _ (setField _ _ _) _ _ _)); wp_step)))
 simp only[hown,YG,Wc,Wl];refine W9 ho hd (by simp) ?_;rw[Yh]
 rotate_left
 ·decide +kernel
 have hit':(s.heap.update it (Obj.mapFields (·.setIfInBounds 1 (rawInt ((i:Int)+1))))).IsKeyIter it d (i+1) es.size ep :=
  ⟨_,YJ _ ho (Qw (Wo hd _)),(VJ ..).trans hc,by rw[Wo hd]; simp[rawInt]⟩
 have sb:=Yy s.heap it (Obj.mapFields (·.setIfInBounds 1 (rawInt ((i:Int)+1))));generalize s.heap.update it (Obj.mapFields (·.setIfInBounds 1 (rawInt ((i:Int)+1))))=h2 at hit' sb;have hT2:Shared.TypeIs { s with heap:=h2 } (.ref it) "dict_keyiterator":=hit'.typeIs;refine Ya (Y1 (Ya (Qy hT2 ?_)));refine Wf (fun _ => ?_) (fun z=>absurd (by decide +kernel) z);exact Yb (Yb ⟨_,rfl,Yb (hQ _ hit' sb)⟩)
theorem ZqA{it d:Addr}{i ep:Nat}{es:Array DictEntry}{Q:Option P6->P0->Prop}(hh:A.handled=none)(hit:s.heap.IsKeyIter it d i es.size ep)(hm:RawD s.heap d es ep)(hx:es[i]?=none)
  (hQ:∀h',Heap.ExtBut it s.heap h'->Q none { s with heap:=h' }):wpAny (model prog w) A (pyNext (.ref it)) Q E s:=by
 obtain⟨o,ho,hc,hd⟩:=id hit;obtain⟨od,hod,hcd,hdd⟩:=id hm;unfold pyNext;refine Ya (W6 (Y4 (name:=Str.ofString "__next__") hit.typeIs Wt
  (YI Wt hit.typeIs VD ?_ (Vy _))))
 have hown:Builtin.Dict_items.ownsTuple "dict_keyiterator" = false:=by decide
 have hT:=hit.typeIs
 repeat (any_goals (first | assumption | with_reducible refine Qi hT ?_ | with_reducible refine Vd ho hd ?_ | with_reducible refine WE hod hdd ?_ | with_reducible refine Qx hod hdd ?_ | with_reducible refine Qy hT ?_ | wp_step))
 simp only[show ¬ ((i:Int)<0) by omega,Wc,Y7,hx]
 repeat (any_goals (first | assumption | with_reducible refine Qi hT ?_ | with_reducible refine Qy hT ?_ | ((fail_if_success (with_reducible show wpAny _ _ (setField _ _ _) _ _ _)); wp_step)))
 simp only[hown,YG,Wc];refine W9 ho hd (by simp) ?_;refine Zfv (s:={ s with heap:=s.heap.update it (Obj.mapFields (·.setIfInBounds 0 Value.none)) }) hh fun o1 o2 c2 g2 => ?_;refine Ya (WO (T:="StopIteration") (b:=true) ⟨_,g2,c2⟩ VC ?_);exact Yb (hQ _ (((Yy ..).extBut.push _).push _))
theorem ZnK(hh:A.handled=none)(I d:Addr)(hne:d≠I)(es:Array DictEntry)(ep:Nat) :
  Walks prog w A I [I,d] [I] es.size (fun i v => ∃e,es[i]?=some e/\v=e.key) (fun i h=>h.IsKeyIter I d i es.size ep/\RawD h d es ep) where
 sub:=fun b hb=>by simp at hb; simp[hb]
 frame:=fun _ _ _ st hk=>⟨let ⟨o,e,r⟩:=st.1; ⟨o,hk I (by simp) o e,r⟩,st.2.kept fun o e=>hk d (by simp) o e⟩
 item:=fun i s Q E hi st hQ=>by
  refine ZlA st.1 st.2 (e:=es[i]) (by simp[hi]) fun h' hit' hs' => ?_;exact hQ _ h' s.toks ⟨es[i],by simp[hi],rfl⟩ ⟨hit',st.2.kept fun o e=>hs'.extBut d o hne e⟩ fun b o hb e=>hs'.extBut b o (fun h=>hb (by simp[h])) e
 done:=fun s Q E st hQ=>ZqA hh st.1 st.2 (by simp) fun h' he'=>hQ h' s.toks fun b o hb e=>he' b o (fun h=>hb (by simp[h])) e
 self:=fun _ _ _ _ st hQ=>wpAny_pyIter_keyiter st.1 hQ
theorem Zpa{d:Addr}{es:Array DictEntry}{ep:Nat}(lo:(d == sysModules)=false):KdlSrc prog w "dict" d d es.size (fun i v => ∃e,es[i]?=some e/\v=e.key) (fun h=>RawD h d es ep) where
 type:=fun _ hm=>hm.typeIs
 there:=fun _ hm=>let ⟨_,e,_⟩:=hm; ⟨Yk e,Yk e⟩
 keep:=fun _ _ hm hk=>hm.kept fun o e=>hk d (.inl rfl) o e
 notList:=by decide
 notTuple:=by decide
 hint:=fun _ _ _ _ hm hq=>kdl_hint_dict hm.typeIs hq
 iter:=fun _ _ hh hm=>⟨_,_,(fun _ _ hq=>Zlo lo hm hq),ZnK hh _ d (Yr (let ⟨_,e,_⟩:=hm; Yk e)) es ep,⟨⟨_,Ym _ rfl,rfl,rfl⟩,hm.kept fun o e=>Yc _ e⟩⟩
end
end DL
end
section
namespace DL
open PySem PySem.Spec PyProof.Rows L2 PySem.W
theorem ZmW{K:P1}{O:List Addr}{H:Hp}{d:D}{q:Key}(h:Zx d=some q):Rep K O H d (kV q):=by
 cases d with
 | int i =>
  cases (show some (Sum.inl i)=some q from h);exact Rep.int_i.mpr rfl
 | str x =>
  cases (show some (Sum.inr x)=some q from h);exact Rep.str_i.mpr rfl
 | _=>cases h
theorem Zjx{K:P1}{O:List Addr}{H:Hp}:∀{ds:List D} {qs:List Key},ZaR ds=some qs->Reps K O H ds (qs.map kV)
 | [],qs,h=>by
  cases (show some []=some qs from h);exact Reps.nil_i.mpr rfl
 | d :: ds,qs,h=>by
  unfold ZaR at h;cases h1:Zx d with
  | none=>rw[h1] at h; cases h
  | some k =>
   cases h2:ZaR ds with
   | none=>rw[h1,h2] at h; cases h
   | some ks =>
    rw[h1,h2] at h;cases h;exact Reps.cons_i.mpr ⟨_,_,rfl,ZmW h1,Zjx h2⟩
theorem Zkp{K:P1}{O:List Addr}{H:Hp}{d:D}{q:List Key}{a:Addr}(h:Zq d=some q)(ha:H a=some (.tup (q.map kV))):Rep K O H d (.ref a):=by
 cases d with
 | tup ds=>exact Rep.tup_i.mpr ⟨a,_,rfl,ha,Zjx h⟩
 | _=>cases h
theorem ZjO{K:P1}{O:List Addr}{H:Hp}:∀{ds:List (D×D)} {vs:List (List Key×V)} {xs:List (List Key×Addr×P6)},Kvs K Zq O H ds vs->KT H vs xs->Reps K O H (ds.map (·.1)) (xs.map fun x=>V.ref x.2.1)
 | [],vs,xs,h,t=>by
  cases (show vs=[] from h);cases t;exact Reps.nil_i.mpr rfl
 | (k,d) :: ds,vs,xs,h,t=>by
  obtain⟨q,v,r,rfl,hk,hr,ht⟩:=(show ∃q v r,vs=(q,v) :: r/\Zq k=some q/\Rep K O H d v/\Kvs K Zq O H ds r from h);cases t with
  | cons hq t =>
   rw[Ys,Ys];refine Reps.cons_i.mpr ⟨_,_,rfl,Zkp hk ?_,ZjO ht t⟩;exact hq.2.1
def Zdl:List D->Sto->Out (List D)
 | [.res i],st=>match st[i]? with
  | some (.dtt ds) => .ok (ds.map (·.1)) st
  | _ => .bad
 | _,_ => .bad
section
variable{X:Cx}{EX:EXT}
theorem Zp1(hc:X.calm=true):Zdb X EX (.type "list") Zdl:=by
 intro pins s σ H xs us Q I rx h;obtain⟨O,ds,st,W,r,R⟩:=h;unfold Zdl at R;split at R
 ·rename_i i;obtain⟨v,rfl,rv⟩:=r.one_of;rw[Rep.res_i] at rv;obtain⟨a,rfl,q⟩:=rv;split at R
  ·rename_i kvs hk;obtain⟨vs,e2,kv⟩:=W.at_ _ _ _ q hk;cases rx with
   | cons r0 rt =>
    cases rt;cases r0;obtain⟨z,hd,xs,kt,o,es,ep,g1,g2,g3,g4,g5,g6⟩:=ZaL I.hok (.inl e2);have hl:es.size=xs.length:=by
     have:=congrArg List.length g4;simpa using this
    have hlv:xs.length=vs.length:=(Paired.length kt).symm;refine kdl_call (Zpa (d:=a) (es:=es) (ep:=ep) hd) (I.ok.hd hc) ⟨o,g1,g2,g3⟩ (by omega) fun h' tk acc c kp hg hit => ?_;have hacc:acc.toList=xs.map fun x=>Value.ref x.2.1:=by
     refine Uw fun j => ?_;rw[Y3,Yw];by_cases hj:j<acc.size
     ·obtain⟨e,h1,h2⟩:=hit.2 j acc[j] (Yt hj);rw[Yt hj,h2];have h3:es.toList[j]?=some e:=by rw[Y3]; exact h1
      rw[g4,Yw] at h3;obtain⟨x,h4,h5⟩:=WC.mp h3;rw[h4,<-h5];rfl
     ·have:=hit.1;rw[Qm (by omega),Qa (by omega)];rfl
    refine⟨.ref s.heap.objs.size,upd H s.heap.objs.size (.lst (xs.map fun x=>V.ref x.2.1)),I.laid (t':=tk) kp (Yj _) ⟨by rw[Yp]; omega,acc.toList,c,?_,by simpa using hg⟩,rfl,Run.now (k:=New X.K Q) R W _ _ (ZjO kv kt) (I.hok.fresh (Yj _))⟩;rw[hacc];have:∀(l:List (List Key×Addr×P6)),Vals (l.map fun x=>V.ref x.2.1) (l.map fun x=>Value.ref x.2.1):=by
     intro l
     induction l with
     | nil=>exact .nil
     | cons x l ih=>exact .cons rfl ih
    exact this xs
  ·exact R.elim
 ·exact R.elim
end
end DL
end
section
end
section
namespace DL
open PySem PySem.Spec PyProof.Rows L2 PySem.W SO
def PlsAre(h:Heap):List P6->List (List Str)->Prop
 | [],[]=>True
 | v :: vs,p :: ps=>(∃b its,v = .ref b/\IsTup h b its.toArray/\StrsAre its p)/\PlsAre h vs ps
 | _,_=>False
theorem PlsAre.mono{h h':Heap}:∀{vs:List P6} {ps:List (List Str)},PlsAre h vs ps->(∀b,(.ref b)∈vs->∀o,h.get? b=some o->h'.get? b=some o)->PlsAre h' vs ps
 | [],[],_,_=>trivial
 | v :: vs,p :: ps,x,k=>by
  obtain⟨⟨b,its,rfl,⟨o,e,r⟩,s⟩,t⟩:=x;exact⟨⟨b,its,rfl,⟨o,k b Yz o e,r⟩,s⟩,t.mono fun c hc=>k c (Yv _ hc)⟩
 | [],_ :: _,x,_=>x.elim
 | _ :: _,[],x,_=>x.elim
theorem PlsAre.length{h:Heap}:∀{vs:List P6} {ps:List (List Str)},PlsAre h vs ps->vs.length=ps.length
 | [],[],_=>rfl
 | v :: vs,p :: ps,x=>by simp[PlsAre.length x.2]
 | [],_ :: _,x=>x.elim
 | _ :: _,[],x=>x.elim
theorem PlsAre.get{h:Heap}:∀{vs:List P6} {ps:List (List Str)},PlsAre h vs ps->∀(i:Nat),i<vs.length->∃b its,vs.getD i .none = .ref b/\IsTup h b its.toArray/\StrsAre its (ps.getD i [])
 | [],[],_,i,hi=>by simp at hi
 | v :: vs,p :: ps,x,i,hi=>by
  obtain⟨⟨b,its,rfl,t,s⟩,r⟩:=x;cases i with
  | zero=>exact⟨b,its,rfl,t,s⟩
  | succ i=>exact PlsAre.get r i (by simpa using hi)
 | [],_ :: _,x,_,_=>x.elim
 | _ :: _,[],x,_,_=>x.elim
end DL
end
section
namespace SO
open PySem PySem.W PyProof.Rows
section
variable{prog:P4}{w:World}{A:P3}{E:P6->P0->Prop}{s:P0}
structure CmpR(prog:P4)(w:World)(s:P0)(a:Addr)(vs:List P6)(κ:SortKind)(lt:Nat->Nat->Bool):Prop where
 kind:2<=vs.length->∀(h':Heap) (A:P3) (E:P6->P0->Prop) (Q:SortKind->P0->Prop),KB s a h'->Q κ { s with heap:=h' }->wpAny (model prog w) A (keyKind' vs.toArray) Q E { s with heap:=h' }
 less:2<=vs.length->∀(h':Heap) (A:P3) (E:P6->P0->Prop) (Q:Bool->P0->Prop) (i j:Nat),A.units<cLine->KB s a h'->i<vs.length->j<vs.length->Q (lt i j) { s with heap:=h' }->wpAny (model prog w) A (keyLt' κ (vs.getD i .none) (vs.getD j .none)) Q E { s with heap:=h' }
 inj:∀i j,i<vs.length->j<vs.length->vs.getD i .none=vs.getD j .none->i=j
theorem Zib{g:Heap}{a:Addr}{e1:Nat}{vs:List P6}{p:List Nat}{f:Bool->Sem PySem.Fin}{P:PySem.Fin->P0->Prop}(hoa:g.get? a=some (seqObj "list" #[] e1))(h64:vs.length<128)(hp:p.Perm (List.range vs.length))
  (k:∀h' c,(∀b o,b≠a->g.get? b=some o->h'.get? b=some o)->h'.get? a=some (seqObj "list" (p.map fun i=>vs.getD i .none).toArray c)->wpAny (model prog w) A (f false) P E { s with heap:=h' }) :
  wpAny (model prog w) A (seqEpoch a >>= fun e=>Builtin.List.listUpdate (.ref a) (fun _=>(p.map fun i=>vs.getD i Value.none).toArray) >>= fun _=>f (e != e1)) P E { s with heap:=g }:=by
 have z:((p.map fun i=>vs.getD i Value.none).toArray).size<=sizeLine+1:=by
  rw[Yn,Yp,hp.length_eq,YV,YN];omega
 have s2:=Yy g a (Obj.mapSeq fun _=>(p.map fun i=>vs.getD i Value.none).toArray);refine Ya (VO hoa rfl (Ya (Qz hoa rfl ?_ (YT _) z)));rw[Uv];exact k _ _ (fun b o ne e=>s2.extBut b o ne e) (Qu hoa fun _=>(p.map fun i=>vs.getD i Value.none).toArray)
theorem ZpL{a:Addr}{vs:List P6}{n0:Nat}{κ:SortKind}{lt:Nat->Nat->Bool}{P:PySem.Fin->P0->Prop}(hu:A.units<cLine)(ho:s.heap.get? a=some (seqObj "list" vs.toArray n0))(h64:vs.length<128)
  (C:CmpR prog w s a vs κ lt) (O:Ord vs.length lt)
  (k:∀p:List Nat,p.Perm (List.range vs.length)->p.Pairwise (fun i j=>lt i j=true)->∀h' c,KB s a h'->h'.get? a=some (seqObj "list" (p.map fun i=>vs.getD i .none).toArray c)->P (.done (.ret .none)) { s with heap:=h' }) :
  wpAny (model prog w) A (Builtin.«list.sort» ⟨[.ref a],[]⟩) P E s:=by
 have ha:a<s.heap.objs.size:=Yk ho;have s1:=Yy s.heap a (Obj.mapSeq fun _=>(#[]:Array P6));obtain⟨e1,ho1⟩:∃e1,(s.heap.update a (Obj.mapSeq fun _=>(#[]:Array P6))).get? a=some (seqObj "list" #[] e1):=⟨_,Qu ho fun _ => #[]⟩;have hk:KB s a (((s.heap.update a (Obj.mapSeq fun _=>(#[]:Array P6))).push (seqObj "tuple" vs.toArray 0)).push (seqObj "list" #[] 0)):=fun b o hb e =>
  Yc _ (Yc _ (s1.extBut b o hb e))
 have hoa:(((s.heap.update a (Obj.mapSeq fun _=>(#[]:Array P6))).push (seqObj "tuple" vs.toArray 0)).push (seqObj "list" #[] 0)).get? a=some (seqObj "list" #[] e1):=Yc _ (Yc _ ho1);rw[list_sort_plain];refine Ya (listItems_at ho rfl ?_);refine Ya (Qz ho rfl ?_ (by rw[Yn,YN]; omega) (YT _));refine Ya (VO ho1 rfl ?_);refine Ya (Vc ?_ (by show vs.length<=_; rw[YN]; omega));refine Ya (QX ?_ (YT _));refine Y1 ?_;show wpAny (model prog w) A _ P E { s with heap:=((s.heap.update a (Obj.mapSeq fun _=>(#[]:Array P6))).push (seqObj "tuple" vs.toArray 0)).push (seqObj "list" #[] 0) };generalize hg:((s.heap.update a (Obj.mapSeq fun _=>(#[]:Array P6))).push (seqObj "tuple" vs.toArray 0)).push (seqObj "list" #[] 0)=g at hk hoa;dsimp only;by_cases h2:vs.length<2
 ·have hn2:vs.toArray.size<2:=by rw[Yn]; omega
  rw[Yi hn2,Yi hn2];refine Ya (Yb (Ya (Yb ?_)));have hm:(arrOf (SortSt.mk' general' (vs.toArray.zip vs.toArray) #[] 7 none)).map (·.2)=((List.range vs.length).map fun i=>vs.getD i Value.none).toArray:=by
   show (vs.toArray.zip vs.toArray).map (·.2)=_
   match vs,h2 with
   | [],_=>simp
   | [v],_=>simp[Vq]
  have hpw:(List.range vs.length).Pairwise (fun i j=>lt i j=true):=by
   match vs,h2 with
   | [],_=>exact .nil
   | [v],_=>exact VG _ _
  have hf:failedOf (SortSt.mk' general' (vs.toArray.zip vs.toArray) #[] 7 none)=none:=rfl;dsimp only;rw[hm];refine Zib (f:=fun b=>if b=true then _ else _) hoa h64 (List.Perm.refl _) fun h' c hb hc => ?_;simp only[YG,Wc];exact Yb (k _ (List.Perm.refl _) hpw h' c (fun b o ne e=>hb b o ne (hk b o ne e)) hc)
 ·have hn2:¬ vs.toArray.size<2:=by rw[Yn]; omega
  rw[Yh hn2,Yh hn2];refine Ya (C.kind (by omega) g A E _ hk ?_);refine Ya (YM (Zow (κ:=κ) (vs:=vs) (lt:=lt) (Q:=fun st' s' => ∃p:Array Nat,arrOf st'=p.map (kas_item (vs.toArray.zip vs.toArray))/\failedOf st'=none/\p.toList.Perm (List.range vs.length)/\p.toList.Pairwise (fun i j=>lt i j=true)/\s' = { s with heap:=g })
   (by omega) h64 C.inj (fun E Q i j hi hj hQ=>C.less (by omega) g A E Q i j hu hk hi hj hQ) O fun st' p h1 h2 h3 h4=>⟨p,h3,h4,h1,h2,rfl⟩) ?_ fun _ _ e=>e)
  rintro⟨⟨⟩,st'⟩ s' ⟨p,har,hf,hA,hS,rfl⟩;dsimp only;rw[kat_snds rfl har,hf];refine Zib (f:=fun b=>if b=true then _ else _) hoa h64 hA fun h' c hb hc => ?_;simp only[YG,Wc];exact Yb (k _ hA hS h' c (fun b o ne e=>hb b o ne (hk b o ne e)) hc)
end
end SO
end
section
end
section
namespace DL
open PySem PySem.Spec PyProof.Rows L2
def Rs(xs:Array Nat):Prop:=xs.toList.Pairwise (· < ·)
theorem Rs.lt{xs:Array Nat}(h:Rs xs){i j:Nat}(hij:i<j)(hj:j<xs.size):xs.getD i 0<xs.getD j 0:=by
 have hi:i<xs.size:=by omega
 have:=Wd.mp h i j (by simpa using hi) (by simpa using hj) hij;simpa[Array.getD,hi,hj] using this
theorem ZfF{xs:Array Nat}(h:Rs xs)(j:Nat):∀(f lo hi:Nat),hi - lo<=f->lo<=hi->hi<=xs.size->(∀k,k<lo->xs.getD k 0<j)->(∀k,hi<=k->k<xs.size->j<=xs.getD k 0) ->
  SetTable.below.go xs j f lo hi<=xs.size/\(∀k,k<SetTable.below.go xs j f lo hi->xs.getD k 0<j)/\∀k,SetTable.below.go xs j f lo hi<=k->k<xs.size->j<=xs.getD k 0
 | 0,lo,hi,hf,hlh,hs,h1,h2=>by
  have:lo=hi:=by omega
  subst this;unfold SetTable.below.go;exact⟨hs,h1,h2⟩
 | f+1,lo,hi,hf,hlh,hs,h1,h2=>by
  unfold SetTable.below.go;by_cases hc:lo<hi
  ·rw[Yi hc];have hm1:lo<=(lo+hi) / 2:=by omega
   have hm2:(lo+hi) / 2<hi:=by omega
   have hms:(lo+hi) / 2<xs.size:=by omega
   have eD:xs.getD ((lo+hi) / 2) j=xs.getD ((lo+hi) / 2) 0:=by simp[Array.getD,hms]
   dsimp only;rw[eD];by_cases hd:xs.getD ((lo+hi) / 2) 0<j
   ·rw[Yi hd];refine ZfF h j f _ hi (by omega) (by omega) hs (fun k hk => ?_) h2;by_cases e:k=(lo+hi) / 2
    ·rw[e]; exact hd
    ·exact UD (h.lt (by omega) hms) hd
   ·rw[Yh hd];refine ZfF h j f lo _ (by omega) hm1 (by omega) h1 fun k hk hks => ?_;by_cases e:k=(lo+hi) / 2
    ·rw[e]; omega
    ·have:=h.lt (show (lo+hi) / 2<k by omega) hks;omega
  ·rw[Yh hc];have:lo=hi:=by omega
   subst this;exact⟨hs,h1,h2⟩
theorem Zg5{xs:Array Nat}(h:Rs xs)(j:Nat):SetTable.below xs j<=xs.size/\(∀k,k<SetTable.below xs j->xs.getD k 0<j)/\∀k,SetTable.below xs j<=k->k<xs.size->j<=xs.getD k 0 :=
 ZfF h j xs.size 0 xs.size (by omega) (YT _) (Yj _) (fun k hk=>by omega) fun k hk hks=>by omega
def live(t:SetTable)(j:Nat):Prop:=t.place[SetTable.below t.place j]?=some j
theorem Zf7{t:SetTable}{j:Nat}(h:t.slot j = .empty\/t.slot j = .dummy):¬ live t j:=by
 intro hl;unfold live at hl;have:t.slot j = .live (SetTable.below t.place j):=by
  unfold SetTable.slot;simp[hl]
 rw[this] at h;rcases h with h | h <;> cases h
theorem ZfC{t:SetTable}{f:Nat->Int}{h:Int}:∀(n:Nat) (p:SetTable.Probe) {j:Nat} {d:Option Nat},(∀k,p.dummy=some k->¬ live t k)->SetTable.probe.go t f h n p=some (.empty j d)->¬ live t (d.getD j)
 | 0,p,j,d,_,e=>by unfold SetTable.probe.go at e; cases e
 | n+1,p,j,d,hp,e=>by
  unfold SetTable.probe.go at e;have hadv:∀(q:SetTable.Probe),(t.advance q).dummy=q.dummy:=fun q=>by
   unfold SetTable.advance;split <;> rfl
  cases hs:t.slot p.j with
  | empty =>
   rw[hs] at e;cases e;cases hd:p.dummy with
   | none=>exact Zf7 (.inl hs)
   | some k=>exact hp k hd
  | dummy =>
   rw[hs] at e;refine ZfC n _ (fun k hk => ?_) e;rw[hadv] at hk;cases hk;exact Zf7 (.inr hs)
  | live i =>
   rw[hs] at e;dsimp only at e;split at e
   ·cases e
   ·refine ZfC n _ (fun k hk => ?_) e;rw[hadv] at hk;exact hp k hk
theorem ZlD{t:SetTable}{h:Int}{j:Nat}{b:Bool}(e:t.freeSlot h=some (j,b)):¬ live t j:=by
 unfold SetTable.freeSlot at e;split at e
 ·rename_i j' d he;cases e;exact ZfC _ _ (fun k hk=>by cases hk) he
 ·cases e
theorem Zjq{t:SetTable}{j:Nat}(h:Rs t.place)(hl:¬ live t j):Rs (t.put j).1.place:=by
 obtain⟨a,b,c⟩:=Zg5 h j;show Rs (SetTable.insertAt t.place (SetTable.below t.place j) j);unfold live at hl;generalize SetTable.below t.place j=p at *;unfold Rs at *;have e:(SetTable.insertAt t.place p j).toList=t.place.toList.take p++j :: t.place.toList.drop p:=by
  unfold SetTable.insertAt;simp[Qe,List.extract];rw[Ql (by simp)]
 have hsp:t.place.toList=t.place.toList.take p++t.place.toList.drop p:=(Wu _ _).symm;rw[hsp,Y8] at h;rw[e,Y8];refine⟨h.1,List.pairwise_cons.mpr ⟨fun x hx => ?_,h.2.1⟩,fun x hx y hy => ?_⟩
 ·obtain⟨k,hk,rfl⟩:=Ue hx;have hk':p+k<t.place.size:=by simp at hk; omega
  have h1:=c (p+k) (by omega) hk';have h2:(t.place.toList.drop p)[k]=t.place.getD (p+k) 0:=by simp[Array.getD,hk']
  rw[h2];by_cases hz:k=0
  ·subst hz;refine Nat.lt_of_le_of_ne h1 fun z=>hl ?_;rw[Yt (by omega)];simp only[Nat.add_zero] at z hk';rw[z];simp[Array.getD,hk']
  ·have hp0:p<t.place.size:=by omega
   have h3:=c p (Yj _) hp0;have h4:t.place.getD p 0<t.place.getD (p+k) 0:=by
    have h5:=Wd.mp h.2.1 0 k (by simp; omega) hk (by omega);simpa[Array.getD,hk',hp0] using h5
   omega
 ·rcases Yl.mp hy with rfl | hy
  ·obtain⟨k,hk,rfl⟩:=Ue hx;have hk1:k<p:=by simp at hk; omega
   have hk2:k<t.place.size:=by omega
   have:=b k hk1;simpa[Array.getD,hk2] using this
  ·exact h.2.2 x hx y hy
theorem Zgi{α:Type}(f:Nat->Option α):∀l:List Nat,((l.filterMap fun j=>(f j).map (j,·)).map (·.1)).Sublist l
 | [] => .slnil
 | x :: l=>by
  rw[QQ];cases f x with
  | none=>exact (Zgi f l).cons x
  | some y=>exact (Zgi f l).cons₂ x
theorem ZoH{mask finger moves:Nat}{led plain:Bool}{hs:Array Int}{t:SetTable}{o:Array Nat}(h:SetTable.laid mask finger moves led plain hs=some (t,o)):Rs t.place:=by
 unfold SetTable.laid at h;cases hc:SetTable.layClean mask hs with
 | none=>rw[hc] at h; cases h
 | some ow =>
  rw[hc] at h;have h':=Option.some.inj h;cases h';unfold Rs;dsimp only;exact List.Pairwise.sublist (Zgi _ _) List.pairwise_lt_range
end DL
end
section
namespace DL
open PySem PySem.Spec PyProof.Rows L2
theorem Zll{t:SetTable}{es:Array (Int×P6)}{h:Int}{x:P6}(hr:t.plain=true->Rs t.place)(hp:(layNew t es h x).2.1.plain=true):Rs (layNew t es h x).2.1.place:=by
 have ht:=(Zfl t es h x).2 hp;unfold layNew at hp ⊢;cases hf:t.freeSlot h with
 | none=>rw[hf] at hp; cases hp
 | some q =>
  obtain⟨j,b⟩:=q;rw[hf] at hp;dsimp only at hp ⊢;unfold SetTable.orStandIn at hp ⊢;split
  ·exact Zjq (hr ht) (ZlD hf)
  ·rename_i hc;rw[Yh hc] at hp;cases hp
theorem ZoB{t:SetTable}{es:Array (Int×P6)}{k:Nat}(hp:(relayAll t es k).2.1.plain=true):Rs (relayAll t es k).2.1.place:=by
 unfold relayAll at hp ⊢;cases hr:t.relaid (es.map (·.1)) k with
 | none=>rw[hr] at hp; cases hp
 | some q =>
  obtain⟨t',o⟩:=q;rw[hr] at hp;dsimp only at hp ⊢;split
  ·exact ZoH hr
  ·rename_i hc;rw[Yh hc] at hp;cases hp
structure TabI(w:World)(t:SetTable)(n:Nat):Prop where
 fits:t.fits n=true
 led:t.led = !byT w
 plain:t.plain=true->Rs t.place
section
variable(prog:P4)(w:World)
def SetI(h:Heap)(a:Addr)(xs:List Int):Prop :=
 ∃o es ep t,h.get? a=some o/\o.ExactSet/\o.data = .set es ep t/\TabI w t es.size/\ElemsOf (intKind prog w) es.toList/\IntsAre (es.toList.map (·.2)) xs/\xs.Nodup/\es.size<scanBound
end
section
variable{prog:P4}{w:World}{A:P3}{E:P6->P0->Prop}{s:P0}{a:Addr}
theorem Zf0:∀{vs:List P6} {xs:List Int},IntsAre vs xs->∀x,x∈xs ↔ ∃v∈vs,(intKind prog w).is x v=true
 | _,_,.nil,x=>⟨(fun h=>by cases h),fun⟨v,h,_⟩=>by cases h⟩
 | _,_,.cons y t r,x=>by
  have ih:=Zf0 r x;constructor
  ·intro h;rcases Yl.mp h with rfl | h
   ·exact⟨_,Yz,intKind_is _ _ _ _⟩
   ·obtain⟨v,h1,h2⟩:=ih.mp h;exact⟨v,Yv _ h1,h2⟩
  ·rintro⟨v,h1,h2⟩;rcases Yl.mp h1 with rfl | h1
   ·have e:x=y:=(intKind prog w).inj _ x y h2 (intKind_is _ _ _ _);rw[e];exact Yz
   ·exact Yv _ (ih.mpr ⟨v,h1,h2⟩)
theorem ZgZ:∀{vs vs':List P6},vs.Perm vs'->∀{xs:List Int},IntsAre vs xs->∃xs',IntsAre vs' xs'/\xs.Perm xs':=by
 intro vs vs' p
 induction p with
 | nil=>intro xs h; exact⟨xs,h,.refl _⟩
 | cons v _ ih =>
  intro xs h;cases h with
  | cons x t r =>
   obtain⟨xs',h1,h2⟩:=ih r;exact⟨x :: xs',.cons x t h1,h2.cons x⟩
 | swap u v l =>
  intro xs h;cases h with
  | cons x t r =>
   cases r with
   | cons y t' r'=>exact⟨y :: x :: _,.cons y t' (.cons x t r'),.swap y x _⟩
 | trans _ _ ih1 ih2 =>
  intro xs h;obtain⟨ys,h1,h2⟩:=ih1 h;obtain⟨zs,h3,h4⟩:=ih2 h1;exact⟨zs,h3,h2.trans h4⟩
theorem ints_snoc:∀{vs:List P6} {xs:List Int},IntsAre vs xs->∀(x:Int) (t:Tok),IntsAre (vs++[.int x t]) (xs++[x])
 | _,_,.nil,x,t => .cons x t .nil
 | _,_,.cons y u r,x,t => .cons y u (ints_snoc r x t)
theorem ZiI{es es1:Array (Int×P6)}{ep:Nat}{t t2:SetTable}{o:Obj}{xs1:List Int}{wd:Bool}{g:Bool->Sem Unit}{R:Option Bool->P0->Prop}(hg:∀(b:Bool) (s₁:P0) (Q':Unit->P0->Prop),Q' () s₁->wpAny (model prog w) A (g b) Q' E s₁)
  (ho:s.heap.get? a=some o) (hx:o.ExactSet) (hd:o.data = .set es ep t) (hb:es1.size<scanBound) (hT:TabI w t2 es1.size) (hel:ElemsOf (intKind prog w) es1.toList) (hs:IntsAre (es1.toList.map (·.2)) xs1) (hn:xs1.Nodup)
  (h:∀h' xs',Heap.SameBut a s.heap h'->SetI prog w h' a xs'->xs1.Perm xs'->R (some true) { s with heap:=h' }) :
  wpAny (model prog w) A (do
    storeSet a es1 t2
    if (!wd && t2.tooFull)=true then do
      g (relayAll t2 es1 (SetTable.grown es1.size)).2.2
      storeSet a (relayAll t2 es1 (SetTable.grown es1.size)).1 (relayAll t2 es1 (SetTable.grown es1.size)).2.1
      pure (some true)
     else pure (some true)) R E s:=by
 refine Ya (VI ho hd ?_ (QF hb));have o1:(s.heap.update a (Obj.putSet es1 t2)).get? a=some { o with data:=.set es1 (ep+1) t2 }:=by
  have q:=YJ (Obj.putSet es1 t2) ho (by rw[Vw es1 t2 hd]; rfl);rwa[Vw es1 t2 hd] at q
 have b1:=Yy s.heap a (Obj.putSet es1 t2);by_cases hc:(!wd && t2.tooFull)=true
 ·rw[Yi hc];have hp:=relayAll_perm t2 es1 (SetTable.grown es1.size);have hf:=relayAll_fits t2 es1 (SetTable.grown es1.size);have hl:=ZjQ t2 es1 (SetTable.grown es1.size);have hrs:=ZoB (t:=t2) (es:=es1) (k:=SetTable.grown es1.size);generalize relayAll t2 es1 (SetTable.grown es1.size)=Rl at hp hf hl hrs ⊢;obtain⟨es2,t3,gv⟩:=Rl;dsimp only at hp hf hl hrs ⊢;have hz:es2.size=es1.size:=by simpa using hp.length_eq
  obtain⟨xs2,hs2,hpx⟩:=ZgZ (hp.map (·.2)).symm hs;refine Ya (hg _ _ _ (Ya (VI (s:={ s with heap:=s.heap.update a (Obj.putSet es1 t2) }) o1 rfl ?_ (QF (by rw[hz]; exact hb)))));have o2:((s.heap.update a (Obj.putSet es1 t2)).update a (Obj.putSet es2 t3)).get? a=some { o with data:=.set es2 (ep+1+1) t3 }:=by
   have q:=YJ (Obj.putSet es2 t3) o1 (by rw[Vw es2 t3 rfl]; rfl);rwa[Vw es2 t3 rfl] at q
  exact Yb (h _ xs2 (b1.trans (Yy _ a _)) ⟨_,es2,_,t3,o2,hx,rfl,⟨hf,by rw[hl.1]; exact hT.led,hrs⟩,hel.perm hp,hs2,hpx.nodup_iff.mp hn,by rw[hz]; exact hb⟩ hpx)
 ·rw[Yh hc];exact Yb (h _ xs1 b1 ⟨_,es1,_,t2,o1,hx,rfl,hT,hel,hs,hn,hb⟩ (.refl _))
theorem add_int{x:Int}{tk:Tok}{xs:List Int}{Q:Bool->P0->Prop}(hS:SetI prog w s.heap a xs)(hr:xs.length+1<scanBound)
  (h:∀h' xs' b,Heap.SameBut a s.heap h'->SetI prog w h' a xs'->(∀y,y∈xs' ↔ y∈xs\/y=x)->xs'.length<=xs.length+1->Q b { s with heap:=h' }) :
  wpAny (model prog w) A (setAddHashed a (.int x tk) ((intKind prog w).hash x)) Q E s:=by
 obtain⟨o,es,ep,t,ho,hx,hd,hT,hel,hs,hn,hb⟩:=id hS;have hsz:es.size=xs.length:=by
  have:=hs.length;simpa using this
 have hkey:(intKind prog w).is x (.int x tk)=true:=intKind_is _ _ _ _;have hsc:(Value.int x tk).scannable=true:=rfl;unfold setAddHashed setAddHashedIn;refine Y1 (Ya (WD ho hd hT.fits ?_));dsimp only;rw[byScan_of (knd:=intKind prog w) hsc hb hel,Yi rfl];unfold setAddByScan;refine Ya (Ya (Wz (Ya (wpAny_setScan_of (knd:=intKind prog w) hkey ho hd hT.fits hel ?_))));cases hf:es.toList.findIdx? (fun e=>(intKind prog w).is x e.2) with
 | some j =>
  dsimp only;obtain⟨hj,hp,_⟩:=VQ.mp hf;have hm:x∈xs:=(Zf0 hs x).mpr ⟨_,YX.mpr ⟨_,Qk hj,rfl⟩,hp⟩;refine Yb (Yb ?_);have e:s = { s with heap:=s.heap }:=by cases s; rfl
  rw[e];exact h s.heap xs false (Heap.SameBut.refl a s.heap) hS (fun y=>⟨.inl,fun z=>z.elim id fun z=>z ▸ hm⟩) (Qc _)
 | none =>
  dsimp only;have hm:x ∉ xs:=fun hm=>by
   obtain⟨v,hv,q⟩:=(Zf0 (prog:=prog) (w:=w) hs x).mp hm;obtain⟨e,he,rfl⟩:=YX.mp hv;have:=UA.mp hf e he;rw[q] at this;cases this
  have hg:∀(b:Bool) {s₁:P0} {Q':Unit->P0->Prop},Q' () s₁->wpAny (model prog w) A (match b with | true=>rule "set.scan.the-table-gave-way" | false=>pure ()) Q' E s₁:=by
   intro b s₁ Q' hq;cases b
   ·exact Yb hq
   ·exact Wz hq
  have hp:=layNew_perm t es ((intKind prog w).hash x) (.int x tk);have hfit:=layNew_fits t es ((intKind prog w).hash x) (.int x tk);have hl:=Zfl t es ((intKind prog w).hash x) (.int x tk);have hrs:=Zll (t:=t) (es:=es) (h:=(intKind prog w).hash x) (x:=.int x tk) hT.plain;generalize layNew t es ((intKind prog w).hash x) (.int x tk)=Ln at hp hfit hl hrs ⊢;obtain⟨es1,t1,wd,gv⟩:=Ln;dsimp only at hp hfit hl hrs ⊢;rw[WX] at hp;have hz:es1.size=es.size+1:=by simpa using hp.length_eq
  have hel1:ElemsOf (intKind prog w) es1.toList:=(hel.push hkey hsc).perm hp;have hs0:IntsAre ((es.toList++[((intKind prog w).hash x,Value.int x tk)]).map (·.2)) (xs++[x]):=by
   rw[Wm];exact ints_snoc hs x tk
  obtain⟨xs1,hs1,hpx⟩:=ZgZ (hp.map (·.2)).symm hs0;have hn1:xs1.Nodup:=hpx.nodup_iff.mp (Q8.mpr ⟨hn,by simp,fun u hu v hv=>by
   rw[YA.mp hv];rintro rfl;exact hm hu⟩)
  have fin:∀h' xs',Heap.SameBut a s.heap h'->SetI prog w h' a xs'->xs1.Perm xs'->Q true { s with heap:=h' }:=fun h' xs' b1 b2 b3=>h h' xs' true b1 b2 (fun y=>by
   rw[<-(hpx.trans b3).mem_iff];simp) (by rw[<-(hpx.trans b3).length_eq]; simp)
  refine Ya (hg _ ?_);by_cases hpl:t1.plain=true
  ·rw[Yi hpl,hashByValue_scannable 8 hsc];refine Ya (Yb ?_);refine ZiI (t2:=if plainKind (Value.int x tk)=true then t1 else { t1 with plain:=false }) (fun b s₁ Q' hq=>by cases b <;> first | exact Yb hq | exact Wz hq) ho hx hd (by omega) ?_ hel1 hs1 hn1 fun h' xs' b1 b2 b3=>Yb (fin h' xs' b1 b2 b3);rw[Yi (show plainKind (Value.int x tk)=true from rfl)];exact⟨hfit,by rw[<-hT.led]; exact hl.1,hrs⟩
  ·rw[Yh hpl];refine Ya (Yb ?_);simp only[Wq];exact ZiI (fun b s₁ Q' hq=>by cases b <;> first | exact Yb hq | exact Wz hq) ho hx hd (by omega) ⟨hfit,by rw[<-hT.led]; exact hl.1,fun z=>absurd z hpl⟩ hel1 hs1 hn1 fun h' xs' b1 b2 b3=>Yb (fin h' xs' b1 b2 b3)
end
end DL
end
section
namespace DL
open PySem PySem.Spec PyProof.Rows L2 PySem.W SO
section
variable{prog:P4}{w:World}{A:P3}{E:P6->P0->Prop}{s:P0}{a:Addr}
theorem SetI.kept{h h':Heap}{xs:List Int}(x:SetI prog w h a xs)(hk:∀b o,h.get? b=some o->h'.get? b=some o):SetI prog w h' a xs:=by
 obtain⟨o,es,ep,t,ho,r⟩:=x;exact⟨o,es,ep,t,hk _ _ ho,r⟩
theorem SetI.typeIs{xs:List Int}(x:SetI prog w s.heap a xs):s.TypeIs (.ref a) "set":=by
 obtain⟨o,es,ep,t,ho,hx,_⟩:=x;exact⟨o,ho,hx.1⟩
theorem SetI.len{h:Heap}{xs:List Int}(x:SetI prog w h a xs):xs.length<scanBound/\xs.Nodup/\a<h.objs.size:=by
 obtain⟨o,es,ep,t,ho,hx,hd,hT,hel,hs,hn,hb⟩:=x;have:=hs.length;rw[Yp,YO] at this;exact⟨by omega,hn,Yk ho⟩
end
end DL
end
section
end
section
namespace DL
open PySem PySem.SetTable
def lq(m:Nat):Nat->Nat×Nat->Nat×Nat
 | 0,q=>q
 | n+1,q=>lq m n (leap m q.1 q.2)
theorem Ziy(m:Nat):∀(a b:Nat) (q:Nat×Nat),lq m (a+b) q=lq m b (lq m a q)
 | 0,b,q=>by rw[Wl]; rfl
 | a+1,b,q=>by rw[Nat.succ_add]; exact Ziy m a b _
theorem Zhf(m:Nat):∀(n:Nat) (q:Nat×Nat),(lq m n q).2=q.2 / 32 ^ n
 | 0,q=>by simp[lq]
 | n+1,q=>by
  rw[lq,Zhf];show q.2 / 32 / 32 ^ n=_;rw[Nat.div_div_eq_div_mul,Nat.pow_succ,Nat.mul_comm]
theorem Zjy(m:Nat):∀(n:Nat) (q:Nat×Nat),q.1<=m->(lq m n q).1<=m
 | 0,q,h=>h
 | n+1,q,h=>Zjy m n _ (by
  show (q.1 * 5+1+q.2 / 32) % (m+1)<=m;have:=Ub (q.1 * 5+1+q.2 / 32) (show 0<m+1 by omega);omega)
def lc(m:Nat):Nat->Nat->Nat
 | 0,i=>i
 | n+1,i=>lc m n ((i * 5+1) % (m+1))
theorem Zex(m:Nat):∀(a b i:Nat),lc m (a+b) i=lc m b (lc m a i)
 | 0,b,i=>by rw[Wl]; rfl
 | a+1,b,i=>by rw[Nat.succ_add]; exact Zex m a b _
theorem Zhq(m:Nat):∀(n i:Nat),lq m n (i,0)=(lc m n i,0)
 | 0,i=>rfl
 | n+1,i=>by
  rw[lq];have:leap m (i,0).1 (i,0).2=((i * 5+1) % (m+1),0):=by simp[leap]
  rw[this,Zhq];rfl
def orb(m:Nat):Nat->Nat->List Nat
 | 0,_=>[]
 | n+1,i=>i :: orb m n ((i * 5+1) % (m+1))
theorem ZhW(m:Nat):∀(n i x:Nat),x∈orb m n i->∃k,k<n/\lc m k i=x
 | 0,i,x,h=>by cases h
 | n+1,i,x,h=>by
  rcases Yl.mp h with rfl | h
  ·exact⟨0,by omega,rfl⟩
  ·obtain⟨k,h1,h2⟩:=ZhW m n _ x h;exact⟨k+1,by omega,h2⟩
def full(m:Nat):Bool:=(List.range (m+1)).all (fun e=>(orb m (m+1) 0).contains e) && lc m (m+1) 0 == 0
theorem Zhi{m e:Nat}(h:full m=true)(he:e<=m):∃a,a<=m/\lc m a 0=e:=by
 unfold full at h;rw[YE] at h;have h1:=YB.mp h.1 e (by simp; omega);obtain⟨k,h2,h3⟩:=ZhW m (m+1) 0 e (by simpa using h1);exact⟨k,by omega,h3⟩
theorem Zmz{m i e:Nat}(h:full m=true)(hi:i<=m)(he:e<=m):∃n,n<=m/\lc m n i=e:=by
 have h0:lc m (m+1) 0=0:=by
  unfold full at h;rw[YE] at h;exact eq_of_beq h.2
 obtain⟨a,ha,rfl⟩:=Zhi h hi;obtain⟨b,hb,rfl⟩:=Zhi h he;by_cases hab:a<=b
 ·exact⟨b - a,by omega,by rw[<-Zex,show a+(b - a)=b by omega]⟩
 ·exact⟨m+1+b - a,by omega,by rw[<-Zex,show a+(m+1+b - a)=(m+1)+b by omega,Zex,h0]⟩
def Msk(m:Nat):Prop:=m=7\/m=31\/m=127\/m=511
theorem ZnW:full 7=true:=by decide +kernel
theorem Zk5:full 31=true:=by decide +kernel
theorem Zna:full 127=true:=by decide +kernel
theorem Zlx:full 511=true:=by decide +kernel
theorem Msk.full{m:Nat}(h:Msk m):full m=true:=by
 rcases h with rfl | rfl | rfl | rfl
 ·exact ZnW
 ·exact Zk5
 ·exact Zna
 ·exact Zlx
theorem Zih{m e:Nat}(hm:Msk m)(q:Nat×Nat)(hi:q.1<=m)(hp:q.2<2 ^ 64)(he:e<=m):∃n,1<=n/\n<=13+m/\(lq m n q).1=e:=by
 have h2:(lq m 13 q).2=0:=by
  rw[Zhf];exact Nat.div_eq_of_lt (Yq hp (by decide))
 obtain⟨n,h3,h4⟩:=Zmz hm.full (Zjy m 13 q hi) he;refine⟨13+n,by omega,by omega,?_⟩;rw[Ziy];have:lq m 13 q=((lq m 13 q).1,0):=by rw[<-h2]
 rw[this,Zhq,h4]
section
variable{t:SetTable}
def ZV(t:SetTable):Nat->Probe->Probe
 | 0,p=>p
 | n+1,p=>ZV t n (t.advance p)
theorem Zdu:∀(a b:Nat) (p:Probe),ZV t (a+b) p=ZV t b (ZV t a p)
 | 0,b,p=>by rw[Wl]; rfl
 | a+1,b,p=>by rw[Nat.succ_add]; exact Zdu a b _
theorem ZlK(n:Nat)(p:Probe):ZV t (n+1) p=t.advance (ZV t n p):=Zdu n 1 p
theorem ZeS:∀(k:Nat) (p:Probe),k<=p.more->ZV t k p = { p with j:=p.j+k,more:=p.more - k }
 | 0,p,_=>rfl
 | k+1,p,h=>by
  rw[ZV];have:t.advance p = { p with j:=p.j+1,more:=p.more - 1 }:=by
   unfold advance;rw[Yi (by omega)]
  rw[this,ZeS k _ (by show k<=p.more - 1; omega)];dsimp only;congr 1 <;> omega
def ZfR(t:SetTable)(p:Probe)(L:Nat×Nat):Probe:={ p with j:=L.1,more:=runEnd t.mask L.1 - L.1,i:=L.1,perturb:=L.2 }
theorem Zfk(p:Probe):ZV t (p.more+1) p=ZfR t p (leap t.mask p.i p.perturb):=by
 rw[ZlK,ZeS _ _ (Yj _)];unfold advance;rw[Yh (by show ¬ p.more - p.more > 0; omega)];rfl
theorem ZjB(m i:Nat):runEnd m i - i<=9:=by
 unfold runEnd;split <;> omega
theorem Zh5:∀(n:Nat) (p:Probe),p.more<=9->∃k,k<=10 * (n+1)/\ZV t k p=ZfR t p (lq t.mask (n+1) (p.i,p.perturb))
 | 0,p,h=>⟨p.more+1,by omega,Zfk p⟩
 | n+1,p,h=>by
  obtain⟨k,h1,h2⟩:=Zh5 n (ZfR t p (leap t.mask p.i p.perturb)) (ZjB _ _);refine⟨p.more+1+k,by omega,?_⟩;rw[Zdu,Zfk,h2];rfl
theorem Zou{e:Nat}(hm:Msk t.mask){p:Probe}(h1:p.more<=9)(h2:p.i<=t.mask)(h3:p.perturb<2 ^ 64)(he:e<=t.mask):∃k,k<=10 * (13+t.mask)/\(ZV t k p).j=e:=by
 obtain⟨n,a,b,c⟩:=Zih hm (p.i,p.perturb) h2 h3 he;obtain⟨k,d,e'⟩:=Zh5 (t:=t) (n - 1) p h1;rw[show n - 1+1=n by omega] at d e';exact⟨k,by omega,by rw[e']; exact c⟩
theorem Zjj(h:Int):bits h<2 ^ 64:=by
 unfold bits;have:=Qr h (show (0:Int)<2 ^ 64 by decide);have:=Q4 h (show (2 ^ 64:Int)≠0 by decide);omega
theorem ZhN:∀(n:Nat) (l:List Nat),(∀e,e<n->e∈l)->n<=l.length
 | 0,l,_=>YT _
 | n+1,l,h=>by
  have hn:=h n (by omega);have:=ZhN n (l.erase n) fun e he=>(List.mem_erase_of_ne (by omega)).mpr (h e (by omega));rw[UM hn] at this;have:0<l.length:=List.length_pos_of_mem hn;omega
theorem ZoV{l:List Nat}{m:Nat}(h:l.length<=m):∃e,e<=m/\e ∉ l:=by
 refine QI fun z => ?_;have:=ZhN (m+1) l fun e he=>QI fun y=>z ⟨e,by omega,y⟩;omega
theorem Zgx(j:Nat):has #[] j=false:=by simp[has]
theorem slot_of(hd:t.dummies = #[])(j:Nat):t.slot j = .empty\/∃i,t.slot j = .live i/\t.place[i]?=some j:=by
 unfold slot;by_cases h:(t.place[below t.place j]? == some j)=true
 ·right;exact⟨below t.place j,by simp only[h,Wq],eq_of_beq h⟩
 ·left;simp only[h,Wc,hd,Zgx,YG]
theorem below_at{xs:Array Nat}(h:Rs xs){i j:Nat}(e:xs[i]?=some j):below xs j=i:=by
 obtain⟨hi,e⟩:=Vk.mp e;obtain⟨a,b,c⟩:=Zg5 h j;have hg:xs.getD i 0=j:=by simp[Array.getD,hi,e]
 have h1:¬ i<below xs j:=fun z=>by have:=b i z; omega
 have h2:¬ below xs j<i:=fun z=>by
  have h3:=h.lt z hi;have h4:=c _ (Yj _) (by omega);omega
 omega
theorem ZoS(h:Rs t.place){i j:Nat}(e:t.place[i]?=some j):t.slot j = .live i:=by
 unfold slot;simp only[below_at h e,e,QM,Wq]
theorem Zi8(hd:t.dummies = #[]){j:Nat}(h:j ∉ t.place.toList):t.slot j = .empty:=by
 rcases slot_of hd j with e | ⟨i,_,e⟩
 ·exact e
 ·exact absurd (by rw[<-Y3] at e; exact Wa e) h
theorem Zkf{j:Nat}(hr:Rs t.place)(h:t.slot j = .empty):j ∉ t.place.toList:=fun z=>by
 obtain⟨i,hi⟩:=Vb.mp z;rw[Y3] at hi;rw[ZoS hr hi] at h;cases h
end
end DL
end
section
namespace DL
open PySem PySem.SetTable
def Pth(t:SetTable)(p:Probe)(j:Nat):Prop:=∃n,(ZV t n p).j=j/\∀m,m<n->t.slot (ZV t m p).j≠.empty
structure TabP(t:SetTable)(es:List (Int×P6)):Prop where
 msk:Msk t.mask
 dum:t.dummies = #[]
 rs:Rs t.place
 len:t.place.size=es.length
 few:es.length * 5<t.mask * 3
 pth:∀q∈t.place.toList.zip es,Pth t (t.probeStart q.2.1) q.1
section
variable{t t':SetTable}{es:List (Int×P6)}
theorem Msk.le{m:Nat}(h:Msk m):7<=m/\m<=511/\m % 2=1:=by
 rcases h with rfl | rfl | rfl | rfl <;> decide
theorem TabP.room(T:TabP t es):es.length<=t.mask:=by
 have:=T.few;omega
theorem TabP.fits(T:TabP t es):t.fits es.length=true:=by
 have h:=T.room;have l:=T.len;have d:=T.dum;unfold SetTable.fits SetTable.fill;simp[l,d,h]
theorem TabP.gave(T:TabP t es):t.gaveWay=false:=by
 have:=T.msk.le;unfold SetTable.gaveWay;simp[this.2.2]
theorem Zkv(t:SetTable)(h:Int):(t.probeStart h).more<=9/\(t.probeStart h).i<=t.mask/\(t.probeStart h).perturb<2 ^ 64/\(t.probeStart h).dummy=none:=by
 refine⟨ZjB _ _,?_,Zjj h,rfl⟩;have:=Ub (bits h) (show 0<t.mask+1 by omega);show bits h % (t.mask+1)<=t.mask;omega
theorem TabP.ends(T:TabP t es)(h:Int):∃N,N<=10 * (13+t.mask)/\t.slot (ZV t N (t.probeStart h)).j = .empty:=by
 obtain⟨e,h1,h2⟩:=ZoV (l:=t.place.toList) (m:=t.mask) (by rw[YO,T.len]; exact T.room);obtain⟨a,b,c,_⟩:=Zkv t h;obtain⟨k,h3,h4⟩:=Zou T.msk a b c h1;exact⟨k,h3,by rw[h4]; exact Zi8 T.dum h2⟩
theorem Zqp(h:t.mask=t'.mask)(p:Probe):t.advance p=t'.advance p:=by
 unfold advance;rw[h]
theorem Zfc(h:t.mask=t'.mask):∀(n:Nat) (p:Probe),ZV t n p=ZV t' n p
 | 0,p=>rfl
 | n+1,p=>by rw[ZV,ZV,Zqp h,Zfc h]
theorem Pth.mono{p:Probe}{j:Nat}(h:t.mask=t'.mask)(hs:∀x,t.slot x≠.empty->t'.slot x≠.empty)(q:Pth t p j):Pth t' p j:=by
 obtain⟨n,a,b⟩:=q;exact⟨n,by rw[<-Zfc h]; exact a,fun m hm=>by rw[<-Zfc h]; exact hs _ (b m hm)⟩
theorem ZhT(hd:t.dummies = #[])(hr:Rs t.place)(x:Nat):t.slot x≠.empty ↔ x∈t.place.toList:=by
 constructor
 ·intro h;exact QI fun z=>h (Zi8 hd z)
 ·intro h z;exact Zkf hr z h
theorem Zlc{α:Type}(xs:Array α)(p:Nat)(x:α):(insertAt xs p x).toList=xs.toList.take p++x :: xs.toList.drop p:=by
 unfold insertAt;simp[Qe,List.extract];rw[Ql (by simp)]
theorem Zm7{α β:Type}{xs:List α}{ys:List β}(h:xs.length=ys.length)(p:Nat)(x:α)(y:β)(q:α×β)(hq:q∈(xs.take p++x :: xs.drop p).zip (ys.take p++y :: ys.drop p)):q=(x,y)\/q∈xs.zip ys:=by
 rw[UO (by simp[h]),List.zip_cons_cons] at hq;rcases YR.mp hq with z | z
 ·right;rw[<-Wu p xs,<-Wu p ys,UO (by simp[h])];exact Wx _ z
 ·rcases Yl.mp z with z | z
  ·exact .inl z
  ·right;rw[<-Wu p xs,<-Wu p ys,UO (by simp[h])];exact YU _ z
theorem TabP.put(T:TabP t es){j:Nat}{h:Int}{v:P6}(hj:t.slot j = .empty)(hp:Pth t (t.probeStart h) j)(pl:Bool)(hf:(es.length+1) * 5<t.mask * 3) :
  TabP { (t.put j).1 with plain:=pl } (es.take (t.put j).2++(h,v) :: es.drop (t.put j).2):=by
 have hd:(t.put j).1.dummies = #[]:=by
  show (if has t.dummies j then _ else t.dummies)=_;rw[T.dum,Zgx];rfl
 have hpl:(t.put j).1.place.toList=t.place.toList.take (below t.place j)++j :: t.place.toList.drop (below t.place j):=Zlc _ _ _;have hrs:Rs (t.put j).1.place:=Zjq T.rs (Zf7 (.inl hj));have hl:(es.take (t.put j).2++(h,v) :: es.drop (t.put j).2).length=es.length+1:=by
  simp only[WM,Yx,WL,QL];omega
 have hsl:∀x,t.slot x≠.empty->({ (t.put j).1 with plain:=pl }:SetTable).slot x≠.empty:=fun x hx=>by
  rw[ZhT (show ({ (t.put j).1 with plain:=pl }:SetTable).dummies = #[] from hd) (show Rs ({ (t.put j).1 with plain:=pl }:SetTable).place from hrs)];have:=(ZhT T.dum T.rs x).mp hx;show x∈(t.put j).1.place.toList;rw[hpl,YR,Yl];rw[<-Wu (below t.place j) t.place.toList,YR] at this;rcases this with z | z
  ·exact .inl z
  ·exact .inr (.inr z)
 refine⟨T.msk,hd,hrs,?_,?_,fun q hq => ?_⟩
 ·have h1:=congrArg List.length hpl;rw[YO] at h1;rw[hl];show (t.put j).1.place.size=_;rw[h1];have:=T.len;simp only[WM,Yx,WL,QL,YO];omega
 ·rw[hl];exact hf
 ·have hq':q∈(t.place.toList.take (below t.place j)++j :: t.place.toList.drop (below t.place j)).zip (es.take (below t.place j)++(h,v) :: es.drop (below t.place j)):=by
   rw[<-hpl];exact hq
  rcases Zm7 (by rw[YO]; exact T.len) _ _ _ q hq' with rfl | z
  ·exact Pth.mono (t:=t) rfl hsl hp
  ·exact Pth.mono (t:=t) rfl hsl (T.pth q z)
end
section
variable{t:SetTable}{owner:Array (Option Nat)}
def ZdR(t:SetTable)(owner:Array (Option Nat))(p:Probe)(j:Nat):Prop:=∃n,(ZV t n p).j=j/\∀m,m<n->∃k,owner[(ZV t m p).j]?=some (some k)
def stP(t:SetTable)(i pert:Nat):Probe:={ j:=i,more:=runEnd t.mask i - i,i,perturb:=pert,dummy:=none }
theorem Zme{m i:Nat}(h:i<=m):runEnd m i<=m/\i<=runEnd m i:=by
 unfold runEnd;split <;> omega
theorem getD_some{j:Nat}(h:j<owner.size)(hn:(owner.getD j (some 0)).isNone=false):∃k,owner[j]?=some (some k):=by
 rw[Yt h];simp only[Array.getD,h,dite_true] at hn;have hn':owner[j].isNone=false:=hn;cases e:owner[j] with
 | none=>rw[e] at hn'; cases hn'
 | some k=>exact⟨k,rfl⟩
theorem getD_none{j:Nat}(hn:(owner.getD j (some 0)).isNone=true):owner[j]?=some none:=by
 by_cases h:j<owner.size
 ·rw[Yt h];simp only[Array.getD,h,dite_true] at hn;have hn':owner[j].isNone=true:=hn;cases e:owner[j] with
  | none=>rfl
  | some k=>rw[e] at hn'; cases hn'
 ·simp[Array.getD,h] at hn
theorem ZgW(ho:owner.size=t.mask+1):∀(F i pert:Nat),i<=t.mask->(∃n,n<F/\owner[(lq t.mask n (i,pert)).1]?=some none) ->
  ∃j,layClean.free t.mask owner F i pert=some j/\owner[j]?=some none/\ZdR t owner (stP t i pert) j
 | 0,i,pert,_,⟨n,h,_⟩=>by omega
 | F+1,i,pert,hi,⟨n,h1,h2⟩=>by
  have hr:=Zme hi;have lin:∀m,m<=runEnd t.mask i - i->(ZV t m (stP t i pert)).j=i+m:=fun m hm=>by
   rw[ZeS m _ hm];rfl
  unfold layClean.free;cases hf:(List.range (runEnd t.mask i+1 - i)).find? fun k=>(owner.getD (i+k) (some 0)).isNone with
  | some k =>
   rw[List.find?_range_eq_some] at hf;obtain⟨f1,f2,f3⟩:=hf;have hk:k<runEnd t.mask i+1 - i:=W7.mp f2;refine⟨i+k,rfl,getD_none f1,k,lin k (by omega),fun m hm => ?_⟩;rw[lin m (by omega)];have:=f3 m hm;exact getD_some (by omega) (by simpa using this)
  | none =>
   have hall:∀m,m<=runEnd t.mask i - i->∃k,owner[i+m]?=some (some k):=fun m hm=>by
    have:=List.find?_eq_none.mp hf m (W7.mpr (by omega));exact getD_some (by omega) (Bool.eq_false_iff.mpr this)
   have hn0:n≠0:=by
    rintro rfl;obtain⟨k,e⟩:=hall 0 (YT _);rw[Nat.add_zero] at e;have h2':owner[i]?=some none:=h2;rw[e] at h2';cases h2'
   obtain⟨n',rfl⟩:∃n',n=n' + 1:=⟨n - 1,by omega⟩;have hle:(leap t.mask i pert).1<=t.mask:=by
    have:=Ub (i * 5+1+pert / 32) (show 0<t.mask+1 by omega);show (i * 5+1+pert / 32) % (t.mask+1)<=t.mask;omega
   obtain⟨j,a,b,n2,c,d⟩:=ZgW ho F (leap t.mask i pert).1 (leap t.mask i pert).2 hle ⟨n',by omega,h2⟩;have hlp:ZV t (runEnd t.mask i - i+1) (stP t i pert)=stP t (leap t.mask i pert).1 (leap t.mask i pert).2:=Zfk (stP t i pert);refine⟨j,a,b,runEnd t.mask i - i+1+n2,by rw[Zdu,hlp]; exact c,fun m hm => ?_⟩;by_cases hmm:m<runEnd t.mask i - i+1
   ·rw[lin m (by omega)];exact hall m (by omega)
   ·have e:m=runEnd t.mask i - i+1+(m - (runEnd t.mask i - i+1)):=by omega
    rw[e,Zdu,hlp];exact d _ (by omega)
structure OwnOk(t:SetTable)(hs:List Int)(owner:Array (Option Nat))(k:Nat):Prop where
 size:owner.size=t.mask+1
 perm:(owner.toList.filterMap id).Perm (List.range k)
 way:∀j i,owner[j]?=some (some i)->∃h,hs[i]?=some h/\ZdR t owner (t.probeStart h) j
theorem ZiS{k:Nat}:∀(l:List (Option Nat)) (j:Nat),l[j]?=some none->((l.set j (some k)).filterMap id).Perm (k :: l.filterMap id)
 | [],j,h=>by simp at h
 | x :: l,0,h=>by
  simp at h;subst h;simp
 | x :: l,j+1,h=>by
  have ih:=ZiS (k:=k) l j (by simpa using h);cases x with
  | none=>simpa using ih
  | some y =>
   simp only[List.set_cons_succ,QQ,id];exact (ih.cons y).trans (.swap k y _)
theorem Zg0:∀(l:List (Option Nat)),(∀j,j<l.length->l[j]?≠some none)->l.length<=(l.filterMap id).length
 | [],_=>Yj _
 | none :: l,h=>absurd rfl (h 0 (by simp))
 | some x :: l,h=>by
  have:=Zg0 l fun j hj=>by
   have:=h (j+1) (by simpa using hj);simpa using this
  simpa using this
theorem OwnOk.step{hs:List Int}{k:Nat}{h:Int}(O:OwnOk t hs owner k)(hm:Msk t.mask)(hk:k<=t.mask)(hh:hs[k]?=some h) :
  ∃j,layClean.free t.mask owner (turns t.mask) (bits h % (t.mask+1)) (bits h)=some j/\OwnOk t hs (owner.setIfInBounds j (some k)) (k+1):=by
 obtain⟨e,he⟩:∃e:Nat,owner[e]?=some none:=by
  refine QI fun z => ?_;have h1:=Zg0 owner.toList fun j _ hj=>z ⟨j,by rw[<-Y3]; exact hj⟩;rw[O.perm.length_eq,YV,YO,O.size] at h1;omega
 have hel:e<=t.mask:=by
  have:=(Vk.mp he).1;rw[O.size] at this;omega
 have hi:bits h % (t.mask+1)<=t.mask:=by
  have:=Ub (bits h) (show 0<t.mask+1 by omega);omega
 obtain⟨n,h1,h2,h3⟩:=Zih hm (bits h % (t.mask+1),bits h) hi (Zjj h) hel;obtain⟨j,a,b,c⟩:=ZgW O.size (turns t.mask) _ _ hi ⟨n,by unfold turns; omega,by rw[h3]; exact he⟩;have hj:j<owner.size:=(Vk.mp b).1;have keep:∀x i,owner[x]?=some (some i)->(owner.setIfInBounds j (some k))[x]?=some (some i):=fun x i hx=>by
  rw[Uj];rw[Yh]
  ·exact hx
  ·rintro rfl;rw[b] at hx;cases hx
 have keepP:∀{p:Probe} {x:Nat},ZdR t owner p x->ZdR t (owner.setIfInBounds j (some k)) p x:=fun⟨n,u,v⟩=>⟨n,u,fun m hm=>let ⟨i,hi⟩:=v m hm; ⟨i,keep _ _ hi⟩⟩;refine⟨j,a,by simp[O.size],?_,fun x i hx => ?_⟩
 ·rw[Vj];refine (ZiS (k:=k) owner.toList j (by rw[Y3]; exact b)).trans ?_;refine (O.perm.cons k).trans ?_;rw[Vq];exact (List.perm_append_singleton k _).symm
 ·rw[Uj] at hx;by_cases hjx:j=x
  ·subst hjx;rw[Yi rfl,Yi hj] at hx;cases hx;exact⟨h,hh,keepP c⟩
  ·rw[Yh hjx] at hx;obtain⟨h',u,v⟩:=O.way x i hx;exact⟨h',u,keepP v⟩
end
end DL
end
section
namespace DL
open PySem PySem.Spec PyProof.Rows L2 PySem.W SO
section
variable(prog:P4)(w:World)(B:Addr->Prop)
inductive ElP(h:Heap):List (Int×P6)->List (List Str)->Prop
 | nil:ElP h [] []
 | cons {es:List (Int×P6)} {ps:List (List Str)} (b:Addr) (its:List P6) (p:List Str):B b->IsTup h b its.toArray->StrsAre its p->ElP h es ps->ElP h ((tupleKeyHash (strKind prog w) p,.ref b) :: es) (p :: ps)
def SetP(h:Heap)(a:Addr)(ps:List (List Str)):Prop :=
 ∃o es ep t,h.get? a=some o/\o.ExactSet/\o.data = .set es ep t/\t.led = !byT w/\TabP t es.toList/\ElP prog w B h es.toList ps/\ps.Nodup/\es.size<128
end
section
variable{prog:P4}{w:World}{B:Addr->Prop}{A:P3}{E:P6->P0->Prop}{s:P0}{a:Addr}
theorem ElP.mono{h h':Heap}:∀{es:List (Int×P6)} {ps:List (List Str)},ElP prog w B h es ps->(∀b its,IsTup h b its->IsTup h' b its)->ElP prog w B h' es ps
 | _,_,.nil,_ => .nil
 | _,_,.cons b its p y t r e,k => .cons b its p y (k b _ t) r (e.mono k)
theorem ElP.length{h:Heap}{es:List (Int×P6)}{ps:List (List Str)}(e:ElP prog w B h es ps):es.length=ps.length:=by
 induction e with
 | nil=>rfl
 | cons b its p _ _ _ _ ih=>simp[ih]
theorem ElP.at{h:Heap}{es:List (Int×P6)}{ps:List (List Str)}(e:ElP prog w B h es ps):∀(i:Nat),i<es.length->∃b its p,es[i]?=some (tupleKeyHash (strKind prog w) p,.ref b)/\ps[i]?=some p/\IsTup h b its.toArray/\StrsAre its p/\B b:=by
 induction e with
 | nil=>intro i hi; simp at hi
 | cons b its p y t r _ ih =>
  intro i hi;cases i with
  | zero=>exact⟨b,its,p,rfl,rfl,t,r,y⟩
  | succ i=>exact ih i (by simpa using hi)
theorem ElP.perm{h:Heap}{es es':List (Int×P6)}(pm:es.Perm es'):∀{ps:List (List Str)},ElP prog w B h es ps->∃ps',ElP prog w B h es' ps'/\ps.Perm ps':=by
 induction pm with
 | nil=>intro ps e; exact⟨ps,e,.refl _⟩
 | cons x _ ih =>
  intro ps e;cases e with
  | cons b its p y t r e =>
   obtain⟨ps',h1,h2⟩:=ih e;exact⟨p :: ps',.cons b its p y t r h1,h2.cons p⟩
 | swap x y l =>
  intro ps e;cases e with
  | cons b its p y t r e =>
   cases e with
   | cons b' its' p' y' t' r' e=>exact⟨p' :: p :: _,.cons b' its' p' y' t' r' (.cons b its p y t r e),.swap p' p _⟩
 | trans _ _ ih1 ih2 =>
  intro ps e;obtain⟨qs,h1,h2⟩:=ih1 e;obtain⟨rs,h3,h4⟩:=ih2 h1;exact⟨rs,h3,h2.trans h4⟩
theorem ElP.bs{h:Heap}{es:List (Int×P6)}{ps:List (List Str)}(e:ElP prog w B h es ps):∀v∈es.map (·.2),∃b,v = .ref b/\B b:=by
 induction e with
 | nil=>intro v hv; cases hv
 | cons b its p y t r _ ih =>
  intro v hv;rcases Yl.mp hv with rfl | hv
  ·exact⟨b,rfl,y⟩
  ·exact ih v hv
end
end DL
end
section
namespace DL
open PySem PySem.Spec PyProof.Rows L2 PySem.W SO
section
variable{prog:P4}{w:World}{B:Addr->Prop}{A:P3}{E:P6->P0->Prop}{s:P0}{a:Addr}
theorem SetP.kept{h h':Heap}{xs:List (List Str)}(x:SetP prog w B h a xs)(hk:∀b o,h.get? b=some o->h'.get? b=some o):SetP prog w B h' a xs:=by
 obtain⟨o,es,ep,t,ho,h1,h2,h3,h4,h5,r⟩:=x;exact⟨o,es,ep,t,hk _ _ ho,h1,h2,h3,h4,h5.mono fun b its ⟨u,g1,g2⟩=>⟨u,hk _ _ g1,g2⟩,r⟩
theorem SetP.typeIs{xs:List (List Str)}(x:SetP prog w B s.heap a xs):s.TypeIs (.ref a) "set":=by
 obtain⟨o,es,ep,t,ho,hx,_⟩:=x;exact⟨o,ho,hx.1⟩
theorem SetP.len{h:Heap}{xs:List (List Str)}(x:SetP prog w B h a xs):xs.length<128/\xs.Nodup/\a<h.objs.size:=by
 obtain⟨o,es,ep,t,ho,hx,hd,hled,T,el,hn,hb⟩:=x;have:=el.length;rw[YO] at this;exact⟨by omega,hn,Yk ho⟩
end
end DL
end
section
end
section
namespace DL
open PySem PySem.Spec PyProof.Rows L2
structure BlkD(sc scope:Scope)(N0 N:List Str)(caps:List Nat)(nT:Nat):Prop where
 kind:scope.kind = .function
 names:∀y∈scope.names,y.2 = .local->scope.names.lookup y.1=some .local
 free:∀y∈scope.names,y.2 = .free->sc.names.lookup y.1=some .cell\/sc.names.lookup y.1=some .free
 len:N.length=nT+caps.length
 cap:∀q∈(List.range caps.length),∃i x,caps[q]?=some i/\N[nT+q]?=some x/\N0[i]?=some x/\(x,NameKind.free)∈scope.names/\(x,NameKind.cell) ∉ scope.names/\((ZaU scope sc).names.lookup x=some .cell\/(ZaU scope sc).names.lookup x=some .free)
def ZgP(sc scope:Scope)(N0 N:List Str)(caps:List Nat)(nT:Nat):Bool :=
 (scope.kind == .function) && scope.names.all (fun y => !(y.2 == .local) || scope.names.lookup y.1 == some .local) &&
  scope.names.all (fun y => !(y.2 == .free) || (sc.names.lookup y.1 == some .cell || sc.names.lookup y.1 == some .free)) && (N.length == nT+caps.length) &&
  (List.range caps.length).all fun q=>match caps[q]?,N[nT+q]? with
   | some i,some x=>(N0[i]? == some x) && scope.names.any (fun y=>y.1 == x && y.2 == .free) && scope.names.all (fun y => !(y.1 == x && y.2 == .cell)) && ((ZaU scope sc).names.lookup x == some .cell || (ZaU scope sc).names.lookup x == some .free)
   | _,_=>false
theorem BlkD.of{sc scope:Scope}{N0 N:List Str}{caps:List Nat}{nT:Nat}(h:ZgP sc scope N0 N caps nT=true):BlkD sc scope N0 N caps nT:=by
 unfold ZgP at h;simp only[YE] at h;obtain⟨⟨⟨⟨h1,h3⟩,h4⟩,h5⟩,h6⟩:=h;refine⟨eq_of_beq h1,fun y hy hl => ?_,fun y hy hl => ?_,eq_of_beq h5,fun q hq => ?_⟩
 ·have:=YB.mp h3 y hy;rw[hl] at this;simpa using this
 ·have:=YB.mp h4 y hy;rw[hl] at this;simpa using this
 ·have:=YB.mp h6 q hq;split at this
  ·rename_i i x e1 e2;simp only[YE,Q0,List.any_eq_true,beq_iff_eq] at this;obtain⟨⟨⟨g1,⟨y,g2,g3,g4⟩⟩,g6⟩,g5⟩:=this;refine⟨i,x,e1,e2,g1,?_,fun z => ?_,g5⟩
   ·obtain⟨y1,y2⟩:=y;simp only at g3 g4;subst g3 g4;exact g2
   ·have:=YB.mp g6 _ z;simp at this
  ·cases this
end DL
end
section
end
section
end
section
end
section
end
section
end
section
end
section
namespace DL
open PySem PySem.Spec PyProof.Rows L2 PySem.W SO
section
variable{prog:P4}{w:World}{A:P3}{E:P6->P0->Prop}{s:P0}{K:Type}[DecidableEq K]{knd:HeapKind prog w K}
def ZaG(e:P6->P6->Bool)(ys:List (K×Addr×P6))(x:K×Addr×P6):Bool:=match atKey ys x.1 with
 | some p=>e x.2.2 p.2
 | none=>false
theorem ZjW{nm:String}{a b:Addr}{xs ys:List (K×Addr×P6)}{Q:Bool->P0->Prop}(hr:knd.room A)(ha:(a == sysModules)=false)(hb:(b == sysModules)=false)
  (da:s.heap.DictOfH knd a xs) (db:s.heap.DictOfH knd b ys) (e:P6->P6->Bool) (he:∀x∈xs,∀y∈ys,SeqAt.EqAt A s x.2.2 y.2.2 (e x.2.2 y.2.2)) (h:Q (xs.length == ys.length && xs.all (ZaG e ys)) s) :
  wpAny (model prog w) A (Builtin.Dict.samePairs nm a b) Q E s:=by
 obtain⟨oa,es,ep,hoa,_,hda,hea,hka,hna⟩:=da;obtain⟨ob,fs,fp,hob,_,hdb,hfb,hkb,hnb⟩:=db;have hla:es.size=xs.length:=size_of_entries hea;have hlb:fs.size=ys.length:=size_of_entries hfb;rw[<-hla,<-hlb] at h;unfold Builtin.Dict.samePairs Builtin.Dict.showsAll;rw[Yh (show ¬ (a == sysModules)=true by rw[ha]; exact Qs),Yh (show ¬ (b == sysModules)=true by rw[hb]; exact Qs)];refine Ya (Yb (Ya (Yb ?_)));refine Ya (WE hoa hda ?_);dsimp only;refine Ya (WE hob hdb ?_);by_cases hsz:es.size=fs.size
 case neg =>
  rw[Yi (by simpa using hsz)];have hbf:(es.size == fs.size)=false:=by simpa using hsz
  rw[hbf,Uh] at h;exact Ya (Wz (Yb h))
 case pos =>
  have h':Q (xs.all (ZaG e ys)) s:=by simpa[hsz] using h
  rw[Yh (by rw[hsz]; simp)];refine Ya (Qx hoa hda ?_);refine Ya ?_;rw[Std.Legacy.Range.forIn_eq_forIn_range'];simp only[Std.Legacy.Range.size,Nat.sub_zero,Nat.add_sub_cancel,Nat.div_one];refine wpAny_forIn_list _
   (fun rest q s'=>s'=s/\q=(none,())/\∃i,rest=List.range' i (es.size - i)/\i<=es.size/\xs.all (ZaG e ys)=(xs.drop i).all (ZaG e ys))
   _ ?_ ?_ _ _ ⟨rfl,rfl,0,by simp,YT _,rfl⟩
  ·rintro x rest q s' ⟨rfl,rfl,i,hr1,hi,hpre⟩;have hlt:i<es.size:=by
    rcases Nat.lt_or_ge i es.size with h | h
    ·exact h
    ·rw[Nat.sub_eq_zero_of_le h] at hr1; simp at hr1
   obtain⟨rfl,hrest⟩:x=i/\rest=List.range' (i+1) (es.size - (i+1)):=by
    have e:es.size - i=(es.size - (i+1))+1:=by omega
    rw[e,List.range'_succ] at hr1;injection hr1 with h1 h2;exact⟨h1,h2⟩
   refine Ya (WE hoa hda ?_);have hlt':x<xs.length:=by rw[<-hla]; exact hlt
   rw[entry_at hea x,Yd hlt'];have hmx:xs[x]∈xs:=Qk hlt';have hdrop:xs.drop x=xs[x] :: xs.drop (x+1):=QG hlt';rw[hdrop,QV] at hpre;generalize hxx:xs[x]=X at *;obtain⟨k,ka,v⟩:=X;show wpAny _ _ (holding [.ref ka,v] _ >>= _) _ _ _;refine Ya (Y1 (Ya (wpAny_dictFind_heap hr (hka _ hmx) hob hdb hfb hkb hnb (fun hno => ?_) fun j p hj => ?_)))
   ·have hk0:atKey ys k=none:=atKey_none_of_get hno;have hp:ZaG e ys (k,ka,v)=false:=by unfold ZaG; dsimp only; rw[hk0]
    rw[hp,Uh] at hpre;rw[hpre] at h';refine Yb ?_;show wpAny _ _ (if (!false)=true then _ else _) _ _ _;rw[Yi (by decide)];exact Yb (Yb h')
   ·have hk1:atKey ys k=some p:=atKey_of_get hnb hj;have hp:ZaG e ys (k,ka,v)=e v p.2:=by unfold ZaG; dsimp only; rw[hk1]
    rw[hp] at hpre;refine Ya (WE hob hdb ?_);rw[entry_at hfb j,hj];show wpAny _ _ (holding [p.2] (eqBool v p.2)) _ _ _;refine Y1 (he _ hmx (k,p) (Wa hj) prog w _ _ ?_);show wpAny _ _ (if (!(e v p.2))=true then _ else _) _ _ _;cases hev:e v p.2 with
    | false =>
     rw[hev,Uh] at hpre;rw[hpre] at h';rw[Yi (by decide)];exact Yb (Yb h')
    | true =>
     rw[hev,Bool.true_and] at hpre;rw[Yh (by decide)];refine Ya (Qx hoa hda ?_);rw[Yh (by simp)];exact Yb ⟨rfl,rfl,x+1,hrest,hlt,hpre⟩
  ·rintro q s' ⟨rfl,rfl,i,hr1,hi,hpre⟩;have hin:i=es.size:=by
    rcases Nat.lt_or_ge i es.size with h | h
    ·have e:es.size - i=(es.size - (i+1))+1:=by omega
     rw[e,List.range'_succ] at hr1; exact nomatch hr1
    ·exact Nat.le_antisymm hi h
   refine Yb ?_;rw[hin,hla,List.drop_length] at hpre;rw[hpre] at h';exact h'
theorem eqH{a b:Addr}{xs ys:List (K×Addr×P6)}{Q:P6->P0->Prop}(hr:knd.room A.in1)(hu:A.units<cLine)(ha:(a == sysModules)=false)(hb:(b == sysModules)=false)
  (da:s.heap.DictOfH knd a xs) (db:s.heap.DictOfH knd b ys) (e:P6->P6->Bool) (he:∀x∈xs,∀y∈ys,SeqAt.EqAt A.in1 s x.2.2 y.2.2 (e x.2.2 y.2.2)) (h:Q (.bool (xs.length == ys.length && xs.all (ZaG e ys))) s) :
  wpAny (model prog w) A (compareOp .Eq (.ref a) (.ref b)) Q E s:=by
 have hTa:s.TypeIs (.ref a) "dict":=let ⟨_,_,_,h1,h2,_⟩:=da; ⟨_,h1,h2.1⟩
 have hTb:s.TypeIs (.ref b) "dict":=let ⟨_,_,_,h1,h2,_⟩:=db; ⟨_,h1,h2.1⟩
 refine wpAny_richCompare_same_room (op:=.Eq) hTa hTb PySem.F.slot_dict_eq (YI PySem.F.slot_dict_eq hTa PySem.F.entry_dict_eq ?_ (PySem.F.args_dict_eq_2 _ _)) hu;show wpAny _ _ (Builtin.Dict.dictSlotArgs "__eq__" ⟨[.ref a,.ref b],[]⟩ >>= _) _ _ s;refine Ya ?_;unfold Builtin.Dict.dictSlotArgs;refine Ya (Ve hTa ?_);show wpAny _ _ (pure (Value.ref a,Value.ref b)) _ _ s;refine Yb ?_;refine Ya (WO (T:="dict") hTb PySem.F.sub_dict_dict ?_);simp only[Bool.not_true,YG,Wc];refine Ya (Yb (Ya (Yb ?_)));refine Ya (ZjW hr ha hb da db e he ?_);refine Yb ⟨_,rfl,?_,?_⟩
 ·exact fun x=>nomatch x
 ·simpa using h
theorem neH{a b:Addr}{xs ys:List (K×Addr×P6)}{Q:P6->P0->Prop}(hr:knd.room A.in1)(hu:A.units<cLine)(ha:(a == sysModules)=false)(hb:(b == sysModules)=false)
  (da:s.heap.DictOfH knd a xs) (db:s.heap.DictOfH knd b ys) (e:P6->P6->Bool) (he:∀x∈xs,∀y∈ys,SeqAt.EqAt A.in1 s x.2.2 y.2.2 (e x.2.2 y.2.2)) (h:Q (.bool (!(xs.length == ys.length && xs.all (ZaG e ys)))) s) :
  wpAny (model prog w) A (compareOp .NotEq (.ref a) (.ref b)) Q E s:=by
 have hTa:s.TypeIs (.ref a) "dict":=let ⟨_,_,_,h1,h2,_⟩:=da; ⟨_,h1,h2.1⟩
 have hTb:s.TypeIs (.ref b) "dict":=let ⟨_,_,_,h1,h2,_⟩:=db; ⟨_,h1,h2.1⟩
 refine wpAny_richCompare_same_room (op:=.NotEq) hTa hTb PySem.F.slot_dict_ne (YI PySem.F.slot_dict_ne hTa PySem.F.entry_dict_ne ?_ (PySem.F.args_dict_ne_2 _ _)) hu;show wpAny _ _ (Builtin.Dict.dictSlotArgs "__ne__" ⟨[.ref a,.ref b],[]⟩ >>= _) _ _ s;refine Ya ?_;unfold Builtin.Dict.dictSlotArgs;refine Ya (Ve hTa ?_);show wpAny _ _ (pure (Value.ref a,Value.ref b)) _ _ s;refine Yb ?_;refine Ya (WO (T:="dict") hTb PySem.F.sub_dict_dict ?_);simp only[Bool.not_true,YG,Wc];refine Ya (Yb (Ya (Yb ?_)));refine Ya (ZjW hr ha hb da db e he ?_);refine Yb ⟨_,rfl,?_,?_⟩
 ·exact fun x=>nomatch x
 ·simpa using h
end
def ZO(ds:List (D×D)):Bool:=ds.all fun p=>match p.2 with
 | .int _=>true
 | _=>false
def Zc0(es:List (D×D))(p:D×D):Bool:=match p.2,ZF Zq es p.1 with
 | .int j,some (.int i)=>j == i
 | _,_=>false
def ZcR(ds es:List (D×D)):Bool:=ds.length == es.length && ds.all (Zc0 es)
def Zda:D->D->Sto->Out D
 | .res i,.res j,st=>match st[i]?,st[j]? with
  | some (.dtt ds),some (.dtt es)=>if ZO ds=true/\ZO es=true then .ok (.bl (ZcR ds es)) st else .bad
  | _,_ => .bad
 | _,_,_ => .bad
def Zdw:D->D->Sto->Out D
 | .res i,.res j,st=>match st[i]?,st[j]? with
  | some (.dtt ds),some (.dtt es)=>if ZO ds=true/\ZO es=true then .ok (.bl (!ZcR ds es)) st else .bad
  | _,_ => .bad
 | _,_,_ => .bad
def eI:P6->P6->Bool
 | .int a _,.int b _=>a == b
 | _,_=>false
section
variable{K:P1}{O:List Addr}{H:Hp}
theorem ZiQ{k:D}:∀{es:List (D×D)},ZO es=true->∀{d:D},ZF Zq es k=some d->∃i,d = .int i
 | [],_,d,e=>by cases e
 | p :: es,h,d,e=>by
  unfold ZO at h;rw[QV,YE] at h;unfold ZF at e;split at e
  ·cases e;have:=h.1;revert this;cases p.2 <;> simp
  ·exact ZiQ (es:=es) h.2 e
theorem Zdt:∀{ds:List (D×D)} {kvs:List (List Key×V)} {xs:List (List Key×Addr×P6)},Kvs K Zq O H ds kvs->KT H kvs xs->ZO ds=true->∀x∈xs,∃i t,x.2.2 = .int i t
 | [],kvs,xs,h,r,_,x,hx=>by
  cases (show kvs=[] from h);cases r;cases hx
 | (a,d) :: ds,kvs,xs,h,r,hi,x,hx=>by
  obtain⟨qa,v,rr,rfl,ha,hr,ht⟩:=(show ∃q v r,kvs=(q,v) :: r/\Zq a=some q/\Rep K O H d v/\Kvs K Zq O H ds r from h);cases r with
  | cons r0 rt =>
   unfold ZO at hi;rw[QV,YE] at hi;rcases Yl.mp hx with rfl | hx
   ·obtain⟨i,rfl⟩:∃i,d = .int i:=by
     have:=hi.1;revert this;cases d <;> simp
    rw[Rep.int_i] at hr;subst hr;obtain⟨t,e⟩:=(show RelV (.int i) x.2.2 from r0.2.2);exact⟨i,t,e⟩
   ·exact Zdt ht rt hi.2 x hx
theorem ZlC{es:List (D×D)}{lvs:List (List Key×V)}{ys:List (List Key×Addr×P6)}(kv:Kvs K Zq O H es lvs)(kt:KT H lvs ys)(hi:ZO es=true){dk:D}{k:List Key}{ad:Addr}{v:P6}{j:Int}(hk:Zq dk=some k)(hv:RelV (.int j) v):ZaG eI ys (k,ad,v)=Zc0 es (dk,.int j):=by
 obtain⟨t,rfl⟩:=hv;have h1:=Zbw hk kv;have h2:=kt.val k;unfold ZaG Zc0;dsimp only;cases e1:atKey ys k with
 | none =>
  rw[e1] at h2;cases e2:Zaj lvs k with
  | none =>
   rw[e2] at h1;cases e3:ZF Zq es dk with
   | none=>rfl
   | some d=>rw[e3] at h1; exact h1.elim
  | some z=>rw[e2] at h2; exact h2.elim
 | some p =>
  rw[e1] at h2;cases e2:Zaj lvs k with
  | none=>rw[e2] at h2; exact h2.elim
  | some z =>
   rw[e2] at h1 h2;cases e3:ZF Zq es dk with
   | none=>rw[e3] at h1; exact h1.elim
   | some d =>
    rw[e3] at h1;obtain⟨i,rfl⟩:=ZiQ hi e3;have h3:Rep K O H (.int i) z:=h1;rw[Rep.int_i] at h3;subst h3;obtain⟨t2,e4⟩:=(show RelV (.int i) p.2 from h2);show eI (.int j t) p.2=(j == i);rw[e4];rfl
theorem Zdi{es:List (D×D)}{lvs:List (List Key×V)}{ys:List (List Key×Addr×P6)}(kv:Kvs K Zq O H es lvs)(kt:KT H lvs ys)(hi:ZO es=true):∀{ds:List (D×D)} {kvs:List (List Key×V)} {xs:List (List Key×Addr×P6)},Kvs K Zq O H ds kvs->KT H kvs xs->ZO ds=true->xs.length=ds.length/\xs.all (ZaG eI ys)=ds.all (Zc0 es)
 | [],kvs,xs,h,r,_=>by
  cases (show kvs=[] from h);cases r;exact⟨rfl,rfl⟩
 | (a,d) :: ds,kvs,xs,h,r,hd=>by
  obtain⟨qa,v,rr,rfl,ha,hr,ht⟩:=(show ∃q v r,kvs=(q,v) :: r/\Zq a=some q/\Rep K O H d v/\Kvs K Zq O H ds r from h);cases r with
  | cons r0 rt =>
   rename_i x xs;unfold ZO at hd;rw[QV,YE] at hd;obtain⟨h1,h2⟩:=Zdi kv kt hi ht rt hd.2;obtain⟨j,rfl⟩:∃i,d = .int i:=by
    have:=hd.1;revert this;cases d <;> simp
   rw[Rep.int_i] at hr;subst hr;obtain⟨k,ad,v⟩:=x;have e1:qa=k:=r0.1;subst e1;refine⟨by simp[h1],?_⟩;rw[QV,QV,h2,ZlC kv kt hi ha r0.2.2]
end
section
variable{X:Cx}{EX:EXT}
theorem ZgF{A:P3}{s:P0}{v u:P6}(h:∃i t,v = .int i t)(h2:∃i t,u = .int i t):SeqAt.EqAt A s v u (eI v u):=by
 obtain⟨i,t,rfl⟩:=h;obtain⟨j,t2,rfl⟩:=h2;exact SeqAt.EqAt.int_int i t j t2
theorem ZlG(hu:X.A.units+64<cLine):OpD X EX (compareOp .Eq) Zda:=by
 intro pins s σ H x y v u Q I rx ry h;obtain⟨O,k,d,st,W,rk,rd,R⟩:=h;unfold Zda at R;split at R
 ·rename_i i j;split at R
  ·rename_i ds es hs1 hs2;by_cases hc:ZO ds=true/\ZO es=true
   ·rw[Yi hc] at R;rw[Rep.res_i] at rk rd;obtain⟨a,rfl,q⟩:=rk;obtain⟨b,rfl,q'⟩:=rd;cases (show v=Value.ref a from rx);cases (show u=Value.ref b from ry);obtain⟨vs,e2,kv⟩:=W.at_ _ _ _ q hs1;obtain⟨us,e3,kv'⟩:=W.at_ _ _ _ q' hs2;obtain⟨_,hd,xs,kt,dd⟩:=ZaL I.hok (.inl e2);obtain⟨_,hd',ys,kt',dd'⟩:=ZaL I.hok (.inl e3);obtain⟨h1,h2⟩:=Zdi kv' kt' hc.2 kv kt hc.1;obtain⟨h3,_⟩:=Zdi kv' kt' hc.2 kv' kt' hc.2;refine eqH (Qp (by omega)) (by omega) hd hd' dd dd' eI (fun x hx y hy=>ZgF (Zdt kv kt hc.1 x hx) (Zdt kv' kt' hc.2 y hy)) ?_;rw[h1,h3,h2];exact⟨.bl (ZcR ds es),H,I,rfl,Run.now (k:=Val X.K Q) R W _ (Rep.bl_i.mpr rfl)⟩
   ·rw[Yh hc] at R; exact R.elim
  ·exact R.elim
 ·exact R.elim
theorem ZkL(hu:X.A.units+64<cLine):OpD X EX (compareOp .NotEq) Zdw:=by
 intro pins s σ H x y v u Q I rx ry h;obtain⟨O,k,d,st,W,rk,rd,R⟩:=h;unfold Zdw at R;split at R
 ·rename_i i j;split at R
  ·rename_i ds es hs1 hs2;by_cases hc:ZO ds=true/\ZO es=true
   ·rw[Yi hc] at R;rw[Rep.res_i] at rk rd;obtain⟨a,rfl,q⟩:=rk;obtain⟨b,rfl,q'⟩:=rd;cases (show v=Value.ref a from rx);cases (show u=Value.ref b from ry);obtain⟨vs,e2,kv⟩:=W.at_ _ _ _ q hs1;obtain⟨us,e3,kv'⟩:=W.at_ _ _ _ q' hs2;obtain⟨_,hd,xs,kt,dd⟩:=ZaL I.hok (.inl e2);obtain⟨_,hd',ys,kt',dd'⟩:=ZaL I.hok (.inl e3);obtain⟨h1,h2⟩:=Zdi kv' kt' hc.2 kv kt hc.1;obtain⟨h3,_⟩:=Zdi kv' kt' hc.2 kv' kt' hc.2;refine neH (Qp (by omega)) (by omega) hd hd' dd dd' eI (fun x hx y hy=>ZgF (Zdt kv kt hc.1 x hx) (Zdt kv' kt' hc.2 y hy)) ?_;rw[h1,h3,h2];exact⟨.bl (!ZcR ds es),H,I,rfl,Run.now (k:=Val X.K Q) R W _ (Rep.bl_i.mpr rfl)⟩
   ·rw[Yh hc] at R; exact R.elim
  ·exact R.elim
 ·exact R.elim
end
end DL
end
section
namespace HT
open PySem PyProof.Rows
noncomputable abbrev Z1(h:Heap)(T:Addr)(a b c:P6):Prop:=h.get? T=some { cls:=.type "tuple",data:=.seq #[a,b,c] }
structure Z3(z TI TO i1 i2 i3:Addr):Prop where
 TIz:TI≠z
 TOz:TO≠z
 i1z:i1≠z
 i2z:i2≠z
 i3z:i3≠z
 TITO:TI≠TO
 TIi1:TI≠i1
 TIi2:TI≠i2
 TIi3:TI≠i3
 TOi1:TO≠i1
 TOi2:TO≠i2
 TOi3:TO≠i3
 i12:i1≠i2
 i13:i1≠i3
 i23:i2≠i3
structure L3(l z TO i1 i2 i3:Addr):Prop where
 z:l≠z
 TO:l≠TO
 i1:l≠i1
 i2:l≠i2
 i3:l≠i3
section
variable{prog:P4}{w:World}{A:P3}{E:P6->P0->Prop}{s:P0}
theorem Zgd{T:Addr}{a b c x:P6}{k:Nat}{Q:Unit->P0->Prop}(hT:Z1 s.heap T a b c)
  (h:∀h',h'.get? T=some { cls:=.type "tuple",data:=.seq ((#[a,b,c]:Array P6).setIfInBounds k x) }->Heap.SameBut T s.heap h'->Q () { s with heap:=h' }) :
  wpAny (model prog w) A (updateSeq T (·.setIfInBounds k x)) Q E s:=by
 refine Qd hT rfl (h _ ?_ (Yy ..));rw[YJ _ hT rfl];simp[Obj.mapSeq]
theorem Zpc{z TI TO i1 i2 i3 l1 l2 l3:Addr}{k:Nat}{xs ys zs:Array P6}{x y v a b c:P6}{Q:P6->P0->Prop}(D:Z3 z TI TO i1 i2 i3)(D1:L3 l1 z TO i1 i2 i3)(D2:L3 l2 z TO i1 i2 i3)(D3:L3 l3 z TO i1 i2 i3)
  (hz:IsZip s.heap z TI TO .none) (hTI:Z1 s.heap TI (.ref i1) (.ref i2) (.ref i3)) (hTO:Z1 s.heap TO a b c)
  (h1:s.heap.IsListIter i1 l1 k) (h2:s.heap.IsListIter i2 l2 k) (h3:s.heap.IsListIter i3 l3 k) (hl1:s.heap.IsList l1 xs) (hl2:s.heap.IsList l2 ys) (hl3:s.heap.IsList l3 zs) (hx:xs[k]?=some x) (hy:ys[k]?=some y) (hv:zs[k]?=some v)
  (hQ:∀h',IsZip h' z TI TO (rawInt s.heap.objs.size)->Z1 h' TO x y v->h'.IsListIter i1 l1 (k+1)->h'.IsListIter i2 l2 (k+1)->h'.IsListIter i3 l3 (k+1)->Z1 h' s.heap.objs.size x y v->h'.objs.size=s.heap.objs.size+1 ->
   (∀c o,c≠z->c≠TO->c≠i1->c≠i2->c≠i3->s.heap.get? c=some o->h'.get? c=some o)->Q (.ref s.heap.objs.size) { s with heap:=h' }) :
  wpAny (model prog w) A (Builtin.«zip.__next__» ⟨[.ref z],[]⟩) (fun fin s' => ∃v,fin = .done (.ret v)/\Q v s') E s:=by
 show wpAny _ _ (field (.ref z) 2 >>= _) _ _ _;refine Ya (WQ hz rfl (x:=.bool false) rfl ?_);show wpAny _ _ (field (.ref z) 3 >>= _) _ _ _;refine Ya (WQ hz rfl (x:=.ref TI) rfl ?_);refine Ya (Vf hTI rfl ?_);show wpAny _ _ (Builtin.SmallTypes.ownedTupleIsFree (.ref z) >>= _) _ _ _;refine Ya ?_;unfold Builtin.SmallTypes.ownedTupleIsFree;refine Ya (WQ hz rfl (x:=.none) rfl (Yb ?_));simp only[Wq];refine Ya (Wz ?_);refine Ya (WQ hz rfl (x:=.ref TO) rfl ?_);refine Ya (Qb hz (by simp) fun h₁ hz₁ hs₁ => ?_);replace hz₁:IsZip h₁ z TI TO .ellipsis:=hz₁;refine Ya ?_;simp only[UH,List.zipIdx_nil,V9,UR];refine Ya (Ya (Ur ?_));show wpAny _ _ (Builtin.SmallTypes.nextOf (.ref i1) >>= _) _ _ _;refine Ya (VR (h1.extBut hs₁.extBut D.i1z) (hl1.extBut hs₁.extBut D1.z) hx fun h₂ h1₂ hs₂=>Yb ?_);have hTO₂:Z1 h₂ TO a b c:=hs₂.extBut _ _ D.TOi1 (hs₁.extBut _ _ D.TOz hTO);refine Ya (Vf hTO₂ rfl ?_);refine Ya (Zgd hTO₂ fun h₃ hTO₃ hs₃ => ?_);replace hTO₃:Z1 h₃ TO x b c:=hTO₃;refine Ya (wpAny_letGo (Yb ?_));have k₃:∀d o,d≠z->d≠i1->d≠TO->s.heap.get? d=some o->h₃.get? d=some o:=fun d o d1 d2 d3 e=>hs₃.extBut _ _ d3 (hs₂.extBut _ _ d2 (hs₁.extBut _ _ d1 e));refine Ya (Ya (Ur ?_));show wpAny _ _ (Builtin.SmallTypes.nextOf (.ref i2) >>= _) _ _ _;refine Ya (VR (h2.at fun o e=>k₃ _ o D.i2z D.i12.symm D.TOi2.symm e) (hl2.at fun o e=>k₃ _ o D2.z D2.i1 D2.TO e) hy fun h₄ h2₄ hs₄=>Yb ?_);have hTO₄:Z1 h₄ TO x b c:=hs₄.extBut _ _ D.TOi2 hTO₃;refine Ya (Vf hTO₄ rfl ?_);refine Ya (Zgd hTO₄ fun h₅ hTO₅ hs₅ => ?_);replace hTO₅:Z1 h₅ TO x y c:=hTO₅;refine Ya (wpAny_letGo (Yb ?_));have k₅:∀d o,d≠z->d≠i1->d≠i2->d≠TO->s.heap.get? d=some o->h₅.get? d=some o:=fun d o d1 d2 d3 d4 e=>hs₅.extBut _ _ d4 (hs₄.extBut _ _ d3 (k₃ d o d1 d2 d4 e));refine Ya (Ya (Ur ?_));show wpAny _ _ (Builtin.SmallTypes.nextOf (.ref i3) >>= _) _ _ _;refine Ya (VR (h3.at fun o e=>k₅ _ o D.i3z D.i13.symm D.i23.symm D.TOi3.symm e) (hl3.at fun o e=>k₅ _ o D3.z D3.i1 D3.i2 D3.TO e) hv fun h₆ h3₆ hs₆=>Yb ?_);have hTO₆:Z1 h₆ TO x y c:=hs₆.extBut _ _ D.TOi3 hTO₅;refine Ya (Vf hTO₆ rfl ?_);refine Ya (Zgd hTO₆ fun h₇ hTO₇ hs₇ => ?_);replace hTO₇:Z1 h₇ TO x y v:=hTO₇;refine Ya (wpAny_letGo (Yb (Yb ?_)));refine Ya (Vf hTO₇ rfl ?_);refine Ya (Vc ?_);have hsz:h₇.objs.size=s.heap.objs.size:=by rw[hs₇.1,hs₆.1,hs₅.1,hs₄.1,hs₃.1,hs₂.1,hs₁.1]
 have hz₇:IsZip h₇ z TI TO .ellipsis:=hs₇.extBut _ _ D.TOz.symm (hs₆.extBut _ _ D.i3z.symm (hs₅.extBut _ _ D.TOz.symm (hs₄.extBut _ _ D.i2z.symm (hs₃.extBut _ _ D.TOz.symm (hs₂.extBut _ _ D.i1z.symm hz₁)))));have hk₇:∀d o,d≠z->d≠TO->d≠i1->d≠i2->d≠i3->s.heap.get? d=some o->h₇.get? d=some o:=fun d o c1 c2 c3 c4 c5 e=>hs₇.extBut _ _ c2 (hs₆.extBut _ _ c5 (k₅ d o c1 c3 c4 c2 e));have h1₇:h₇.IsListIter i1 l1 (k+1):=((((h1₂.extBut hs₃.extBut D.TOi1.symm).extBut hs₄.extBut D.i12).extBut hs₅.extBut D.TOi1.symm).extBut hs₆.extBut D.i13).extBut hs₇.extBut D.TOi1.symm;have h2₇:h₇.IsListIter i2 l2 (k+1):=((h2₄.extBut hs₅.extBut D.TOi2.symm).extBut hs₆.extBut D.i23).extBut hs₇.extBut D.TOi2.symm;have h3₇:h₇.IsListIter i3 l3 (k+1):=h3₆.extBut hs₇.extBut D.TOi3.symm;have hzlt:z<h₇.objs.size:=Yk hz₇;show wpAny _ _ (Builtin.SmallTypes.ownedTupleHandOut (.ref z) (.ref h₇.objs.size) >>= _) _ _ _;refine Ya ?_;unfold Builtin.SmallTypes.ownedTupleHandOut;have hz₈:IsZip (h₇.push { cls:=.type "tuple",data:=.seq #[x,y,v] }) z TI TO .ellipsis:=Yc _ hz₇;refine Ya (Qb hz₈ (by simp) fun h₉ hz₉ hs₉ => ?_);replace hz₉:IsZip h₉ z TI TO (rawInt h₇.objs.size):=hz₉;refine Qb hz₉ (by simp) fun hA hzA hsA => ?_;replace hzA:IsZip hA z TI TO (rawInt h₇.objs.size):=hzA;have up:∀c o,c≠z->h₇.get? c=some o->hA.get? c=some o:=fun c o c1 e=>hsA.extBut _ _ c1 (hs₉.extBut _ _ c1 (Yc _ e));have hTA:Z1 hA h₇.objs.size x y v:=hsA.extBut _ _ (WK hzlt) (hs₉.extBut _ _ (WK hzlt) (Ym _ rfl));have hzA':hA.objs.size=h₇.objs.size+1:=by rw[hsA.1,hs₉.1,Y9]
 rw[hsz] at hzA hTA hzA';refine Yb ⟨_,rfl,?_⟩;show Q (.ref h₇.objs.size) _;rw[hsz];exact hQ hA hzA (up _ _ D.TOz hTO₇) (h1₇.at fun o e=>up _ o D.i1z e) (h2₇.at fun o e=>up _ o D.i2z e) (h3₇.at fun o e=>up _ o D.i3z e) hTA hzA' fun c o c1 c2 c3 c4 c5 e=>up c o c1 (hk₇ c o c1 c2 c3 c4 c5 e)
theorem ZnJ{z TI TO i1 i2 i3 l1:Addr}{k:Nat}{xs:Array P6}{a b c:P6}{Q:PySem.Fin->P0->Prop}(hh:A.handled=none)(D:Z3 z TI TO i1 i2 i3)(D1:L3 l1 z TO i1 i2 i3)
  (hz:IsZip s.heap z TI TO .none) (hTI:Z1 s.heap TI (.ref i1) (.ref i2) (.ref i3)) (hTO:Z1 s.heap TO a b c) (h1:s.heap.IsListIter i1 l1 k) (hl1:s.heap.IsList l1 xs) (hx:xs[k]?=none)
  (hE:∀h' e,(∀c o,c≠z->c≠TO->c≠i1->c≠i2->c≠i3->s.heap.get? c=some o->h'.get? c=some o)->(∃o,h'.get? e=some o/\o.cls = .type "StopIteration")->E (.ref e) { s with heap:=h' }) :
  wpAny (model prog w) A (Builtin.«zip.__next__» ⟨[.ref z],[]⟩) Q E s:=by
 show wpAny _ _ (field (.ref z) 2 >>= _) _ _ _;refine Ya (WQ hz rfl (x:=.bool false) rfl ?_);show wpAny _ _ (field (.ref z) 3 >>= _) _ _ _;refine Ya (WQ hz rfl (x:=.ref TI) rfl ?_);refine Ya (Vf hTI rfl ?_);show wpAny _ _ (Builtin.SmallTypes.ownedTupleIsFree (.ref z) >>= _) _ _ _;refine Ya ?_;unfold Builtin.SmallTypes.ownedTupleIsFree;refine Ya (WQ hz rfl (x:=.none) rfl (Yb ?_));simp only[Wq];refine Ya (Wz ?_);refine Ya (WQ hz rfl (x:=.ref TO) rfl ?_);refine Ya (Qb hz (by simp) fun h₁ hz₁ hs₁ => ?_);replace hz₁:IsZip h₁ z TI TO .ellipsis:=hz₁;refine Ya ?_;simp only[UH,List.zipIdx_nil,V9,UR];refine Ya (Ya (Ur ?_));show wpAny _ _ (Builtin.SmallTypes.nextOf (.ref i1) >>= _) _ _ _;refine Ya (wpAny_nextOf_list_end hh (h1.extBut hs₁.extBut D.i1z) (hl1.extBut hs₁.extBut D1.z) hx fun h₂ e hs₂ he => ?_);obtain⟨oe,hoe,hce⟩:=he;have hz₂:IsZip h₂ z TI TO .ellipsis:=hs₂ _ _ D.i1z.symm hz₁;have hez:e≠z:=fun x=>by subst x; rw[hz₂] at hoe; cases hoe; simp at hce
 refine Qb hz₂ (by simp) fun h₃ _ hs₃=>hE h₃ e (fun c o c1 _ c3 _ _ x=>hs₃.extBut _ _ c1 (hs₂ _ _ c3 (hs₁.extBut _ _ c1 x))) ⟨oe,hs₃.extBut _ _ hez hoe,hce⟩
noncomputable abbrev y1(h:Heap)(l1:Addr):Heap:=h.push { cls:=.type "list_iterator",data:=.fields #[.ref l1,.int 0 0] }
noncomputable abbrev y2(h:Heap)(l1 l2:Addr):Heap:=(y1 h l1).push { cls:=.type "list_iterator",data:=.fields #[.ref l2,.int 0 0] }
noncomputable abbrev y3(h:Heap)(l1 l2 l3:Addr):Heap:=(y2 h l1 l2).push { cls:=.type "list_iterator",data:=.fields #[.ref l3,.int 0 0] }
noncomputable abbrev y4(h:Heap)(l1 l2 l3:Addr):Heap:=(y3 h l1 l2 l3).push { cls:=.type "tuple",data:=.seq #[.ref h.objs.size,.ref (y1 h l1).objs.size,.ref (y2 h l1 l2).objs.size] }
noncomputable abbrev y5(h:Heap)(l1 l2 l3:Addr):Heap:=(y4 h l1 l2 l3).push { cls:=.type "tuple",data:=.seq #[.none,.none,.none] }
noncomputable abbrev y6(h:Heap)(l1 l2 l3:Addr):Heap:=(y5 h l1 l2 l3).push { cls:=.type "zip",data:=.fields #[.none,.bool false,.bool false,.ref (y3 h l1 l2 l3).objs.size,.ref (y4 h l1 l2 l3).objs.size] }
theorem Zo5(l1 l2 l3:Addr)(xs ys zs:Array P6) :
  Meets (Builtin.«zip.__new__» ⟨[.type "zip",.ref l1,.ref l2,.ref l3],[]⟩) (fun _ R s=>s.heap.IsList l1 xs/\s.heap.IsList l2 ys/\s.heap.IsList l3 zs /\
   R (.ok (.ret (.ref (y5 s.heap l1 l2 l3).objs.size))) { s with heap:=y6 s.heap l1 l2 l3 }) :=
 .of_wp fun prog w A R s h=>by
  obtain⟨hp,g,d,tk,os⟩:=s; obtain⟨hl1,hl2,hl3,h⟩:=h;have hsub:=sub_zip;have hL1:Heap.IsList (Shared.heap ⟨hp,g,d,tk,os⟩) l1 xs:=hl1;have hL2:Heap.IsList (Shared.heap ⟨hp.push { cls:=.type "list_iterator",data:=.fields #[.ref l1,.int 0 0] },g,d,tk,os⟩) l2 ys:=Heap.IsList.push hl2 _;have hL3:Heap.IsList (Shared.heap ⟨(hp.push { cls:=.type "list_iterator",data:=.fields #[.ref l1,.int 0 0] }).push { cls:=.type "list_iterator",data:=.fields #[.ref l2,.int 0 0] },g,d,tk,os⟩) l3 zs:=Heap.IsList.push (Heap.IsList.push hl3 _) _
  wp_walk using Q6 hL1,Q6 hL2,Q6 hL3
  exact⟨_,rfl,h⟩
theorem Zor(a b c:P6):checkTypeCall "zip" ⟨[a,b,c],[]⟩=pure ():=by kernel_rfl
theorem ZkP(a b c:P6):checkBuiltinCall "zip.__new__" ⟨[.type "zip",a,b,c],[]⟩=pure ():=by kernel_rfl
theorem ZnE(a b c d:P6):argsOk "object.__init__" ⟨[a,b,c,d],[]⟩:=by
 unfold argsOk; rw[signature?_of (id:="object.__init__") (n:=['_','_','t','i','n','i','_','_']) (o:=['t','c','e','j','b','o']) (by kernel_rfl) PySem.F.owner_object]; kernel_rfl
theorem Zk8{l1 l2 l3:Addr}{xs ys zs:Array P6}{Q:P6->P0->Prop}(hl1:s.heap.IsList l1 xs)(hl2:s.heap.IsList l2 ys)(hl3:s.heap.IsList l3 zs)
  (h:∀h',IsZip h' (s.heap.objs.size+5) (s.heap.objs.size+3) (s.heap.objs.size+4) .none->Z1 h' (s.heap.objs.size+3) (.ref s.heap.objs.size) (.ref (s.heap.objs.size+1)) (.ref (s.heap.objs.size+2)) ->
   Z1 h' (s.heap.objs.size+4) .none .none .none->h'.IsListIter s.heap.objs.size l1 0->h'.IsListIter (s.heap.objs.size+1) l2 0->h'.IsListIter (s.heap.objs.size+2) l3 0 ->
   (∀c o,s.heap.get? c=some o->h'.get? c=some o)->Q (.ref (s.heap.objs.size+5)) { s with heap:=h' }) :
  wpAny (model prog w) A (call (.type "zip") [.ref l1,.ref l2,.ref l3]) Q E s:=by
 refine callType_new PySem.F.called_zip (by decide) (Zor _ _ _) (ZkP _ _ _) (fun obj=>ZnE obj _ _ _) PySem.F.entry_zip_new
  (Zo5 l1 l2 l3 xs ys zs) ⟨hl1,hl2,hl3,?_⟩
 have z1:(y1 s.heap l1).objs.size=s.heap.objs.size+1:=Y9 ..;have z2:(y2 s.heap l1 l2).objs.size=s.heap.objs.size+2:=by rw[Y9,z1]
 have z3:(y3 s.heap l1 l2 l3).objs.size=s.heap.objs.size+3:=by rw[Y9,z2]
 have z4:(y4 s.heap l1 l2 l3).objs.size=s.heap.objs.size+4:=by rw[Y9,z3]
 have z5:(y5 s.heap l1 l2 l3).objs.size=s.heap.objs.size+5:=by rw[Y9,z4]
 have g6:(y6 s.heap l1 l2 l3).get? (y5 s.heap l1 l2 l3).objs.size=some _:=Ym _ rfl;have g5:(y6 s.heap l1 l2 l3).get? (y4 s.heap l1 l2 l3).objs.size=some _:=Yc _ (Ym _ rfl);have g4:(y6 s.heap l1 l2 l3).get? (y3 s.heap l1 l2 l3).objs.size=some _:=Yc _ (Yc _ (Ym _ rfl));have g3:(y6 s.heap l1 l2 l3).get? (y2 s.heap l1 l2).objs.size=some _:=Yc _ (Yc _ (Yc _ (Ym _ rfl)));have g2:(y6 s.heap l1 l2 l3).get? (y1 s.heap l1).objs.size=some _:=Yc _ (Yc _ (Yc _ (Yc _ (Ym _ rfl))));have g1:(y6 s.heap l1 l2 l3).get? s.heap.objs.size=some _:=Yc _ (Yc _ (Yc _ (Yc _ (Yc _ (Ym _ rfl)))));show _/\_;rw[z3,z4,z5] at g6;rw[z1,z2,z3] at g4;rw[z4] at g5;rw[z2] at g3;rw[z1] at g2;rw[z5];exact⟨⟨_,g6,rfl⟩,h _ g6 g4 g5 ⟨_,g1,rfl,rfl⟩ ⟨_,g2,rfl,rfl⟩ ⟨_,g3,rfl,rfl⟩ fun c o x =>
  Yc _ (Yc _ (Yc _ (Yc _ (Yc _ (Yc _ x)))))⟩
end
end HT
namespace DL
open PySem PySem.Spec PyProof.Rows L2 HT
def It3(K:P1)(a b c:Addr):It :=
  ⟨fun i H => ∃xs ys zs x y z,SqL K H a xs/\SqL K H b ys/\SqL K H c zs/\xs[i]?=some x/\ys[i]?=some y/\zs[i]?=some z,
   fun i H v H' => ∃p x y z,H p=none/\v = .ref p/\H'=upd H p (.tup [x,y,z])/\(∀xs,SqL K H a xs->xs[i]?=some x)/\(∀ys,SqL K H b ys->ys[i]?=some y)/\∀zs,SqL K H c zs->zs[i]?=some z,
   fun i H => ∃xs,SqL K H a xs/\xs.length<=i⟩
theorem Zm8{P:P4}{w:World}{K:P1}{es:List Expr}{k:Nat}{pt:Pos}(a b c z TI TO i1 i2 i3:Addr)(D:Z3 z TI TO i1 i2 i3) :
  Turn P w K (.Tuple es k pt) (It3 K a b c) [z,TI,TO,i1,i2,i3] z (fun i h=>IsZip h z TI TO .none/\Z1 h TI (.ref i1) (.ref i2) (.ref i3)/\(∃u v t,Z1 h TO u v t)/\h.IsListIter i1 a i/\h.IsListIter i2 b i/\h.IsListIter i3 c i) where
 mem:=by simp
 obj:=fun i h st d hc=>by
  obtain⟨h1,h2,⟨u,v,t,h3⟩,⟨o4,h4,_,d4⟩,⟨o5,h5,_,d5⟩,⟨o6,h6,_,d6⟩⟩:=st;simp only[Yl,YC,Wg] at hc;rcases hc with rfl | rfl | rfl | rfl | rfl | rfl
  ·exact⟨_,h1,fun v z=>by cases z⟩
  ·exact⟨_,h2,fun v z=>by cases z⟩
  ·exact⟨_,h3,fun v z=>by cases z⟩
  ·exact⟨_,h4,fun v z=>by rw[d4] at z; cases z⟩
  ·exact⟨_,h5,fun v z=>by rw[d5] at z; cases z⟩
  ·exact⟨_,h6,fun v z=>by rw[d6] at z; cases z⟩
 keep:=fun i h h' st k=>by
  obtain⟨h1,h2,⟨u,v,t,h3⟩,h4,h5,h6⟩:=st;exact⟨k z (by simp) _ h1,k TI (by simp) _ h2,⟨u,v,t,k TO (by simp) _ h3⟩,h4.at fun o e=>k i1 (by simp) o e,h5.at fun o e=>k i2 (by simp) o e,h6.at fun o e=>k i3 (by simp) o e⟩
 item:=by
  intro X hP hw hK hc i pins s σ H E I hf st hg;subst hP hw hK;obtain⟨xs,ys,zs,vx,vy,vz,q1,q2,q3,g1,g2,g3⟩:=hg;obtain⟨its1,r1,p1,_⟩:=I.list q1;obtain⟨its2,r2,p2,_⟩:=I.list q2;obtain⟨its3,r3,p3,_⟩:=I.list q3;obtain⟨ux,e1,rx⟩:=r1.get g1;obtain⟨uy,e2,ry⟩:=r2.get g2;obtain⟨uz,e3,rz⟩:=r3.get g3;obtain⟨hz,h2,⟨u,v,t,h3⟩,h4,h5,h6⟩:=st;have fz:=hf z (by simp);have fTO:=hf TO (by simp);have f1:=hf i1 (by simp);have f2:=hf i2 (by simp);have f3:=hf i3 (by simp);have L1:L3 a z TO i1 i2 i3:=⟨Z6 I q1 fz,Z6 I q1 fTO,Z6 I q1 f1,Z6 I q1 f2,Z6 I q1 f3⟩;have L2:L3 b z TO i1 i2 i3:=⟨Z6 I q2 fz,Z6 I q2 fTO,Z6 I q2 f1,Z6 I q2 f2,Z6 I q2 f3⟩;have L3:L3 c z TO i1 i2 i3:=⟨Z6 I q3 fz,Z6 I q3 fTO,Z6 I q3 f1,Z6 I q3 f2,Z6 I q3 f3⟩;have hzH:z<s.heap.objs.size:=Yk hz;have hT0:s.TypeIs (.ref z) "zip":=⟨_,hz,rfl⟩;unfold pyNext;refine Ya (W6 (Y4 (name:=Str.ofString "__next__") hT0 Vg
   (YI Vg hT0 PySem.F.entry_zip_next
    (Zpc D L1 L2 L3 hz h2 h3 h4 h5 h6 p1.isList p2.isList p3.isList (by simpa using e1) (by simpa using e2) (by simpa using e3) fun h' z1 z2 z3 z4 z5 z6 z7 z8=>Yb ?_) (PySem.F.args_zip_next_1 _))))
  refine⟨_,rfl,wpAny_letOwnedTupleGo_zip (s:={ s with heap:=h' }) z1 fun h'' y1 y2 => ?_⟩;replace y2:Heap.SameBut z h' h'':=y2;have up:∀c o,c≠z->h'.get? c=some o->h''.get? c=some o:=fun c o hce ho=>(y2.2 c hce).trans ho;have z9:∀c o,c≠z->c≠TO->c≠i1->c≠i2->c≠i3->s.heap.get? c=some o->h''.get? c=some o:=fun c o c1 c2 c3 c4 c5 ho=>up c o c1 (z8 c o c1 c2 c3 c4 c5 ho);have hfr:=I.hok.fresh (Yj s.heap.objs.size);have hT:Z1 h'' s.heap.objs.size ux uy uz:=up _ _ (WK hzH) z6;refine⟨.ref s.heap.objs.size,upd H s.heap.objs.size (.tup [vx,vy,vz]),?_,rfl,⟨s.heap.objs.size,vx,vy,vz,hfr,rfl,rfl,fun zs hq=>by rw[I.list_inj hq q1]; exact g1,fun zs hq=>by rw[I.list_inj hq q2]; exact g2,fun zs hq=>by rw[I.list_inj hq q3]; exact g3⟩,
   ⟨y1,z9 _ _ D.TIz D.TITO D.TIi1 D.TIi2 D.TIi3 h2,⟨ux,uy,uz,up _ _ D.TOz z2⟩,z3.at fun o e=>up _ o D.i1z e,z4.at fun o e=>up _ o D.i2z e,z5.at fun o e=>up _ o D.i3z e⟩,fun c hc => ?_⟩
  ·show Inv X pins σ _ { s with heap:=h'' };refine I.step (ch:=[z,TO,i1,i2,i3]) (g':=s.gens) (t':=s.toks) (d':=s.drawn) ?_ ?_ ?_ ?_ ?_ ?_ ?_ ?_ ?_ ?_ I.bare
   ·intro c hc;have hc':c∈[z,TI,TO,i1,i2,i3]:=by
     simp only[Yl,YC,Wg] at hc ⊢;rcases hc with h | h | h | h | h <;> simp[h]
    obtain⟨k0,k1,k2,k3,k4,k5⟩:=hf c hc';exact⟨k3,k1,k4,k5⟩
   ·intro c o k1 k2 k3 k4 k5;simp only[Yl,YC,Wg,Vv] at k3;exact z9 c o k3.1 k3.2.1 k3.2.2.1 k3.2.2.2.1 k3.2.2.2.2 k4
   ·intro c o k1 k2 k3 k4 k5;simp only[Yl,YC,Wg,Vv] at k3;exact⟨o.slots,z9 c o k3.1 k3.2.1 k3.2.2.1 k3.2.2.2.1 k3.2.2.2.2 k4⟩
   ·intro c o k3 k4 k5;rw[Zk (Yr (Yk k4))];exact k5
   ·intro c o k3 k4;simp only[Yl,YC,Wg,Vv] at k3;exact⟨o,z9 c o k3.1 k3.2.1 k3.2.2.1 k3.2.2.2.1 k3.2.2.2.2 k4⟩
   ·intro c ws k;rw[Zk (Zy k hfr)]; exact k
   ·intro c ob ws k;rw[Zk (Zy k hfr)]; exact k
   ·intro c ps k;exact⟨#[],by rw[Zk (Zy k hfr),k]; simp⟩
   ·intro m hm;exact hm.at' fun o e=>z9 _ o (YW fz.2.1) (YW fTO.2.1) (YW f1.2.1) (YW f2.2.1) (YW f3.2.1) e
   ·intro c o e;by_cases hcc:c=s.heap.objs.size
    ·subst hcc;rw[ZW] at e;cases e;exact⟨(by show 3<=sizeLine; rw[YN]; decide),[ux,uy,uz],.cons rx (.cons ry (.cons rz .nil)),⟨_,hT,rfl,_,rfl⟩,fun o2 e2=>by have e3:=e2.symm.trans hT; cases e3; rfl⟩
    ·rw[Zk hcc] at e;refine (I.hok c o e).stay (fun d u hd k => ?_) (fun d k=>by rw[Zk (Zy k hfr)]; exact k) fun d ws k=>by rw[Zk (Zy k hfr)]; exact k
     have hHd:∃o',H d=some o':=by
      rcases hd with rfl | hd
      ·exact⟨o,e⟩
      ·exact⟨_,hd⟩
     obtain⟨o',ho'⟩:=hHd;exact z9 d u (Zy ho' fz.1) (Zy ho' fTO.1) (Zy ho' f1.1) (Zy ho' f2.1) (Zy ho' f3.1) k
  ·have hcn:=(hf c hc).1;obtain⟨oc,hoc⟩:∃o,s.heap.get? c=some o:=by
    simp only[Yl,YC,Wg] at hc;obtain⟨o4,h4',_⟩:=h4;obtain⟨o5,h5',_⟩:=h5;obtain⟨o6,h6',_⟩:=h6;rcases hc with rfl | rfl | rfl | rfl | rfl | rfl
    ·exact⟨_,hz⟩
    ·exact⟨_,h2⟩
    ·exact⟨_,h3⟩
    ·exact⟨_,h4'⟩
    ·exact⟨_,h5'⟩
    ·exact⟨_,h6'⟩
   rw[Zk (Yr (Yk hoc))];exact hcn
 done:=by
  intro X hP hw hK hc i pins s σ H E I hf st hg;subst hP hw hK;obtain⟨xs,q1,g⟩:=hg;obtain⟨its1,r1,p1,_⟩:=I.list q1;obtain⟨hz,h2,⟨u,v,t,h3⟩,h4,h5,h6⟩:=st;have fz:=hf z (by simp);have fTO:=hf TO (by simp);have f1:=hf i1 (by simp);have f2:=hf i2 (by simp);have f3:=hf i3 (by simp);have L1:L3 a z TO i1 i2 i3:=⟨Z6 I q1 fz,Z6 I q1 fTO,Z6 I q1 f1,Z6 I q1 f2,Z6 I q1 f3⟩;have hend:its1.toArray[i]?=none:=by
   have l1:=r1.length;simp; omega
  have hT0:s.TypeIs (.ref z) "zip":=⟨_,hz,rfl⟩;unfold pyNext;refine Ya (W6 (Y4 (name:=Str.ofString "__next__") hT0 Vg
   (YI Vg hT0 PySem.F.entry_zip_next (ZnJ (by simpa using I.ok.hd hc) D L1 hz h2 h3 h4 p1.isList hend fun h' e hk he => ?_) (PySem.F.args_zip_next_1 _))))
  obtain⟨o,ho,hcl⟩:=he;refine Ya (WO (T:="StopIteration") (b:=true) ⟨o,ho,hcl⟩ VC ?_);refine Yb ⟨rfl,?_⟩;refine I.step (H':=H) (ch:=[z,TO,i1,i2,i3]) (g':=s.gens) (t':=s.toks) (d':=s.drawn) ?_ ?_ ?_ ?_ ?_ (fun _ _ k=>k) (fun _ _ _ k=>k) (fun c ps k=>⟨#[],by rw[k]; simp⟩) ?_ ?_ I.bare
  ·intro c hc;have hc':c∈[z,TI,TO,i1,i2,i3]:=by
    simp only[Yl,YC,Wg] at hc ⊢;rcases hc with h | h | h | h | h <;> simp[h]
   obtain⟨k0,k1,k2,k3,k4,k5⟩:=hf c hc';exact⟨k3,k1,k4,k5⟩
  ·intro c o k1 k2 k3 k4 k5;simp only[Yl,YC,Wg,Vv] at k3;exact hk c o k3.1 k3.2.1 k3.2.2.1 k3.2.2.2.1 k3.2.2.2.2 k4
  ·intro c o k1 k2 k3 k4 k5;simp only[Yl,YC,Wg,Vv] at k3;exact⟨o.slots,hk c o k3.1 k3.2.1 k3.2.2.1 k3.2.2.2.1 k3.2.2.2.2 k4⟩
  ·intro c o k3 k4 k5;exact k5
  ·intro c o k3 k4;simp only[Yl,YC,Wg,Vv] at k3;exact⟨o,hk c o k3.1 k3.2.1 k3.2.2.1 k3.2.2.2.1 k3.2.2.2.2 k4⟩
  ·intro m hm;exact hm.at' fun o e=>hk _ o (YW fz.2.1) (YW fTO.2.1) (YW f1.2.1) (YW f2.2.1) (YW f3.2.1) e
  ·intro c o e;refine (I.hok c o e).stay (fun d u hd k => ?_) (fun d k=>k) fun d ws k=>k;have hHd:∃o',H d=some o':=by
    rcases hd with rfl | hd
    ·exact⟨o,e⟩
    ·exact⟨_,hd⟩
   obtain⟨o',ho'⟩:=hHd;exact hk d u (Zy ho' fz.1) (Zy ho' fTO.1) (Zy ho' f1.1) (Zy ho' f2.1) (Zy ho' f3.1) k
 self:=fun _ _ _ _ _ st h=>by
  obtain⟨hz,_⟩:=st;exact wpAny_pyIter_zip hz h
section
variable{X:Cx}{EX:EXT}{es:List Expr}{k:Nat}{pt p pos:Pos}{a b c:Expr}{g:DA}
def ZqJ(K:P1)(ta:TA):TI:=fun σ H R=>ta σ H fun vs H1 => ∃a b c,vs=[.ref a,.ref b,.ref c]/\(∃xs,SqL K H1 a xs)/\(∃ys,SqL K H1 b ys)/\(∃zs,SqL K H1 c zs)/\R (It3 K a b c) H1
theorem ZkB{ta:TA}(hg:Gl X "zip")(hm:X.mg "zip" = none)(ha:PA X [a,b,c] ta)(hs:starEach [a,b,c] X.env=[(false,eval a X.env),(false,eval b X.env),(false,eval c X.env)]:=by rfl)(hs2:starEach [b,c] X.env=[(false,eval b X.env),(false,eval c X.env)]:=by rfl) :
  PI X (.Tuple es k pt) (.Call (.Name "zip" p) [a,b,c] [] pos) (ZqJ X.K ta):=by
 intro pins s σ H R I h;refine Call_ (ZaY I hg hm PyProof.Rows.boot_zip (Ww (thn (ha pos pins s σ H _ I h) fun us s1 ⟨vs,H1,I1,r1,q1⟩ => ?_) (by rw[hs,hs2]) (by rw[hs2]; rfl)));obtain⟨pa,pb,pc,e,⟨xs,h1⟩,⟨ys,h2⟩,⟨zs,h3⟩,q⟩:=q1;subst e;cases r1 with
 | cons r rr =>
 cases rr with
 | cons r' rr =>
 cases rr with
 | cons r'' rr =>
  cases rr;cases r;cases r';cases r'';obtain⟨its1,v1,p1,_⟩:=I1.list h1;obtain⟨its2,v2,p2,_⟩:=I1.list h2;obtain⟨its3,v3,p3,_⟩:=I1.list h3;refine Zk8 p1.isList p2.isList p3.isList fun h' z1 z2 z3 z4 z5 z6 z7 => ?_;have I2:Inv X pins σ H1 { s1 with heap:=h' }:=I1.kept (t':=s1.toks) z7;have D:Z3 (s1.heap.objs.size+5) (s1.heap.objs.size+3) (s1.heap.objs.size+4) s1.heap.objs.size (s1.heap.objs.size+1) (s1.heap.objs.size+2):=by
   constructor <;> (intro z; have z':(_:Nat)=_:=z; omega)
  have T:=Zm8 (P:=X.prog) (w:=X.w) (K:=X.K) (es:=es) (k:=k) (pt:=pt) pa pb pc _ _ _ _ _ _ D;have st:IsZip h' (s1.heap.objs.size+5) (s1.heap.objs.size+3) (s1.heap.objs.size+4) .none/\Z1 h' (s1.heap.objs.size+3) (.ref s1.heap.objs.size) (.ref (s1.heap.objs.size+1)) (.ref (s1.heap.objs.size+2))/\(∃u v t,Z1 h' (s1.heap.objs.size+4) u v t)/\h'.IsListIter s1.heap.objs.size pa 0/\h'.IsListIter (s1.heap.objs.size+1) pb 0/\h'.IsListIter (s1.heap.objs.size+2) pc 0 :=
   ⟨z1,z2,⟨_,_,_,z3⟩,z4,z5,z6⟩
  refine T.self _ 0 _ _ _ st ?_;refine⟨_,_,_,_,H1,rfl,I2,T,st,fun c hc => ?_,q⟩;have hle:s1.heap.objs.size<=c:=by
   simp only[Yl,YC,Wg] at hc;rcases hc with rfl | rfl | rfl | rfl | rfl | rfl
   ·exact Vi _ _
   ·exact Vi _ _
   ·exact Vi _ _
   ·exact Yj _
   ·exact Vi _ _
   ·exact Vi _ _
  exact I1.fpOk hle (I1.hok.fresh hle)
def Zaf:List D->List D->List D->List D
 | x :: xs,y :: ys,z :: zs => .tup [x,y,z] :: Zaf xs ys zs
 | _,_,_=>[]
theorem ZjE:∀(xs ys zs:List D),xs.length<=ys.length->xs.length<=zs.length->(Zaf xs ys zs).length=xs.length
 | [],_,_,_,_=>by unfold Zaf; rfl
 | x :: xs,[],_,h,_=>by simp at h
 | x :: xs,y :: ys,[],_,h=>by simp at h
 | x :: xs,y :: ys,z :: zs,h1,h2=>by
  show (Zaf xs ys zs).length+1=_;rw[ZjE xs ys zs (by simpa using h1) (by simpa using h2)];rfl
theorem ZhZ:∀(xs ys zs:List D) (i:Nat) (d:D),(Zaf xs ys zs)[i]?=some d->∃x y z,d = .tup [x,y,z]/\xs[i]?=some x/\ys[i]?=some y/\zs[i]?=some z
 | [],_,_,i,d,h=>by unfold Zaf at h; simp at h
 | x :: xs,[],_,i,d,h=>by unfold Zaf at h; simp at h
 | x :: xs,y :: ys,[],i,d,h=>by unfold Zaf at h; simp at h
 | x :: xs,y :: ys,z :: zs,0,d,h=>by
  unfold Zaf at h;simp only[YF,Yu] at h;exact⟨x,y,z,h.symm,rfl,rfl,rfl⟩
 | x :: xs,y :: ys,z :: zs,i+1,d,h=>by
  unfold Zaf at h;rw[YL] at h;exact ZhZ xs ys zs i d h
def ZdV(g:DA):DI:=fun ρ st=>(g ρ st).bind fun ds st1=>match ds with
 | [x,y,z]=>match Zj st1 x,Zj st1 y,Zj st1 z with
  | some xs,some ys,some zs=>if xs.length<=ys.length/\xs.length<=zs.length then .ok (Zaf xs ys zs,fun st=>Zj st x=some xs/\Zj st y=some ys/\Zj st z=some zs) st1 else .bad
  | _,_,_ => .bad
 | _ => .bad
theorem Znu(hg:Gl X "zip")(hm:X.mg "zip" = none)(ha:PDA X EX [a,b,c] g)(hs:starEach [a,b,c] X.env=[(false,eval a X.env),(false,eval b X.env),(false,eval c X.env)]:=by rfl)(hs2:starEach [b,c] X.env=[(false,eval b X.env),(false,eval c X.env)]:=by rfl):PID X EX (.Tuple es k pt) (.Call (.Name "zip" p) [a,b,c] [] pos) (ZdV g):=by
 refine PI.mono (ZkB hg hm ha hs hs2) ?_;rintro σ H R ⟨O,ρ,st,W,E,R0⟩;refine⟨O,ρ,st,W,E,R0.bind.mono fun ds st1 O1 H1 k1 W1 R1 vs r => ?_⟩;split at R1
 ·rename_i x y z;obtain⟨v,u,t,rfl,rv,ru,rt⟩:∃v u t,vs=[v,u,t]/\Rep X.K O1 H1 x v/\Rep X.K O1 H1 y u/\Rep X.K O1 H1 z t:=by
   obtain⟨v,vs',e1,r1,r2⟩:=Reps.cons_i.mp r;obtain⟨u,t,e2,r3,r4⟩:=Reps.two_of r2;exact⟨v,u,t,by rw[e1,e2],r1,r3,r4⟩
  split at R1
  ·rename_i xs ys zs ex ey ez;by_cases hc:xs.length<=ys.length/\xs.length<=zs.length
   ·rw[Yi hc] at R1;obtain⟨pa,va,rfl,qa,ra⟩:=rdL W1 rv ex;obtain⟨pb,vb,rfl,qb,rb⟩:=rdL W1 ru ey;obtain⟨pc,vc,rfl,qc,rc⟩:=rdL W1 rt ez;refine⟨pa,pb,pc,rfl,⟨va,qa⟩,⟨vb,qb⟩,⟨vc,qc⟩,Run.now (k:=fun q _ O' H' => ∀J,ItD X.K J O' H' q->R J H') R1 W1 _ ?_⟩;intro i O' H' st2 kp W' hp;obtain⟨pa',va',e1,qa',ra'⟩:=rdL W' (Rep.mono kp _ _ rv) hp.1;cases e1;obtain⟨pb',vb',e2,qb',rb'⟩:=rdL W' (Rep.mono kp _ _ ru) hp.2.1;cases e2;obtain⟨pc',vc',e3,qc',rc'⟩:=rdL W' (Rep.mono kp _ _ rt) hp.2.2;cases e3;refine⟨fun d hd => ?_,fun hl => ?_⟩
    ·obtain⟨dx,dy,dz,rfl,g1,g2,g3⟩:=ZhZ xs ys zs i d hd;obtain⟨vx,e1,rx⟩:=ra'.get g1;obtain⟨vy,e2,ry⟩:=rb'.get g2;obtain⟨vz,e3,rz⟩:=rc'.get g3;refine⟨⟨va',vb',vc',vx,vy,vz,qa',qb',qc',e1,e2,e3⟩,?_⟩;rintro v H2 ⟨p,x',y',z',hp,rfl,rfl,h3,h4,h5⟩;have e4:=h3 va' qa';have e5:=h4 vb' qb';have e6:=h5 vc' qc';rw[e1] at e4;rw[e2] at e5;rw[e3] at e6;cases e4;cases e5;cases e6;exact⟨Keep.laid hp,W'.laid hp,Rep.tup_i.mpr ⟨p,_,rfl,ZW,Reps.cons_i.mpr ⟨_,_,rfl,Rep.mono (Keep.laid hp) _ _ rx,Reps.cons_i.mpr ⟨_,_,rfl,Rep.mono (Keep.laid hp) _ _ ry,Reps.one (Rep.mono (Keep.laid hp) _ _ rz)⟩⟩⟩⟩
    ·refine⟨va',qa',?_⟩;rw[<-ra'.length];have:=ZjE xs ys zs hc.1 hc.2;dsimp only at hl;omega
   ·rw[Yh hc] at R1; exact R1.elim
  ·exact R1.elim
 ·exact R1.elim
end
end DL
end
section
namespace HT
open PySem PyProof.Rows
noncomputable abbrev ZbK(h:Heap)(it d:Addr)(i n ep:Nat)(ok ov:P6)(a:Addr)(f1:Bool):Prop :=
 h.get? it=some { cls:=.type "dict_itemiterator",dict:=none,data:=.fields #[rawInt a,.bool f1,.ref d,.int i 0,.int n 0,.int ep 0,ok,ov],slots:=#[] }
section
variable{prog:P4}{w:World}{K:Type}[DecidableEq K]{knd:KeyKind prog w K}{A:P3}{E:P6->P0->Prop}{s:P0}
theorem ZmD{a:Addr}{o:Obj}{Q:Option Obj->P0->Prop}(h:s.heap.get? a=some o)(hQ:Q (some o) s):wpAny (model prog w) A (loadIfAlive a) Q E s:=by
 unfold loadIfAlive;intro B p hB;rw[Sem.wp_loadIfAlive,h];exact Yb (M:=model prog w) (A:=A) (E:=E) hQ B p hB
theorem Zn0{it d a:Addr}{oa:Obj}{f1:Bool}{i ep:Nat}{kvs:List (K×P6)}{k:K}{v ok ov:P6}{Q:Option P6->P0->Prop}(hit:ZbK s.heap it d i kvs.length ep ok ov a f1)(hal:s.heap.get? a=some oa)
  (hm:s.heap.DictAt knd d kvs ep) (hx:kvs[i]?=some (k,v)) (hne:oa≠{ cls:=.type "dict_itemiterator",dict:=none,data:=.fields #[rawInt a,.bool f1,.ref d,.int i 0,.int kvs.length 0,.int ep 0,ok,ov],slots:=#[] })
  (hQ:∀key h',knd.is k key=true->ZbK h' it d (i+1) kvs.length ep ok ov a true->h'.get? a=some oa ->
   h'.get? s.heap.objs.size=some { cls:=.type "tuple",data:=.seq #[key,v] }->h'.objs.size=s.heap.objs.size+1 ->
   (∀b o,b≠it->s.heap.get? b=some o->h'.get? b=some o)->Q (some (.ref s.heap.objs.size)) { s with heap:=h' }) :
  wpAny (model prog w) A (pyNext (.ref it)) Q E s:=by
 obtain⟨hp,g,dr,tk,os⟩:=s;obtain⟨od,es,hod,hcd,hdd,hk,hpr,hn⟩:=id hm;have hT:Shared.TypeIs ⟨hp,g,dr,tk,os⟩ (.ref it) "dict_itemiterator":=⟨_,hit,rfl⟩;unfold pyNext;refine Ya (W6 (Y4 (name:=Str.ofString "__next__") hT WT
  (YI WT hT Vz ?_ (V5 _))))
 refine Ya (Yb ?_);refine Ya ?_;refine Ya ?_
 first | refine Ya (Qg hT (Yb ?_)) | refine Ya (QJ hT (Yb ?_))
 refine Ya (Vd hit rfl ?_);have hown:Builtin.Dict_items.ownsTuple "dict_itemiterator" = true:=by decide
 simp only[hown,Wq];show wpAny _ _ (if (Value.ref d == Value.none)=true then _ else _) _ _ _;rw[Yh (show ¬ ((Value.ref d == Value.none)=true) from Qs)];refine Ya (Yb ?_);refine Ya (WE hod hdd ?_);have hsz:es.size=kvs.length:=by rw[<-hpr.length]; simp
 rw[Yh (by rw[hsz]; simp)];refine Ya (Yb ?_);refine Ya (Qx hod hdd ?_);rw[Yh (by simp)];refine Yb ?_;have hlt:i<kvs.length:=by
  rcases Nat.lt_or_ge i kvs.length with h | h
  ·exact h
  ·simp[Qa h] at hx
 have hlt':i<es.size:=by rw[hsz]; exact hlt
 obtain⟨hkey,hval⟩:=hpr.get? (e:=es[i]) (by simp[hlt']) hx;simp only[show ¬ ((i:Int)<0) from by omega,Wc,Y7,Yt hlt'];refine Ya ?_
 first | refine Ya (Qg hT (Yb ?_)) | refine Ya (QJ hT (Yb ?_))
 refine Ya (VS hT ?_);show wpAny _ _ (setField (.ref it) 3 (rawInt ((i:Int)+1)) >>= _) _ _ ⟨hp,g,dr,tk,os⟩;refine Ya (Qb hit (by simp) fun h₁ he₁ hs₁ => ?_);replace hs₁:Heap.SameBut it hp h₁:=hs₁;replace he₁:ZbK h₁ it d (i+1) kvs.length ep ok ov a f1:=by
  have e:((i+1:Nat):Int)=(i:Int)+1:=by omega
  unfold ZbK; rw[e]; simpa[rawInt] using he₁
 have hT₁:Shared.TypeIs ⟨h₁,g,dr,tk,os⟩ (.ref it) "dict_itemiterator":=⟨_,he₁,rfl⟩;refine Ya (Y1 ?_);refine Ya (VS hT₁ ?_);refine Ya (VS hT₁ ?_);show wpAny _ _ (Builtin.Dict_items.pairFromOwner (.ref it) 6 es[i].key es[i].val) _ _ ⟨h₁,g,dr,tk,os⟩;unfold Builtin.Dict_items.pairFromOwner;refine Ya (Vc ?_);have he₂:ZbK (h₁.push { cls:=.type "tuple",data:=.seq #[es[i].key,es[i].val] }) it d (i+1) kvs.length ep ok ov a f1:=Yc _ he₁;generalize hh₂:h₁.push { cls:=.type "tuple",data:=.seq #[es[i].key,es[i].val] }=h₂ at he₂;have hz₁:h₁.objs.size=hp.objs.size:=hs₁.1;have hil:it<hp.objs.size:=Yk hit;have ht₂:h₂.get? hp.objs.size=some { cls:=.type "tuple",data:=.seq #[es[i].key,es[i].val] }:=by rw[<-hh₂,<-hz₁]; exact Ym _ rfl
 have hz₂:h₂.objs.size=hp.objs.size+1:=by rw[<-hh₂,Y9,hz₁]
 have hk₂:∀b o,b≠it->hp.get? b=some o->h₂.get? b=some o:=fun b o hb e=>by rw[<-hh₂]; exact Yc _ (hs₁.extBut b o hb e)
 show wpAny _ _ (Builtin.Dict_items.ownedTupleIsFree (.ref it) >>= _) _ _ ⟨h₂,g,dr,tk,os⟩;rw[hz₁];clear hh₂ he₁ hs₁ hT₁ hz₁ h₁;refine Ya ?_;have hae:a≠it:=fun z=>by
  subst z;have hal':hp.get? a=some oa:=hal;have hit':hp.get? a=_:=hit;exact hne (Option.some.inj (hal'.symm.trans hit'))
 have hal₂:h₂.get? a=some oa:=hk₂ a oa hae hal;unfold Builtin.Dict_items.ownedTupleIsFree;refine Ya (WQ he₂ rfl (x:=rawInt a) rfl ?_);show wpAny _ _ (loadIfAlive ((a:Int).toNat) >>= _) _ _ _;rw[Y7];refine Ya (ZmD (s:=⟨h₂,g,dr,tk,os⟩) hal₂ ?_);rw[Yh (by simp)];refine Ya (WQ he₂ rfl (x:=.bool f1) rfl ?_);cases f1 with
 | true =>
  rw[Yh (by decide)];refine Yb ?_;rw[Yh (by decide)];exact Yb (Yb ⟨_,rfl,Yb (hQ es[i].key h₂ hkey he₂ hal₂ (hval ▸ ht₂) hz₂ hk₂)⟩)
 | false =>
  rw[Yi (by decide)];refine Ya (Qb he₂ (by simp) fun h₃ he₃ hs₃=>Yb ?_);replace hs₃:Heap.SameBut it h₂ h₃:=hs₃;replace he₃:ZbK h₃ it d (i+1) kvs.length ep ok ov a true:=he₃;rw[Yh (by decide)];refine Yb (Yb ⟨_,rfl,Yb (hQ es[i].key h₃ hkey he₃ (hs₃.extBut _ _ hae hal₂) ?_ ?_ ?_)⟩)
  ·rw[<-hval]; exact hs₃.extBut _ _ (WK hil) ht₂
  ·show h₃.objs.size=hp.objs.size+1;rw[hs₃.1,hz₂]
  ·exact fun b o hb e=>hs₃.extBut b o hb (hk₂ b o hb e)
theorem Zkq{it d a:Addr}{f1:Bool}{i ep:Nat}{kvs:List (K×P6)}{ok ov:P6}{Q:Option P6->P0->Prop}(hh:A.handled=none)(hit:ZbK s.heap it d i kvs.length ep ok ov a f1)
  (hm:s.heap.DictAt knd d kvs ep) (hx:kvs[i]?=none)
  (hQ:∀h',Heap.ExtBut it s.heap h'->Q none { s with heap:=h' }):wpAny (model prog w) A (pyNext (.ref it)) Q E s:=by
 obtain⟨od,es,hod,hcd,hdd,hk,hpr,hn⟩:=id hm;have hT:s.TypeIs (.ref it) "dict_itemiterator":=⟨_,hit,rfl⟩;unfold pyNext;refine Ya (W6 (Y4 (name:=Str.ofString "__next__") hT WT
  (YI WT hT Vz ?_ (V5 _))))
 refine Ya (Yb ?_);refine Ya ?_;refine Ya ?_
 first | refine Ya (Qg hT (Yb ?_)) | refine Ya (QJ hT (Yb ?_))
 refine Ya (Vd hit rfl ?_);have hown:Builtin.Dict_items.ownsTuple "dict_itemiterator" = true:=by decide
 simp only[hown,Wq];show wpAny _ _ (if (Value.ref d == Value.none)=true then _ else _) _ _ s;rw[Yh (show ¬ ((Value.ref d == Value.none)=true) from Qs)];refine Ya (Yb ?_);refine Ya (WE hod hdd ?_);have hsz:es.size=kvs.length:=by rw[<-hpr.length]; simp
 rw[Yh (by rw[hsz]; simp)];refine Ya (Yb ?_);refine Ya (Qx hod hdd ?_);rw[Yh (by simp)];refine Yb ?_;have hge:es.size<=i:=by rw[hsz]; simpa using hx
 simp only[show ¬ ((i:Int)<0) from by omega,Wc,Y7,Qm hge];refine Ya ?_
 first | refine Ya (Qg hT (Yb ?_)) | refine Ya (QJ hT (Yb ?_))
 show wpAny _ _ (setField (.ref it) 2 .none >>= _) _ _ s;refine Ya (W9 hit rfl (by simp) ?_);show wpAny _ _ (newExc (.type "StopIteration") [] >>= _) _ _ _;refine Ya ?_;simp only[newExc,newTuple];refine Ya (YZ ?_ (by size_fits));refine Ya (m:=firstArgMember _ _) (Ul (a:=Value.none) (by first | rfl | (simp only[firstArgMember]; rfl)) ?_);refine YZ ?_ (by size_fits);simp only[raiseNew];refine Ya (wpAny_handled ?_);rw[show A.in1.handled=none from hh];refine Ya (Yb (wpAny_throw ?_));refine Ya (WO (T:="StopIteration") (b:=true) ⟨_,Ym _ rfl,rfl⟩ VC ?_);exact Yb (hQ _ (((Yy ..).extBut.push _).push _))
end
section
variable{prog:P4}{w:World}{K:Type}[DecidableEq K]{knd:KeyKind prog w K}{A:P3}{E:P6->P0->Prop}{s:P0}
def PairsAt(knd:KeyKind prog w K)(n0:Nat)(h:Heap):List P6->List (K×P6)->Prop
 | [],[]=>True
 | v :: vs,p :: r=>(∃b key,v = .ref b/\h.get? b=some { cls:=.type "tuple",data:=.seq #[key,p.2] }/\knd.is p.1 key=true/\n0<=b)/\PairsAt knd n0 h vs r
 | _,_=>False
theorem PairsAt.len{n0:Nat}{h:Heap}:∀{vs:List P6} {r:List (K×P6)},PairsAt knd n0 h vs r->vs.length=r.length
 | [],[],_=>rfl
 | v :: vs,p :: r,x=>by simp[PairsAt.len x.2]
 | [],_ :: _,x=>x.elim
 | _ :: _,[],x=>x.elim
theorem PairsAt.mono{n0:Nat}{h h':Heap}:∀{vs:List P6} {r:List (K×P6)},PairsAt knd n0 h vs r->(∀b o,h.get? b=some o->o.cls = .type "tuple"->h'.get? b=some o)->PairsAt knd n0 h' vs r
 | [],[],_,_=>trivial
 | v :: vs,p :: r,⟨⟨b,key,e1,e2,e3⟩,x⟩,k=>⟨⟨b,key,e1,k _ _ e2 rfl,e3⟩,PairsAt.mono x k⟩
 | [],_ :: _,x,_=>x.elim
 | _ :: _,[],x,_=>x.elim
theorem PairsAt.snoc{n0:Nat}{h:Heap}{b:Addr}{key:P6}{p:K×P6}(e2:h.get? b=some { cls:=.type "tuple",data:=.seq #[key,p.2] })(e3:knd.is p.1 key=true)(e4:n0<=b):∀{vs:List P6} {r:List (K×P6)},PairsAt knd n0 h vs r->PairsAt knd n0 h (vs++[.ref b]) (r++[p])
 | [],[],_=>⟨⟨b,key,rfl,e2,e3,e4⟩,trivial⟩
 | v :: vs,q :: r,x=>⟨x.1,PairsAt.snoc e2 e3 e4 x.2⟩
 | [],_ :: _,x=>x.elim
 | _ :: _,[],x=>x.elim
def ItI(h:Heap)(it d:Addr)(i n ep:Nat):Prop :=
 (i=0/\IsItemIter h it d 0 n ep .none .none)\/∃a oa f1 ok ov,ZbK h it d i n ep ok ov a f1/\h.get? a=some oa/\oa.cls = .type "tuple"
theorem ItI.cls{h:Heap}{it d:Addr}{i n ep:Nat}(x:ItI h it d i n ep):∃o,h.get? it=some o/\o.cls = .type "dict_itemiterator":=by
 rcases x with⟨_,x⟩ | ⟨_,_,_,_,_,x,_⟩ <;> exact⟨_,x,rfl⟩
theorem Zo6{n0:Nat}{it d S:Addr}{ep:Nat}{kvs:List (K×P6)}{res:P6}{R:Result->P0->Prop}(hh:A.handled=none)(hn:kvs.length<=sizeLine)(hSi:S≠it)(hdi:d≠it)(hdS:d≠S) :
  ∀(k i:Nat) (s:P0) (acc:Array P6) (c:Nat),kvs.length - i=k->i<=kvs.length->ItI s.heap it d i kvs.length ep->s.heap.DictAt knd d kvs ep->s.heap.get? S=some { cls:=.type "list",dict:=none,data:=.seq acc c,slots:=#[] }->PairsAt knd n0 s.heap acc.toList (kvs.take i)->n0<=s.heap.objs.size ->
  (∀h' acc' c',(∀b o,b≠S->b≠it->s.heap.get? b=some o->h'.get? b=some o)->h'.get? S=some { cls:=.type "list",dict:=none,data:=.seq acc' c',slots:=#[] }->PairsAt knd n0 h' acc'.toList kvs->R (.ok (.ret res)) { s with heap:=h' }) ->
  codeAny (model prog w) A (.builtin "list.extend.loop" ⟨[.ref S,.ref it,res],[]⟩) R s:=by
 intro k
 induction k with
 | zero =>
  intro i s acc c hk hi hst hd hS hacc hn0 hR;have hin:i=kvs.length:=by omega
  subst hin;rw[QN] at hacc;refine WI UB ?_;rw[Wn WJ _];show wpAny _ A.in1 (pyNext (.ref it) >>= _) _ _ s;have fin:∀h',Heap.ExtBut it s.heap h'->R (.ok (.ret res)) { s with heap:=h' }:=fun h' x=>hR h' acc c (fun b o _ hb e=>x b o hb e) (x _ _ hSi hS) (hacc.mono fun b o e hc=>x b o (fun z=>by
   obtain⟨o',e',c'⟩:=hst.cls;rw[z,e'] at e;cases e;rw[c'] at hc;exact absurd hc (by simp)) e)
  rcases hst with⟨h0,x⟩ | ⟨a,oa,f1,ok,ov,x,_⟩
  ·have hk0:kvs=[]:=WU.mp h0;subst hk0;exact Ya (wpAny_pyNext_items_end (by simpa using hh) x hd (by simp) fun h' e=>Yb (fin h' e))
  ·exact Ya (Zkq (by simpa using hh) x hd (by simp) fun h' e=>Yb (fin h' e))
 | succ k ih =>
  intro i s acc c hk hi hst hd hS hacc hn0 hR;have hlt:i<kvs.length:=by omega
  obtain⟨p,hp⟩:∃p,kvs[i]?=some p:=⟨_,Yd hlt⟩;have hlen:=hacc.len;rw[WL,UP hi,YO] at hlen;refine WI UB ?_;rw[Wn WJ _];show wpAny _ A.in1 (pyNext (.ref it) >>= _) _ _ s;have htk:kvs.take (i+1)=kvs.take i++[p]:=by rw[List.take_add_one,hp]; rfl
  have go:∀key h',knd.is p.1 key=true->ItI h' it d (i+1) kvs.length ep->h'.get? s.heap.objs.size=some { cls:=.type "tuple",data:=.seq #[key,p.2] } ->
    (∀b o,b≠it->s.heap.get? b=some o->h'.get? b=some o) ->
    h'.get? S=some { cls:=.type "list",dict:=none,data:=.seq acc c,slots:=#[] }/\h'.DictAt knd d kvs ep/\PairsAt knd n0 h' (acc.toList++[.ref s.heap.objs.size]) (kvs.take (i+1)):=fun key h' e1 e2 e3 e4=>by
   refine⟨e4 _ _ hSi hS,hd.at fun o e=>e4 _ o hdi e,?_⟩;rw[htk];refine PairsAt.snoc e3 e1 hn0 (hacc.mono fun b o e hc=>e4 b o (fun z => ?_) e);obtain⟨o',e',c'⟩:=hst.cls;rw[z,e'] at e;cases e;rw[c'] at hc;exact absurd hc (by simp)
  have upd:∀(h':Heap) (X:Addr) (o:Obj),X≠S->h'.get? X=some o->(h'.update S (Obj.mapSeq (·.push (Value.ref s.heap.objs.size)))).get? X=some o:=fun h' X o hX e=>(W5 _ _ (YW hX)).trans e;have nS:∀{h':Heap} {X:Addr} {o:Obj},h'.get? S=some { cls:=.type "list",dict:=none,data:=.seq acc c,slots:=#[] }->h'.get? X=some o->o.cls≠.type "list"->X≠S:=fun {h' X o} e1 e2 hc z=>by
   rw[z,e1] at e2;cases e2;exact hc rfl
  have fin:∀key h',knd.is p.1 key=true->ItI h' it d (i+1) kvs.length ep->h'.get? s.heap.objs.size=some { cls:=.type "tuple",data:=.seq #[key,p.2] } ->
    (∀b o,b≠it->s.heap.get? b=some o->h'.get? b=some o)->h'.objs.size=s.heap.objs.size+1->codeAny (model prog w) A (.builtin "list.extend.loop" ⟨[.ref S,.ref it,res],[]⟩) R { s with heap:=h'.update S (Obj.mapSeq (·.push (Value.ref s.heap.objs.size))) }:=fun key h' e1 e2 e3 e4 e6=>by
   obtain⟨g1,g2,g3⟩:=go key h' e1 e2 e3 e4;have hS2:=YJ (Obj.mapSeq (·.push (Value.ref s.heap.objs.size))) g1 rfl;refine ih (i+1) _ (acc.push (.ref s.heap.objs.size)) _ (by omega) hlt ?_ (g2.at fun o e=>upd h' _ o hdS e) hS2 ?_ (by show n0<=(h'.update _ _).objs.size; rw[(Yy h' S _).1,e6]; omega) fun h2 acc' c' k2 hS3 hp2 => ?_
   ·rcases e2 with⟨z,_⟩ | ⟨a,oa,f1,ok,ov,x1,x2,x3⟩
    ·omega
    ·exact .inr ⟨a,oa,f1,ok,ov,upd h' _ _ (YW hSi) x1,upd h' _ _ (nS g1 x2 (by rw[x3]; simp)) x2,x3⟩
   ·rw[WX];exact g3.mono fun b o e hc=>upd h' b o (nS g1 e (by rw[hc]; simp)) e
   ·exact hR h2 acc' c' (fun b o b1 b2 e=>k2 b o b1 b2 (upd h' b o b1 (e4 b o b2 e))) hS3 hp2
  rcases hst with⟨h0,x⟩ | ⟨a,oa,f1,ok,ov,x,xa,xc⟩
  ·subst h0;refine Ya (wpAny_pyNext_items_item x hd hp fun key h' e1 e2 e3 e6 e5 => ?_);have e2':ItI h' it d (0+1) kvs.length ep:=.inr ⟨_,_,false,_,_,e2,e3,rfl⟩;obtain⟨g1,_⟩:=go key h' e1 e2' e3 e5;show wpAny _ A.in1 (updateSeq S (·.push (.ref s.heap.objs.size)) >>= _) _ _ _;refine Ya ?_;exact Qd g1 rfl (Yb ⟨QA WJ _,fin key h' e1 e2' e3 e5 e6⟩) (by rw[hlen]; omega) (by show (acc.push _).size<=sizeLine+1; rw[UQ,hlen]; omega)
  ·refine Ya (Zn0 x xa hd hp (fun z=>by rw[z] at xc; exact absurd xc (by simp)) fun key h' e1 e2 ea e3 e6 e5 => ?_);have e2':ItI h' it d (i+1) kvs.length ep:=.inr ⟨_,_,_,_,_,e2,ea,xc⟩;obtain⟨g1,_⟩:=go key h' e1 e2' e3 e5;show wpAny _ A.in1 (updateSeq S (·.push (.ref s.heap.objs.size)) >>= _) _ _ _;refine Ya ?_;exact Qd g1 rfl (Yb ⟨QA WJ _,fin key h' e1 e2' e3 e5 e6⟩) (by rw[hlen]; omega) (by show (acc.push _).size<=sizeLine+1; rw[UQ,hlen]; omega)
end
open PySem PyProof.Rows DL SO PySem.W
section
variable{prog:P4}{w:World}{K:Type}[DecidableEq K]{knd:KeyKind prog w K}{A:P3}{E:P6->P0->Prop}{s:P0}
theorem Zos{v:Addr}{Q:Bool->P0->Prop}(hT:s.TypeIs (.ref v) "dict_items")(h:Q false s):wpAny (model prog w) A (Builtin.List.listLengthHint (.ref v)) Q E s:=by
 unfold Builtin.List.listLengthHint;refine Ya (wpAny_specialOf hT PySem.F.slot_dict_items_len.lookup ?_);generalize hid:("dict_items.__len__" : String)=id0
 wp_delta
 rw[show splitId id0=some ("dict_items", "__len__") from by subst hid; decide +kernel];subst hid;refine Ya (WO (T:="dict_items") (b:=true) hT (by rw[Ui]; kernel_rfl) ?_);refine Wf (fun z=>absurd z (by decide)) (fun _ => ?_);exact Wf (fun _=>Ya (Q9 hT (Yb h))) (fun z=>absurd (by decide +kernel) z)
noncomputable abbrev H1v(h:Heap)(v d:Addr):Prop:=h.IsItemsView v d
theorem ZkJ{v d:Addr}{kvs:List (K×P6)}{ep:Nat}{R:List P6->P0->Prop}(hh:A.handled=none)(hn:kvs.length<=sizeLine)(hv:s.heap.IsItemsView v d)(hm:s.heap.DictAt knd d kvs ep)
  (h:∀(h':Heap) (vs:List P6),(∀b o,s.heap.get? b=some o->h'.get? b=some o)->s.heap.objs.size<h'.objs.size->PairsAt knd s.heap.objs.size h' vs kvs->R vs { s with heap:=h' }) :
  wpAny (model prog w) A (collect (.ref v)) R E s:=by
 unfold collect;refine Ya (wpAny_runValue (WI entry_proto_collect' ?_));rw[Wn Uo _];show wpAny _ A.in1 (newList [] >>= fun l=>again (.builtin "list.__iadd__" ⟨[l,.ref v],[]⟩)) _ _ s;refine Ya (YZ (Yb ⟨QA QU _,WI entry_list_iadd' ?_⟩));rw[Wn QU _];show wpAny _ A.in1 (Builtin.List.listExtendWith (.ref s.heap.objs.size) (.ref v) (.ref s.heap.objs.size)) _ _ _;generalize hoL:({ cls:=.type "list",data:=.seq ([]:List P6).toArray }:Obj)=oL;have hL:(s.heap.push oL).get? s.heap.objs.size=some { cls:=.type "list",data:=.seq #[] }:=by rw[Ym _ (by rw[<-hoL]; rfl),<-hoL]
 have k0:∀b o,s.heap.get? b=some o->(s.heap.push oL).get? b=some o:=fun b o e=>Yc _ e;have hsz:(s.heap.push oL).objs.size=s.heap.objs.size+1:=Y9 ..;have haS:v<s.heap.objs.size:=by obtain⟨o,e,_⟩:=hv; exact Yk e
 have hdl:d<s.heap.objs.size:=by obtain⟨o,_,e,_⟩:=hm; exact Yk e
 have hv1:H1v (s.heap.push oL) v d:=let ⟨o,e,r⟩:=hv; ⟨o,k0 _ _ e,r⟩
 have hm1:(s.heap.push oL).DictAt knd d kvs ep:=hm.at fun o e=>k0 _ o e;generalize s.heap.push oL=H1 at hL k0 hsz hv1 hm1;unfold Builtin.List.listExtendWith;refine Ya (Q9 (s:={ s with heap:=H1 }) (T:="dict_items") (Heap.IsItemsView.typeIs (s:={ s with heap:=H1 }) hv1) ?_);have h1:Builtin.List.listSameRef (.ref s.heap.objs.size) (.ref v)=false:=by
  have:s.heap.objs.size≠v:=WK haS;simp[Builtin.List.listSameRef,this]
 refine Wf (fun z => ?_) (fun _ => ?_)
 ·rw[h1] at z;exact absurd z (by decide)
 refine Ya (wpAny_pyIter_items (s:={ s with heap:=H1 }) hv1 hm1 ?_);have k2:∀b o,H1.get? b=some o->(H1.push { cls:=.type "dict_itemiterator",data:=.fields #[.none,.bool false,.ref d,.int 0 0,.int kvs.length 0,.int ep 0,.none,.none] }).get? b=some o:=fun b o e=>Yc _ e;have hit:IsItemIter (H1.push { cls:=.type "dict_itemiterator",data:=.fields #[.none,.bool false,.ref d,.int 0 0,.int kvs.length 0,.int ep 0,.none,.none] }) H1.objs.size d 0 kvs.length ep .none .none:=Ym _ rfl;have hsz2:(H1.push { cls:=.type "dict_itemiterator",data:=.fields #[.none,.bool false,.ref d,.int 0 0,.int kvs.length 0,.int ep 0,.none,.none] }).objs.size=H1.objs.size+1:=Y9 ..;generalize H1.push { cls:=.type "dict_itemiterator",data:=.fields #[.none,.bool false,.ref d,.int 0 0,.int kvs.length 0,.int ep 0,.none,.none] }=h2 at k2 hit hsz2;refine Ya (Y1 (Zos (s:={ s with heap:=h2 }) (let ⟨o,e,c,_⟩:=hv1; ⟨o,k2 _ _ e,c⟩) ?_));refine Wf (fun _ => ?_) (fun z=>absurd (by decide +kernel) z);refine Ya (Wz ?_);have hg2:=k2 _ _ hL;refine Ya ?_;show wpAny _ _ (updateSeq s.heap.objs.size (·.push .none) >>= fun _=>updateSeq s.heap.objs.size (·.pop)) _ _ _;refine Ya (Qd hg2 rfl ?_);have hg3:=YJ (Obj.mapSeq (·.push Value.none)) hg2 rfl;refine Qd (hz:=by seq_fits) hg3 rfl ?_;have hg4:=YJ (Obj.mapSeq (·.pop)) hg3 rfl;have k4:∀b o,b≠s.heap.objs.size->h2.get? b=some o->((h2.update s.heap.objs.size (Obj.mapSeq (·.push Value.none))).update s.heap.objs.size (Obj.mapSeq (·.pop))).get? b=some o:=fun b o hb e =>
  (W5 _ _ (YW hb)).trans ((W5 _ _ (YW hb)).trans e)
 refine Yb ⟨QA WJ _,?_⟩;have lt1:∀b,b<s.heap.objs.size->b≠H1.objs.size:=fun b hb=>Yr (hsz ▸ Qh hb);have hne:s.heap.objs.size≠H1.objs.size:=Yr (hsz ▸ VV _);refine Zo6 (n0:=s.heap.objs.size) (d:=d) (S:=s.heap.objs.size) (it:=H1.objs.size) (by simp[hh]) hn hne (lt1 d hdl) (Yr hdl) (kvs.length - 0) 0 _ #[] _ rfl (YT _) (.inl ⟨rfl,k4 _ _ (YW hne) hit⟩) (hm1.at fun o e=>k4 _ o (Yr hdl) (k2 _ o e)) hg4 trivial (by show s.heap.objs.size<=((h2.update _ _).update _ _).objs.size; rw[(Yy _ _ _).1,(Yy _ _ _).1,hsz2,hsz]; omega) fun h' acc c k3 hS hp => ?_;refine Ya (Uy (s:={ s with heap:=h' }) hS ?_);refine Yb ?_;exact h h' acc.toList (fun b o e=>k3 b o (Yr (Yk e)) (lt1 b (Yk e)) (k4 b o (Yr (Yk e)) (k2 _ _ (k0 _ _ e)))) (Yk hS) hp
end
end HT
end
section
namespace HT
open PySem PySem.W PyProof.Rows DL SO
section
variable{prog:P4}{w:World}{A:P3}{E:P6->P0->Prop}{s:P0}
theorem PairsAt.get{knd:KeyKind prog w L2.Key}{n0:Nat}{h:Heap}:∀{vs:List P6} {r:List (L2.Key×P6)},PairsAt knd n0 h vs r->∀{i:Nat} {p:L2.Key×P6},r[i]?=some p->∃b key,vs[i]?=some (.ref b)/\h.get? b=some { cls:=.type "tuple",data:=.seq #[key,p.2] }/\knd.is p.1 key=true/\n0<=b
 | [],[],_,i,p,e=>by simp at e
 | v :: vs,q :: r,x,0,p,e=>by
  simp only[YF,Yu] at e;subst e;obtain⟨b,key,e1,e2,e3,e4⟩:=x.1;exact⟨b,key,by rw[e1]; rfl,e2,e3,e4⟩
 | v :: vs,q :: r,x,i+1,p,e=>by
  rw[YL] at e ⊢;exact PairsAt.get x.2 e
 | [],_ :: _,x,_,_,_=>x.elim
 | _ :: _,[],x,_,_,_=>x.elim
def ZgA(kvs:List (L2.Key×P6)):Prop:=∀p∈kvs,∃n t,p.2 = .int n t
theorem Zkx{n0:Nat}{vs:List P6}{kvs:List (L2.Key×P6)}{ss:List Str}{a:Addr}(hp:PairsAt (L2.mixKind prog w) n0 s.heap vs kvs)(hks:kvs.map (·.1)=ss.map Sum.inr)(hn:ss.Nodup)(hi:ZgA kvs)(ha:∀b o,s.heap.get? b=some o->o.cls = .type "tuple"->b≠a) :
  CmpR prog w s a vs (tuples' true) (fun i j=>tltB (ss.getD i default) (ss.getD j default)):=by
 have hl:vs.length=kvs.length:=hp.len;have hls:kvs.length=ss.length:=by have:=congrArg List.length hks; simpa using this
 have at':∀g,KB s a g->∀i,i<vs.length->∃b x t v n u,vs[i]?=some (.ref b)/\g.get? b=some { cls:=.type "tuple",data:=.seq #[.str x t,v] }/\ss.getD i default=x/\v = .int n u/\ss[i]?=some x:=fun g hg i hiv=>by
  obtain⟨p,hpi⟩:∃p,kvs[i]?=some p:=⟨_,Yd (by omega)⟩;obtain⟨b,key,e1,e2,e3,_⟩:=hp.get hpi;obtain⟨n,u,e4⟩:=hi p (Wa hpi);have e6:(ss.map (Sum.inr (α:=Int)))[i]?=some p.1:=by rw[<-hks,Yw,hpi]; rfl
  rw[Yw] at e6;obtain⟨x,e5,e7⟩:=WC.mp e6;rw[<-e7] at e3;obtain⟨t,rfl⟩:=Zij (x:=x) e3;exact⟨b,x,t,p.2,n,u,e1,hg b _ (ha b _ e2 rfl) e2,by rw[Ye,e5]; rfl,e4,e5⟩
 refine⟨fun h2 g A E Q hg hQ => ?_,fun h2 g A E Q i j hu hg hi' hj' hQ => ?_,fun i j hi' hj' e => ?_⟩
 ·have T:∃fs,KatTups g vs fs/\fs.length=vs.length/\∀v∈fs,∃x t,v = .str x t:=by
   have go:∀(k:Nat) (l:List P6),l=vs.drop k->∃fs,KatTups g l fs/\fs.length=l.length/\∀v∈fs,∃x t,v = .str x t:=by
    intro k l
    induction l generalizing k with
    | nil=>exact fun _=>⟨[],trivial,rfl,fun v hv=>by cases hv⟩
    | cons x l ih =>
     intro e;have hkl:k<vs.length:=by
      have:=congrArg List.length e;simp at this;omega
     obtain⟨fs,f1,f2,f3⟩:=ih (k+1) (by rw[<-VB,<-e]; rfl);obtain⟨b,y,t,v,n,u,h1,h2,_⟩:=at' g hg k hkl;have hx:vs[k]?=some x:=by
      have:=congrArg (fun z=>z[0]?) e;simp at this;exact this.symm
     rw[h1] at hx;cases hx;refine⟨.str y t :: fs,KatTups.cons h2 rfl rfl rfl f1,by simp[f2],fun v hv => ?_⟩;rcases Yl.mp hv with rfl | hv
     ·exact⟨_,_,rfl⟩
     ·exact f3 v hv
   exact go 0 vs rfl
  obtain⟨fs,f1,f2,f3⟩:=T;refine kat_kind (T:=.type "str") f1 (by omega) (fun v hv => ?_) rfl hQ;obtain⟨x,t,rfl⟩:=f3 v hv;exact Looks.of_pure rfl
 ·obtain⟨b,x,t,v,n,u,h1,h2,h3,h4,h5⟩:=at' g hg i hi';obtain⟨b',x',t',v',n',u',h1',h2',h3',h4',h5'⟩:=at' g hg j hj';rw[Ye,Ye,h1,h1'];rw[h3,h3'] at hQ;subst h4 h4';refine kat_lt h2 rfl h2' rfl (kat_cons (wpAny_eqBool_str ?_));by_cases e1:x=x'
  ·rw[YS e1];have hij:i=j:=by
    rw[e1] at h5;have l1:i<ss.length:=by omega
    have l2:j<ss.length:=by omega
    rw[Yd l1] at h5;rw[Yd l2] at h5';exact (Qj hn).mp ((Option.some.inj h5).trans (Option.some.inj h5').symm)
   subst hij;rw[h1] at h1';cases h1';rw[h2] at h2';cases h2';refine kat_yes (kat_cons (VT ?_));rw[QM];refine kat_yes (kat_nil ?_);have:tltB x x=false:=by simp[tltB]
   rw[this] at hQ;simpa using hQ
  ·rw[YQ e1];exact kat_no (oneLt_str hQ)
 ·obtain⟨b,x,t,v,n,u,h1,h2,h3,h4,h5⟩:=at' s.heap (fun _ _ _ e=>e) i hi';obtain⟨b',x',t',v',n',u',h1',h2',h3',h4',h5'⟩:=at' s.heap (fun _ _ _ e=>e) j hj';rw[Ye,Ye,h1,h1'] at e;have eb:b=b':=by
   simp only[Option.getD_some,Value.ref.injEq] at e;exact e
  subst eb;rw[h2] at h2';simp only[Yu,Obj.mk.injEq,Data.seq.injEq,true_and,and_true] at h2';have ex:x=x':=by
   have:=congrArg (fun z=>z[0]?) h2';simp at this;exact this.1
  rw[<-ex] at h5';have l1:i<ss.length:=by omega
  have l2:j<ss.length:=by omega
  rw[Yd l1] at h5;rw[Yd l2] at h5';exact (Qj hn).mp ((Option.some.inj h5).trans (Option.some.inj h5').symm)
theorem ZlP{v d:Addr}{kvs:List (L2.Key×P6)}{ss:List Str}{ep:Nat}{Q:P6->P0->Prop}(hu:A.units+2<cLine)(hh:A.handled=none)(hv:s.heap.IsItemsView v d)(hm:s.heap.DictAt (L2.mixKind prog w) d kvs ep)(h64:kvs.length<128)(hks:kvs.map (·.1)=ss.map Sum.inr)(hn:ss.Nodup)(hi:ZgA kvs)
  (k:∀vs,∀p:List Nat,p.Perm (List.range kvs.length)->p.Pairwise (fun i j=>tltB (ss.getD i default) (ss.getD j default)=true)->∀b (h':Heap) c,(∀b o,s.heap.get? b=some o->h'.get? b=some o)->s.heap.objs.size<=b->PairsAt (L2.mixKind prog w) s.heap.objs.size h' vs kvs ->
   h'.get? b=some (seqObj "list" (p.map fun i=>vs.getD i .none).toArray c)->Q (.ref b) { s with heap:=h' }) :
  wpAny (model prog w) A (call (.builtin "sorted") [.ref v]) Q E s:=by
 refine Vr kind_sorted plain_sorted entry_sorted (args_sorted1 _) ?_;unfold Builtin.«sorted»;refine Ya (m:=checkCount "sorted" 1 1 _) (Yb ?_);refine Ya (ZkJ (by simp[hh]) (by rw[YN]; omega) hv hm fun h1 vs k1 hlt hp => ?_);have hl:vs.length=kvs.length:=hp.len;refine Ya (QX ?_ (by rw[YN]; omega));have hoL:(h1.push (seqObj "list" vs.toArray 0)).get? h1.objs.size=some (seqObj "list" vs.toArray 0):=Ym _ rfl;have keep:∀b o,h1.get? b=some o->(h1.push (seqObj "list" vs.toArray 0)).get? b=some o:=fun b o q=>Yc _ q;have le1:s.heap.objs.size<=h1.objs.size:=V6 hlt;show wpAny _ _ _ _ _ { s with heap:=h1.push (seqObj "list" vs.toArray 0) };generalize h1.push (seqObj "list" vs.toArray 0)=g at hoL keep;refine Ya (Y1 (YI slot_list_sort ⟨_,hoL,rfl⟩ entry_list_sort ?body (args_list_sort _)))
 case body =>
  have hpg:PairsAt (L2.mixKind prog w) s.heap.objs.size g vs kvs:=hp.mono fun b o e _=>keep b o e;refine ZpL (s:={ s with heap:=g }) (by show _<_; omega) hoL (by omega) (Zkx (s:={ s with heap:=g }) hpg hks hn hi fun b o e hc z => ?_) (by rw[hl,show kvs.length=ss.length by have:=congrArg List.length hks; simpa using this]; exact Zi6 hn) fun p hp' hpw h' c hb hc => ?_
  ·rw[z,hoL] at e;cases e;exact absurd hc (by simp[seqObj])
  ·refine⟨_,rfl,Yb ⟨_,rfl,?_⟩⟩;rw[hl] at hp';exact k vs p hp' hpw _ h' c (fun b o e=>hb b o (Yr (Yq (Yk e) le1)) (keep b o (k1 b o e))) le1 (hpg.mono fun b o e hc'=>hb b o (fun z=>by
    rw[z,hoL] at e;cases e;exact absurd hc' (by simp[seqObj])) e) hc
end
end HT
end
section
namespace L2
open PySem PySem.Spec PyProof.Rows
def Zap(H:Hp):List (Addr×HO)->Hp
 | []=>H
 | p :: r=>upd (Zap H r) p.1 p.2
theorem Za1{H:Hp}{b:Addr}:∀{news:List (Addr×HO)},(∀p∈news,p.1≠b)->Zap H news b=H b
 | [],_=>rfl
 | p :: r,h=>by
  show upd (Zap H r) p.1 p.2 b=_;rw[Zk (YW (h p Yz))];exact Za1 fun q hq=>h q (Yv _ hq)
theorem ZiK{H:Hp}{b:Addr}{o:HO}:∀{news:List (Addr×HO)},(news.map (·.1)).Nodup->(b,o)∈news->Zap H news b=some o
 | [],_,h=>by cases h
 | p :: r,hn,h=>by
  rw[Ys,WH] at hn;show upd (Zap H r) p.1 p.2 b=_;rcases Yl.mp h with e | h
  ·subst e;exact ZW
  ·rw[Zk (fun e=>hn.1 (by rw[<-e]; exact YX.mpr ⟨_,h,rfl⟩))];exact ZiK hn.2 h
theorem ZiY{H:Hp}{b:Addr}{o:HO}:∀{news:List (Addr×HO)},Zap H news b=some o->H b=some o/\(∀p∈news,p.1≠b)\/(b,o)∈news
 | [],h => .inl ⟨h,fun p hp=>by cases hp⟩
 | p :: r,h=>by
  by_cases e:b=p.1
  ·have h':upd (Zap H r) p.1 p.2 b=some o:=h;rw[e,ZW] at h';cases h';exact .inr (by rw[e]; exact Yz)
  ·have h':upd (Zap H r) p.1 p.2 b=some o:=h;rw[Zk e] at h';rcases ZiY h' with⟨h1,h2⟩ | h1
   ·exact .inl ⟨h1,fun q hq=>(Yl.mp hq).elim (fun z=>by rw[z]; exact YW e) (h2 q)⟩
   ·exact .inr (Yv _ h1)
theorem Inv.laidL{X:Cx}{pins:List (Addr×Obj)}{σ:St}{H:Hp}{s:P0}{h':Heap}{t':Nat}{news:List (Addr×HO)}(I:Inv X pins σ H s)(k:∀b u,s.heap.get? b=some u->h'.get? b=some u)(hp:∀p∈news,s.heap.objs.size<=p.1)
  (new:∀p∈news,ObjOk X.prog X.w (Zap H news) h' p.1 p.2):Inv X pins σ (Zap H news) { s with heap:=h',toks:=t' }:=by
 have old:∀{b:Addr} {u:HO},H b=some u->∀p∈news,p.1≠b:=fun {b u} e p hm z=>by
  have:=I.hok.fresh (hp p hm);rw[z,e] at this;cases this
 refine I.un ⟨fun b u q _ _ _=>k b u q,fun b u q _ _ _=>⟨u.slots,k b u q⟩,fun b u q n _ => ?_,fun b u q _=>⟨u,k b u q⟩,fun b xs q => ?_,fun b u xs q => ?_,fun b ps q=>⟨#[],?_⟩⟩ fun b u e => ?_
 ·rw[Za1 fun p hm=>YW (Yr (Yq (Yk q) (hp p hm)))];exact n
 ·rw[Za1 (old q)]; exact q
 ·rw[Za1 (old q)]; exact q
 ·rw[Za1 (old q),q]; simp
 ·rcases ZiY e with⟨h1,h2⟩ | h1
  ·exact (I.hok b u h1).stay (fun c v _ q=>k c v q) (fun c q=>by rw[Za1 (old q)]; exact q) fun c xs q=>by rw[Za1 (old q)]; exact q
  ·exact new _ h1
end L2
namespace DL
open PySem PySem.Spec PyProof.Rows L2 PySem.W SO HT
theorem Keep.laidL{K:P1}{O:List Addr}{H:Hp}:∀{news:List (Addr×HO)},(news.map (·.1)).Nodup->(∀p∈news,H p.1=none)->Keep K O H O (Zap H news)
 | [],_,_=>Keep.refl
 | p :: r,hn,h=>by
  rw[Ys,WH] at hn;refine (Keep.laidL hn.2 fun q hq=>h q (Yv _ hq)).trans (Keep.laid ?_);rw[Za1 fun q hq e=>hn.1 (by rw[<-e]; exact YX.mpr ⟨q,hq,rfl⟩)];exact h p Yz
theorem WR.laidL{K:P1}{O:List Addr}{H:Hp}{st:Sto}(W:WR K O H st):∀{news:List (Addr×HO)},(news.map (·.1)).Nodup->(∀p∈news,H p.1=none)->WR K O (Zap H news) st
 | [],_,_=>W
 | p :: r,hn,h=>by
  rw[Ys,WH] at hn;refine (WR.laidL W hn.2 fun q hq=>h q (Yv _ hq)).laid ?_;rw[Za1 fun q hq e=>hn.1 (by rw[<-e]; exact YX.mpr ⟨q,hq,rfl⟩)];exact h p Yz
def ZcP(ds:List (D×D))(x:Str):D:=.tup [.str x,(ZF Zx ds (.str x)).getD .non]
def Zd0(fo:DE):DA:=fun ρ st=>(fo ρ st).bind fun d st1=>match d with
 | .res i=>match st1[i]? with
  | some (.dct ds)=>match Zbd (ds.map (·.1)) with
   | some ss=>if ZO ds=true/\ss.Nodup/\ss.length<128 then .ok ((srtS ss).map (ZcP ds)) st1 else .bad
   | none => .bad
  | _ => .bad
 | _ => .bad
section
variable{prog:P4}{w:World}{A:P3}{E:P6->P0->Prop}{s:P0}
theorem Znb{d:Addr}{kvs:List (Key×P6)}{Q:P6->P0->Prop}(hd:(d == sysModules)=false)(hm:s.heap.DictOf (mixKind prog w) d kvs)
  (h:Q (.ref s.heap.objs.size) { s with heap:=s.heap.push { cls:=.type "dict_items",data:=.fields #[.ref d] } }):wpAny (model prog w) A (call (.builtin "dict.items") [.ref d]) Q E s:=by
 refine YI PySem.F.slot_dict_items hm.typeIs PySem.F.entry_dict_items ?_ (PySem.F.args_dict_items_1 _);unfold Builtin.«dict.items»;refine Ya ?_;unfold Builtin.Dict.noArgs;refine Ya (Ve hm.typeIs ?_);show wpAny _ _ (pure d) _ _ s;refine Yb ?_;show wpAny _ _ (Builtin.Dict.showsAll d >>= _) _ _ s;unfold Builtin.Dict.showsAll;rw[Yh (by rw[hd]; exact Qs)];refine Ya (Yb ?_);exact Ya (YZ (Yb ⟨_,rfl,h⟩))
end
theorem pairs_at{prog:P4}{w:World}{n0:Nat}{h:Heap}:∀{vs:List P6} {kvs:List (L2.Key×P6)},PairsAt (mixKind prog w) n0 h vs kvs->∃as:List Addr,vs=as.map Value.ref/\as.length=kvs.length/\∀(i:Nat) (a:Addr) (p:L2.Key×P6),as[i]?=some a->kvs[i]?=some p->n0<=a/\∃key,h.get? a=some { cls:=.type "tuple",data:=.seq #[key,p.2] }/\(mixKind prog w).is p.1 key=true
 | [],[],_=>⟨[],rfl,rfl,fun i a p e _=>by simp at e⟩
 | v :: vs,p :: r,x=>by
  obtain⟨as,e1,e2,e3⟩:=pairs_at x.2;obtain⟨b,key,f1,f2,f3,f4⟩:=x.1;refine⟨b :: as,by rw[f1,e1]; rfl,by simp[e2],fun i a q g1 g2 => ?_⟩;cases i with
  | zero =>
   simp only[YF,Yu] at g1 g2;subst g1 g2;exact⟨f4,key,f2,f3⟩
  | succ i =>
   rw[YL] at g1 g2;exact e3 i a q g1 g2
 | [],_ :: _,x=>x.elim
 | _ :: _,[],x=>x.elim
theorem ZjK:∀{ds:List (D×D)} {ss:List Str},ds.map (·.1)=ss.map D.str->ss.Nodup->∀{i:Nat} {x:Str} {q:D×D},ss[i]?=some x->ds[i]?=some q->ZF Zx ds (.str x)=some q.2
 | [],[],_,_,i,x,q,e,_=>by simp at e
 | [],_ :: _,e,_,_,_,_,_,_=>by cases e
 | _ :: _,[],e,_,_,_,_,_,_=>by cases e
 | p :: ds,y :: ss,e,hn,i,x,q,e1,e2=>by
  rw[Ys,Ys] at e;obtain⟨f1,f2⟩:=List.cons.inj e;rw[WH] at hn;show (if Zx p.1=Zx (.str x) then some p.2 else ZF Zx ds (.str x))=_;cases i with
  | zero =>
   simp only[YF,Yu] at e1 e2;subst e1 e2;rw[Yi (by rw[show p.1=D.str y from f1])]
  | succ i =>
   rw[YL] at e1 e2;rw[Yh,ZjK f2 hn.2 e1 e2];rw[show p.1=D.str y from f1];intro z;have:y=x:=by
    have z':some (Sum.inr y:L2.Key)=some (Sum.inr x):=z;exact Sum.inr.inj (Option.some.inj z')
   exact hn.1 (this ▸ Wa e1)
theorem Zj6{ds:List (D×D)}(h:ZO ds=true){p:D×D}(hp:p∈ds):∃i,p.2 = .int i:=by
 unfold ZO at h;rw[YB] at h;have:=h p hp;split at this
 ·rename_i i e;exact⟨i,e⟩
 ·cases this
theorem ZdO{K:P1}{O:List Addr}{H:Hp}{κ:Type}{f:D->Option κ}:∀{ds:List (D×D)} {vs:List (κ×V)},Kvs K f O H ds vs->vs.length=ds.length/\∀{i:Nat} {p:D×D} {q:κ×V},ds[i]?=some p->vs[i]?=some q->f p.1=some q.1/\Rep K O H p.2 q.2
 | [],vs,h=>by
  cases (show vs=[] from h);exact⟨rfl,fun {i p q} e _=>by simp at e⟩
 | (k,d) :: ds,vs,h=>by
  obtain⟨q,v,r,rfl,hk,hr,ht⟩:=(show ∃q v r,vs=(q,v) :: r/\f k=some q/\Rep K O H d v/\Kvs K f O H ds r from h);obtain⟨e1,e2⟩:=ZdO ht;refine⟨by simp[e1],fun {i p q'} g1 g2 => ?_⟩;cases i with
  | zero =>
   simp only[YF,Yu] at g1 g2;subst g1 g2;exact⟨hk,hr⟩
  | succ i =>
   rw[YL] at g1 g2;exact e2 g1 g2
theorem ZoN{kvs:List (L2.Key×V)}{vs:List (L2.Key×P6)}(r:KV kvs vs):∀{i:Nat} {p:L2.Key×V} {q:L2.Key×P6},kvs[i]?=some p->vs[i]?=some q->p.1=q.1/\RelV p.2 q.2:=by
 unfold KV at r
 induction r with
 | nil=>exact fun {i p q} e _=>by simp at e
 | cons h t ih =>
  intro i p q g1 g2;cases i with
  | zero =>
   simp only[YF,Yu] at g1 g2;subst g1 g2;exact h
  | succ i =>
   rw[YL] at g1 g2;exact ih g1 g2
section
variable{X:Cx}{EX:EXT}
theorem Zm4{o:Expr}{x:Str}{p pos apos cpos:Pos}{fo:DE}(hcalm:X.calm=true)(hu:X.A.units+64<cLine)(hg:Gl X x)(hm:X.mg x=none)(hv:bootBuiltins x=some (.builtin "sorted"))(ho:PD X EX o fo)
  (hn:x≠"__name__":=by decide) (hdb:(x == ("__debug__" : Str))=false:=by decide)
  (hbase:attributeBase o "items" X.env (eval o X.env)=eval o X.env:=by rfl) (hline:(apos.endLine == cpos.line)=true:=by rfl) :
  PDF X EX (.Call (.Name x p) [.Call (.Attribute o "items" apos) [] [] cpos] [] pos) (Zd0 fo):=by
 intro pins s σ H Q I h;refine W8 (ZaY I hg hm hv ?_ hn hdb);refine QY ?_ rfl rfl;show wpAny _ _ (spliced ((false,eval (.Call (.Attribute o "items" apos) [] [] cpos) X.env) :: backTo pos (starEach [] X.env))) _ _ s;refine Qn ?_;refine wpAny_Call_method0_late hbase hline (thn (ho pins s σ H (fun v H1 => ∃O d st,WR X.K O H1 st/\Rep X.K O H1 d v/\Run X.K EX O H1 (match d with
  | .res i=>match st[i]? with
   | some (.dct ds)=>match Zbd (ds.map (·.1)) with
    | some ss=>if ZO ds=true/\ss.Nodup/\ss.length<128 then .ok ((srtS ss).map (ZcP ds)) st else .bad
    | none => .bad
   | _ => .bad
  | _ => .bad) (New X.K Q)) I ?_) fun v s1 ⟨y,H1,I1,r1,O,d,st,W,rv,R⟩ => ?_)
 ·obtain⟨O,ρ,st,W,E,R⟩:=h;exact⟨O,ρ,st,W,E,R.bind.mono fun d st1 O1 H1 k1 W1 R1 v rv=>⟨O1,d,st1,W1,rv,R1⟩⟩
 split at R
 ·rename_i i;rw[Rep.res_i] at rv;obtain⟨a,rfl,q⟩:=rv;split at R
  ·rename_i ds hd;obtain⟨kvs,e2,kv⟩:=W.at_ _ _ _ q hd;split at R
   ·rename_i ss hss;have hds:=Zf6 hss;have hkeys:=ZhV kv hds;by_cases hc:ZO ds=true/\ss.Nodup/\ss.length<128
    ·rw[Yi hc] at R;obtain⟨hin,hnd,h128⟩:=hc;cases r1;obtain⟨z,hsm,ws,rel,hdo⟩:=ZbP I1.hok (.inl e2);have hdo':=hdo;obtain⟨ob,es,ep,g1,g2,g3,g4,g5,g6⟩:=hdo';have hwk:ws.map (·.1)=ss.map Sum.inr:=by rw[<-rel.keys]; exact hkeys
     have hlw:ws.length=ss.length:=by simpa using congrArg List.length hwk
     have hlk:kvs.length=ws.length:=rel.length;have hld:kvs.length=ds.length:=(ZdO kv).1;have at':∀i,i<ss.length->∃x q r u n t,ss[i]?=some x/\ds[i]?=some q/\kvs[i]?=some r/\ws[i]?=some u/\q.2 = .int n/\u.2 = .int n t/\u.1=Sum.inr x:=fun i hi=>by
      obtain⟨x,e1⟩:∃x,ss[i]?=some x:=⟨_,Yd hi⟩;obtain⟨q,e2⟩:∃x,ds[i]?=some x:=⟨_,Yd (by omega)⟩;obtain⟨r,e3⟩:∃x,kvs[i]?=some x:=⟨_,Yd (by omega)⟩;obtain⟨u,e4⟩:∃x,ws[i]?=some x:=⟨_,Yd (by omega)⟩;obtain⟨n,e5⟩:=Zj6 hin (Wa e2);obtain⟨f1,f2⟩:=(ZdO kv).2 e2 e3;obtain⟨f3,f4⟩:=ZoN rel e3 e4;rw[e5,Rep.int_i] at f2;rw[f2] at f4;obtain⟨t,e6⟩:∃t,u.2 = .int n t:=f4;have e7:(ws.map (·.1))[i]?=some u.1:=by rw[Yw,e4]; rfl
      rw[hwk,Yw,e1] at e7;exact⟨x,q,r,u,n,t,e1,e2,e3,e4,e5,e6,(Option.some.inj e7).symm⟩
     refine⟨"dict", "dict.items",PySem.F.plainAttrs_dict,PySem.F.slot_dict_items,PySem.F.type_dict_items,hdo.typeIs,hdo.mapOf.noDict,VN rfl (PySem.evalArgs_none (Znb hsm hdo ?_))⟩;refine Q7 ?_;have k0:∀b o,s1.heap.get? b=some o->(s1.heap.push { cls:=.type "dict_items",data:=.fields #[.ref a] }).get? b=some o:=fun b o e=>Yc _ e;have hvw:(s1.heap.push { cls:=.type "dict_items",data:=.fields #[.ref a] }).IsItemsView s1.heap.objs.size a:=⟨_,Ym _ rfl,rfl,rfl⟩;have hm1:(s1.heap.push { cls:=.type "dict_items",data:=.fields #[.ref a] }).DictAt (mixKind X.prog X.w) a ws ep:=⟨ob,es,k0 _ _ g1,g2,g3,g4,g5,g6⟩;have hsz:s1.heap.objs.size<=(s1.heap.push { cls:=.type "dict_items",data:=.fields #[.ref a] }).objs.size:=by rw[Y9]; omega
     generalize s1.heap.push { cls:=.type "dict_items",data:=.fields #[.ref a] }=h2 at k0 hvw hm1 hsz;refine ZlP (s:={ s1 with heap:=h2 }) (by show X.A.units+2<cLine; omega) (I1.ok.hd hcalm) hvw hm1 (by omega) hwk hnd (fun u hu' => ?_) fun vs ix hp hw b h' c k1 hb hpa hgb => ?_
     ·obtain⟨i,hi,hi2⟩:=Qf.mp hu';obtain⟨x,q,r,u',n,t,_,_,_,e4,_,e6,_⟩:=at' i (by omega);rw[Yd hi,hi2] at e4;cases e4;exact⟨n,t,e6⟩
     obtain⟨as,hvs,hal,hat⟩:=pairs_at hpa;have hix:ix.map (fun i=>ss.getD i default)=srtS ss:=by
      refine srtS_uniq ?_ (WY.mpr hw);refine (hp.map (fun i=>ss.getD i default)).trans (Vt ?_);refine Vh (by simp[hlw]) fun i h1 h2 => ?_;simp[Ye,Yd h2]
     have hbx:∀i∈ix,i<ss.length:=fun i hi=>by
      have:=hp.mem_iff.mp hi;rw[hlw] at this;simpa using this
     have tat:∀i,i<ss.length->∃c x t n u,as[i]?=some c/\as.getD i 0=c/\ss.getD i default=x/\ss[i]?=some x/\((kvs[i]?).map (·.2)).getD (.int 0) = .int n/\h2.objs.size<=c/\h'.get? c=some { cls:=.type "tuple",data:=.seq #[.str x t,.int n u] }/\ZF Zx ds (.str x)=some (.int n):=fun i hi=>by
      obtain⟨x,q,r,u,n,t,e1,e2,e3,e4,e5,e6,e7⟩:=at' i hi;obtain⟨c,f1⟩:∃x,as[i]?=some x:=⟨_,Yd (by omega)⟩;obtain⟨f2,key,f3,f4⟩:=hat i c u f1 e4;rw[e7] at f4;obtain⟨t',rfl⟩:=Zij (x:=x) f4;rw[e6] at f3;have f5:=((ZdO kv).2 e2 e3).2;rw[e5,Rep.int_i] at f5;have f6:=ZjK hds hnd e1 e2;rw[e5] at f6;exact⟨c,x,t',n,t,f1,by rw[Ye,f1]; rfl,by rw[Ye,e1]; rfl,e1,by rw[e3]; exact f5,f2,f3,f6⟩
     have lt0:∀c,h2.objs.size<=c->H1 c=none:=fun c hc=>I1.hok.fresh (YH hsz hc);generalize hT:(List.range ss.length).map (fun i=>(as.getD i 0,HO.tup [.str (ss.getD i default),((kvs[i]?).map (·.2)).getD (.int 0)]))=T;have hTm:∀p∈T,∃i,i<ss.length/\p=(as.getD i 0,HO.tup [.str (ss.getD i default),((kvs[i]?).map (·.2)).getD (.int 0)]):=fun p hp'=>by
      rw[<-hT] at hp';obtain⟨i,h1,h2⟩:=YX.mp hp';exact⟨i,by simpa using h1,h2.symm⟩
     have hTn:(T.map (·.1)).Nodup:=by
      rw[<-hT,Y0];refine WY.mpr ((UE (n:=ss.length)).imp_of_mem fun {i j} hi hj hij e=>hij ?_);obtain⟨c,x,t,n,u,f1,f2,f3,f4,f5,f6,f7,f8⟩:=tat i (by simpa using hi);obtain⟨c',x',t',n',u',f1',f2',f3',f4',f5',f6',f7',f8'⟩:=tat j (by simpa using hj);have e':as.getD i 0=as.getD j 0:=e;rw[f2,f2'] at e';subst e';rw[f7] at f7';simp only[Yu,Obj.mk.injEq,Data.seq.injEq,true_and,and_true] at f7';have ex:x=x':=by
       have:=congrArg (fun z=>z[0]?) f7';simp at this;exact this.1
      rw[<-ex] at f4';have l1:=(Yo.mp f4).1;have l2:=(Yo.mp f4').1;rw[Yd l1] at f4;rw[Yd l2] at f4';exact (Qj hnd).mp ((Option.some.inj f4).trans (Option.some.inj f4').symm)
     have hT0:∀p∈T,H1 p.1=none:=fun p hp'=>by
      obtain⟨i,hi,rfl⟩:=hTm p hp';obtain⟨c,x,t,n,u,f1,f2,f3,f4,f5,f6,f7,f8⟩:=tat i hi;show H1 (as.getD i 0)=none;rw[f2];exact lt0 c f6
     have hTb:∀p∈T,p.1≠b:=fun p hp'=>by
      obtain⟨i,hi,rfl⟩:=hTm p hp';obtain⟨c,x,t,n,u,f1,f2,f3,f4,f5,f6,f7,f8⟩:=tat i hi;show as.getD i 0≠b;rw[f2];rintro rfl;rw[hgb] at f7;simp[seqObj] at f7
     have kT:Keep X.K O H1 O (Zap H1 T):=Keep.laidL hTn hT0;have I2:Inv X pins σ (Zap H1 ((b,.lst (ix.map fun i=>V.ref (as.getD i 0))) :: T)) { s1 with heap:=h',toks:=s1.toks }:=by
      refine Inv.laidL I1 (fun c o e=>k1 c o (k0 c o e)) (fun p hp' => ?_) fun p hp' => ?_
      ·rcases Yl.mp hp' with rfl | hp'
       ·exact YH hsz hb
       ·obtain⟨i,hi,rfl⟩:=hTm p hp';obtain⟨c,x,t,n,u,f1,f2,f3,f4,f5,f6,f7,f8⟩:=tat i hi;show _<=as.getD i 0;rw[f2];exact YH hsz f6
      ·rcases Yl.mp hp' with rfl | hp'
       ·refine⟨?_,ix.map (fun i=>vs.getD i .none),c,Zdn ix fun i hi => ?_,hgb⟩
        ·have h0:=hp.length_eq;simp only[Yp,YV] at h0 ⊢;rw[YN];omega
        ·obtain⟨c,x,t,n,u,f1,f2,_⟩:=tat i (hbx i hi);rw[f2,hvs,Ye,Yw,f1];rfl
       ·obtain⟨i,hi,rfl⟩:=hTm p hp';obtain⟨c,x,t,n,u,f1,f2,f3,f4,f5,f6,f7,f8⟩:=tat i hi;show ObjOk _ _ _ _ (as.getD i 0) _;rw[f2];refine⟨by rw[YN]; simp,[.str x t,.int n u],.cons ?_ (.cons ?_ .nil),⟨_,f7,rfl,_,rfl⟩,fun o e => ?_⟩
        ·rw[f3]; exact⟨t,rfl⟩
        ·rw[f5]; exact⟨u,rfl⟩
        ·rw[f7] at e; cases e; rfl
     refine⟨.ref b,_,I2,rfl,?_⟩;have RR:=Run.now (k:=New X.K Q) (Run.later (r:=.ok ((srtS ss).map (ZcP ds)) st) R kT) (W.laidL hTn hT0);refine RR b _ ?_ ?_
     ·rw[<-hix,Y0];refine Zde ix fun i hi => ?_;obtain⟨c,x,t,n,u,f1,f2,f3,f4,f5,f6,f7,f8⟩:=tat i (hbx i hi);show Rep _ _ _ (ZcP ds (ss.getD i default)) _;unfold ZcP;rw[f3,f8];refine Rep.tup_i.mpr ⟨_,_,rfl,ZiK hTn (by rw[<-hT]; exact YX.mpr ⟨i,by simpa using hbx i hi,rfl⟩),?_⟩;rw[f3,f5];exact Reps.cons_i.mpr ⟨_,_,rfl,Rep.str_i.mpr rfl,Reps.one (Rep.int_i.mpr rfl)⟩
     ·rw[Za1 hTb];exact lt0 b hb
    ·rw[Yh hc] at R; exact R.elim
   ·exact R.elim
  ·exact R.elim
 ·exact R.elim
end
end DL
end
section
namespace SO
open PySem PySem.W PyProof.Rows
def okB{α:Type}(n:Nat)(lt:Nat->Nat->Bool)(q:α->Bool):KasT α->Bool
 | .ret a=>q a
 | .ask i j k=>decide (i<n) && (decide (j<n) && okB n lt q (k (lt i j)))
theorem ZjR{α:Type}{n:Nat}{lt lt':Nat->Nat->Bool}{q:α->Bool}(h:∀i j,i<n->j<n->lt i j=lt' i j):∀{t:KasT α},okB n lt q t=true->ok n lt' t (fun a=>q a=true)
 | .ret _,e=>e
 | .ask i j k,e=>by
  have e':(decide (i<n) && (decide (j<n) && okB n lt q (k (lt i j))))=true:=e;simp only[YE,YD] at e';obtain⟨h1,h2,h3⟩:=e';rw[h i j h1 h2] at h3;exact⟨h1,h2,ZjR h (t:=k _) h3⟩
def ltR(r:List Nat)(i j:Nat):Bool:=Nat.blt (r.getD i 0) (r.getD j 0)
def ltS(r:List Nat)(i j:Nat):Bool:=ltR r i j || (Nat.beq (r.getD i 0) (r.getD j 0) && Nat.blt i j)
def pwB(f:Nat->Nat->Bool):List Nat->Bool
 | []=>true
 | x :: l=>l.all (f x) && pwB f l
theorem Zhp{f:Nat->Nat->Bool}:∀{l:List Nat},pwB f l=true->l.Pairwise (fun i j=>f i j=true)
 | [],_ => .nil
 | x :: l,h=>by
  have h':(l.all (f x) && pwB f l)=true:=h;simp only[YE,YB] at h';exact .cons h'.1 (Zhp h'.2)
def Ze5(n:Nat)(r:List Nat)(p:Array Nat):Bool:=p.toList.isPerm (List.range n) && pwB (ltS r) p.toList
def chk(n:Nat)(r:List Nat):Bool:=okB n (ltR r) (Ze5 n r) (kas_sort n)
def all4:List Nat:=[0,1,2,3]
theorem Zlq:(all4.all fun a=>all4.all fun b=>chk 2 [a,b])=true:=by decide +kernel
theorem ZpS:(all4.all fun a=>all4.all fun b=>all4.all fun c=>chk 3 [a,b,c])=true:=by decide +kernel
theorem Zn7:(all4.all fun a=>all4.all fun b=>all4.all fun c=>all4.all fun d=>chk 4 [a,b,c,d])=true:=by decide +kernel
def rkI(ks:List Int)(x:Int):Nat:=(ks.filter fun y=>decide (y<x)).length
theorem ZeW(x y:Int)(h:x<=y):∀ks:List Int,rkI ks x<=rkI ks y
 | []=>Yj _
 | z :: ks=>by
  have ih:=ZeW x y h ks;unfold rkI at *;rw[WB,WB];by_cases h1:z<x
  ·have h2:z<y:=by omega
   simp only[h1,h2,Um,Wq,Yx];omega
  ·by_cases h2:z<y
   ·simp only[h1,h2,Uc,Um,Wq,YG,Wc,Yx];omega
   ·simp only[h1,h2,Uc,YG,Wc];exact ih
theorem ZdB{x y:Int}(h:x<y):∀{ks:List Int},x∈ks->rkI ks x<rkI ks y
 | z :: ks,hx=>by
  have hle:=ZeW x y (by omega) ks;unfold rkI at *;rw[WB,WB];by_cases h0:z=x
  ·subst h0;simp only[h,Int.lt_irrefl,Uc,Um,Wq,YG,Wc,Yx];omega
  ·have hx':x∈ks:=(Yl.mp hx).elim (fun e=>absurd e.symm h0) id;have ih:=ZdB h hx';unfold rkI at ih;by_cases h1:z<x
   ·have h2:z<y:=by omega
    simp only[h1,h2,Um,Wq,Yx];omega
   ·by_cases h2:z<y
    ·simp only[h1,h2,Uc,Um,Wq,YG,Wc,Yx];omega
    ·simp only[h1,h2,Uc,YG,Wc];exact ih
theorem ZqB{ks:List Int}{x:Int}(h:x∈ks):rkI ks x<ks.length:=by
 unfold rkI;refine Nat.lt_of_le_of_ne (V4 _ _) fun e => ?_;have:=List.length_filter_eq_length_iff.mp e x h;simp at this
def rks(ks:List Int):List Nat:=ks.map (rkI ks)
theorem Zd5{ks:List Int}{i:Nat}(h:i<ks.length):(rks ks).getD i 0=rkI ks (ks.getD i 0)/\ks.getD i 0∈ks:=by
 unfold rks;rw[Ye,Yw,Ye,Yd h];exact⟨rfl,Qk h⟩
theorem Zjl{ks:List Int}{i j:Nat}(hi:i<ks.length)(hj:j<ks.length):ltR (rks ks) i j=decide (ks.getD i 0<ks.getD j 0):=by
 obtain⟨e1,m1⟩:=Zd5 hi;obtain⟨e2,m2⟩:=Zd5 hj;unfold ltR;rw[e1,e2];by_cases h:ks.getD i 0<ks.getD j 0
 ·rw[YS h];exact Nat.blt_eq.mpr (ZdB h m1)
 ·rw[YQ h];cases q:Nat.blt (rkI ks (ks.getD i 0)) (rkI ks (ks.getD j 0)) with
  | false=>rfl
  | true =>
   have:=Nat.blt_eq.mp q;have:=ZeW (ks.getD j 0) (ks.getD i 0) (by omega) ks;omega
def ltK(ks:List Int)(i j:Nat):Prop:=ks.getD i 0<ks.getD j 0\/ks.getD i 0=ks.getD j 0/\i<j
theorem ZkZ{ks:List Int}{i j:Nat}(hi:i<ks.length)(hj:j<ks.length)(h:ltS (rks ks) i j=true):ltK ks i j:=by
 unfold ltS at h;rw[Zjl hi hj] at h;obtain⟨e1,m1⟩:=Zd5 hi;obtain⟨e2,m2⟩:=Zd5 hj;rcases Q0 _ _ ▸ h with h | h
 ·exact .inl (WV h)
 ·rw[YE] at h;have h1:=Nat.eq_of_beq_eq_true h.1;rw[e1,e2] at h1;have h2:=Nat.blt_eq.mp h.2;refine .inr ⟨?_,h2⟩;rcases Int.lt_trichotomy (ks.getD i 0) (ks.getD j 0) with z | z | z
  ·have:=ZdB z m1;omega
  ·exact z
  ·have:=ZdB z m2;omega
theorem ZmO{ks:List Int}(h2:2<=ks.length)(h4:ks.length<=4):chk ks.length (rks ks)=true:=by
 have hm:∀x∈rks ks,x∈all4:=fun x hx=>by
  unfold rks at hx;obtain⟨y,h1,rfl⟩:=YX.mp hx;have:=ZqB h1;have:rkI ks y<4:=by omega
  generalize rkI ks y=z at this;unfold all4;simp only[Yl,YC,Wg];omega
 have hl:(rks ks).length=ks.length:=by simp[rks]
 generalize rks ks=r at hm hl;rw[<-hl]
 match r,hl with
 | [],hl=>simp at hl; omega
 | [_],hl=>simp at hl; omega
 | [a,b],_=>exact YB.mp (YB.mp Zlq a (hm a (by simp))) b (hm b (by simp))
 | [a,b,c],_=>exact YB.mp (YB.mp (YB.mp ZpS a (hm a (by simp))) b (hm b (by simp))) c (hm c (by simp))
 | [a,b,c,d],_=>exact YB.mp (YB.mp (YB.mp (YB.mp Zn7 a (hm a (by simp))) b (hm b (by simp))) c (hm c (by simp))) d (hm d (by simp))
 | _ :: _ :: _ :: _ :: _ :: _,hl=>simp at hl; omega
theorem ZoX{ks:List Int}(h2:2<=ks.length)(h4:ks.length<=4):ok ks.length (fun i j=>decide (ks.getD i 0<ks.getD j 0)) (kas_sort ks.length) (fun p=>Al ks.length p/\p.toList.Pairwise (ltK ks)):=by
 refine Zbo (Q:=fun p=>Ze5 ks.length (rks ks) p=true) (fun p h => ?_) (ZjR (lt:=ltR (rks ks)) (fun i j hi hj=>Zjl hi hj) (ZmO h2 h4));unfold Ze5 at h;rw[YE] at h;have hA:Al ks.length p:=List.isPerm_iff.mp h.1;refine⟨hA,(Zhp h.2).imp_of_mem fun {i j} hi hj e=>ZkZ ?_ ?_ e⟩
 ·have:=hA.mem_iff.mp hi;simpa using this
 ·have:=hA.mem_iff.mp hj;simpa using this
end SO
end
section
namespace SO
open PySem PySem.W PyProof.Rows
section
variable{prog:P4}{w:World}{A:P3}{E:P6->P0->Prop}{s:P0}
def ZdT(prog:P4)(w:World)(A:P3)(s:P0)(h0:Heap)(f:P6)(v:P6)(n:Int):Prop :=
 ∀(g:Heap) (tk:Nat) (Q:P6->P0->Prop),(∀b o,h0.get? b=some o->g.get? b=some o)->(∀h' tk' t,(∀b o,g.get? b=some o->h'.get? b=some o)->Q (.int n t) { s with heap:=h',toks:=tk' })->wpAny (model prog w) A (call f [v]) Q (fun _ _=>False) { s with heap:=g,toks:=tk }
noncomputable abbrev KB2(h0:Heap)(a kS:Addr)(g:Heap):Prop:=∀b o,b≠a->b≠kS->h0.get? b=some o->g.get? b=some o
theorem Zik{h0:Heap}{a kS:Addr}{e1:Nat}{f:P6}{body:P6->PUnit->Sem (ForInStep PUnit)}(hka:kS≠a)(h0a:h0.get? a=none)(h0k:h0.get? kS=none)
  (hb:∀x ks e g tk (n:Int),List.length ks<64->g.get? kS=some (seqObj "list" (List.toArray ks) e)->wpAny (model prog w) A (call f [x]) (fun v s' => ∃h' tk' t,v = .int n t/\s' = { s with heap:=h',toks:=tk' }/\∀b o,g.get? b=some o->h'.get? b=some o) (fun _ _=>False) { s with heap:=g,toks:=tk } ->
   wpAny (model prog w) A (body x ⟨⟩) (fun r s'=>r = .yield ⟨⟩/\∃h' tk' t c,s' = { s with heap:=h',toks:=tk' }/\h'.get? kS=some (seqObj "list" (List.toArray (ks++[.int n t])) c)/\∀b o,b≠kS->g.get? b=some o->h'.get? b=some o) E { s with heap:=g,toks:=tk }) :
  ∀(r:List P6) (ns:List Int) (ks:List P6) (ms:List Int) (e:Nat) (g:Heap) (tk:Nat),Paired (ZdT prog w A s h0 f) r ns->ks.length+r.length<64->IntsAre ks ms->KB2 h0 a kS g->g.get? kS=some (seqObj "list" (List.toArray ks) e)->g.get? a=some (seqObj "list" #[] e1) ->
   wpAny (model prog w) A (forIn r PUnit.unit body) (fun _ s' => ∃ks' e' g' tk',s' = { s with heap:=g',toks:=tk' }/\IntsAre ks' (ms++ns)/\KB2 h0 a kS g'/\g'.get? kS=some (seqObj "list" (List.toArray ks') e')/\g'.get? a=some (seqObj "list" #[] e1)) E { s with heap:=g,toks:=tk }
 | [],ns,ks,ms,e,g,tk,hp,hl,hi,hk,hS,ha=>by
  cases hp;rw[UR];refine Yb ⟨ks,e,g,tk,rfl,by rw[Qt]; exact hi,hk,hS,ha⟩
 | x :: r,ns,ks,ms,e,g,tk,hp,hl,hi,hk,hS,ha=>by
  cases hp with
  | @cons _ n _ ns hx hp =>
  rw[Yx] at hl;rw[V9];have old:∀b o,h0.get? b=some o->g.get? b=some o:=fun b o q=>hk b o (fun z=>by rw[z,h0a] at q; cases q) (fun z=>by rw[z,h0k] at q; cases q) q;refine Ya (YM (hb x ks e g tk n (by omega) hS (hx g tk _ old fun h' tk' t k1=>⟨h',tk',t,rfl,rfl,k1⟩)) (fun q s' hq => ?_) fun _ _ x=>x);obtain⟨rfl,h',tk',t,c,rfl,hS',hkp⟩:=hq;show wpAny (model prog w) A (forIn r PUnit.unit body) _ E _;have hi':IntsAre (ks++[.int n t]) (ms++[n]):=by
   have:∀{ks:List P6} {ms:List Int},IntsAre ks ms->IntsAre (ks++[.int n t]) (ms++[n]):=fun {ks ms} h=>by
    induction h with
    | nil=>exact .cons n t .nil
    | cons a b h ih=>exact .cons a b ih
   exact this hi
  have rr:=Zik (e1:=e1) hka h0a h0k hb r ns (ks++[.int n t]) (ms++[n]) c h' tk' hp (by simp; omega) hi' (fun b o h1 h2 q=>hkp b o h2 (hk b o h1 h2 q)) hS' (hkp a _ (YW hka) ha);rw[Ws] at rr;exact rr
theorem ints_get{vs:List P6}{ns:List Int}(h:IntsAre vs ns):vs.length=ns.length/\∀i,i<vs.length->∃t,vs.getD i .none = .int (ns.getD i 0) t:=by
 induction h with
 | nil=>exact⟨rfl,fun i hi=>by simp at hi⟩
 | cons n t h ih =>
  refine⟨by simp[ih.1],fun i hi => ?_⟩;cases i with
  | zero=>exact⟨t,rfl⟩
  | succ i =>
   obtain⟨u,e⟩:=ih.2 i (by simpa using hi);exact⟨u,by simpa using e⟩
theorem Zic{h0 g:Heap}{a kS:Addr}{e e1:Nat}{ks out:List P6}{st:SortSt}{tk:Nat}{P:PySem.Fin->P0->Prop}(hka:kS≠a)(h0a:h0.get? a=none)(h0k:h0.get? kS=none)(hk:KB2 h0 a kS g)(hS:g.get? kS=some (seqObj "list" (List.toArray ks) e))(ha:g.get? a=some (seqObj "list" #[] e1))(hl:ks.length<64)
  (hout:(arrOf st).map (·.2)=List.toArray out) (hz:out.length<64) (hf:failedOf st=none)
  (k:∀h' c,(∀b o,h0.get? b=some o->h'.get? b=some o)->h'.get? a=some (seqObj "list" out.toArray c)->P (.done (.ret .none)) { s with heap:=h',toks:=tk }) :
  wpAny (model prog w) A (ksk_tail a false e1 (.ref kS) st) P E { s with heap:=g,toks:=tk }:=by
 have s1:=Yy g kS (Obj.mapSeq fun _=>(#[]:Array P6));have ha1:(g.update kS (Obj.mapSeq fun _=>(#[]:Array P6))).get? a=some (seqObj "list" #[] e1):=s1.extBut _ _ (YW hka) ha;have s2:=Yy (g.update kS (Obj.mapSeq fun _=>(#[]:Array P6))) a (Obj.mapSeq fun _=>List.toArray out);unfold ksk_tail
 try dsimp only
 rw[hout];refine Ya (Qz (s:={ s with heap:=g,toks:=tk }) hS rfl ?_ (by rw[Yn,YN]; omega) (YT _));refine Ya (wpAny_letGo ?_);refine Ya (VO (s:={ s with heap:=g.update kS (Obj.mapSeq fun _=>(#[]:Array P6)),toks:=tk }) ha1 rfl ?_);refine Ya (Qz (s:={ s with heap:=g.update kS (Obj.mapSeq fun _=>(#[]:Array P6)),toks:=tk }) ha1 rfl ?_ (YT _) (YH (Nat.le_of_eq (Yn ..)) (by rw[YN]; omega)));rw[hf];simp only[Uv,YG,Wc];refine Yb (k _ _ (fun b o q => ?_) (Qu ha1 fun _=>List.toArray out));have hba:b≠a:=fun z=>by rw[z,h0a] at q; cases q
 have hbk:b≠kS:=fun z=>by rw[z,h0k] at q; cases q
 exact s2.extBut b o hba (s1.extBut b o hbk (hk b o hba hbk q))
theorem ZkC{a q:Addr}{vs:List P6}{ns:List Int}{n0:Nat}{P:PySem.Fin->P0->Prop}{h0:Heap}(ho:s.heap.get? a=some (seqObj "list" vs.toArray n0))(h4:vs.length<=4)(hln:vs.length=ns.length)(hp:Paired (ZdT prog w A s h0 (.ref q)) vs ns)
  (h0a:h0.get? a=none) (h0s:h0.objs.size<=s.heap.objs.size) (h0k:∀b o,h0.get? b=some o->s.heap.get? b=some o)
  (k:∀p:List Nat,p.Perm (List.range vs.length)->p.Pairwise (ltK ns)->∀h' tk c,(∀b o,h0.get? b=some o->h'.get? b=some o)->h'.get? a=some (seqObj "list" (p.map fun i=>vs.getD i .none).toArray c)->P (.done (.ret .none)) { s with heap:=h',toks:=tk }) :
  wpAny (model prog w) A (ksk_tree a (.ref q) false) P E s:=by
 have ha:a<s.heap.objs.size:=Yk ho;have s1:=Yy s.heap a (Obj.mapSeq fun _=>(#[]:Array P6));obtain⟨e1,ho1⟩:∃e1,(s.heap.update a (Obj.mapSeq fun _=>(#[]:Array P6))).get? a=some (seqObj "list" #[] e1):=⟨_,Qu ho fun _ => #[]⟩;have hkS:((s.heap.update a (Obj.mapSeq fun _=>(#[]:Array P6))).push (seqObj "tuple" vs.toArray 0)).objs.size=s.heap.objs.size+1:=by rw[size_push',UF]
 unfold ksk_tree;refine Ya (listItems_at ho rfl ?_);refine Ya (Qz ho rfl ?_ (by rw[Yn,YN]; omega) (YT _));refine Ya (VO ho1 rfl ?_);refine Ya (Vc ?_ (by show vs.length<=_; rw[YN]; omega));refine Ya (QX ?_ (YT _));refine Y1 ?_;show wpAny (model prog w) A (ksk_rest a (.ref q) false vs.toArray e1 (.ref ((s.heap.update a (Obj.mapSeq fun _=>(#[]:Array P6))).push (seqObj "tuple" vs.toArray 0)).objs.size)) P E { s with heap:=((s.heap.update a (Obj.mapSeq fun _=>(#[]:Array P6))).push (seqObj "tuple" vs.toArray 0)).push (seqObj "list" #[] 0) };have hS0:(((s.heap.update a (Obj.mapSeq fun _=>(#[]:Array P6))).push (seqObj "tuple" vs.toArray 0)).push (seqObj "list" #[] 0)).get? ((s.heap.update a (Obj.mapSeq fun _=>(#[]:Array P6))).push (seqObj "tuple" vs.toArray 0)).objs.size=some (seqObj "list" (List.toArray []) 0):=Ym _ rfl;have ha0:(((s.heap.update a (Obj.mapSeq fun _=>(#[]:Array P6))).push (seqObj "tuple" vs.toArray 0)).push (seqObj "list" #[] 0)).get? a=some (seqObj "list" #[] e1):=Yc _ (Yc _ ho1);have hk0:KB2 h0 a ((s.heap.update a (Obj.mapSeq fun _=>(#[]:Array P6))).push (seqObj "tuple" vs.toArray 0)).objs.size (((s.heap.update a (Obj.mapSeq fun _=>(#[]:Array P6))).push (seqObj "tuple" vs.toArray 0)).push (seqObj "list" #[] 0)):=fun b o h1 h2 e =>
  Yc _ (Yc _ (s1.extBut b o h1 (h0k b o e)))
 generalize ((s.heap.update a (Obj.mapSeq fun _=>(#[]:Array P6))).push (seqObj "tuple" vs.toArray 0)).push (seqObj "list" #[] 0)=g0 at hS0 ha0 hk0;rw[hkS] at hS0 hk0 ⊢;have hka:s.heap.objs.size+1≠a:=fun z=>by rw[<-z] at ha; exact absurd ha (Nat.not_lt.mpr (Qc _))
 have h0S:h0.get? (s.heap.objs.size+1)=none:=V7 (Nat.le_succ_of_le h0s);generalize s.heap.objs.size+1=kS at hS0 hk0 hka h0S;unfold ksk_rest;refine Ya (Wz ?_)
 first
  | rw[List.forIn_toArray]
  | (rw[<-Array.forIn_toList]; simp only[List.toList_toArray])
  | rw[<-Array.forIn_toList]
 refine Ya (YM (Zik (A:=A) (E:=E) (s:=s) (h0:=h0) (a:=a) (kS:=kS) (e1:=e1) (f:=.ref q) hka h0a h0S ?hb vs ns [] [] 0 g0 s.toks hp (by simp; omega) .nil hk0 hS0 ha0) (fun _ s' hd => ?_) fun _ _ x=>x)
 case hb =>
  intro x ks e g tk n hl hS hc;refine Ya (W6 (YM hc (fun v s'' hv => ?_) fun _ _ hF=>hF.elim));obtain⟨h',tk',t,rfl,rfl,hkp⟩:=hv;have hS':=hkp _ _ hS;have ea:(List.toArray ks).push (Value.int n t)=List.toArray (ks++[.int n t]):=by simp
  have s2:=Yy h' kS (Obj.mapSeq (·.push (Value.int n t)));obtain⟨c2,hc2⟩:∃c2,(h'.update kS (Obj.mapSeq (·.push (Value.int n t)))).get? kS=some (seqObj "list" (List.toArray (ks++[.int n t])) c2):=⟨_,by rw[<-ea]; exact Qu hS' (·.push (Value.int n t))⟩
  try dsimp only
  refine Ya (Qz (s:={ s with heap:=h',toks:=tk' }) hS' rfl ?_ (by rw[Yn,YN]; omega) (YH (Nat.le_of_eq (UQ ..)) (by rw[Yn,YN]; omega)));exact Yb ⟨rfl,_,tk',t,c2,rfl,hc2,fun b o hb e=>s2.extBut b o hb (hkp b o e)⟩
 obtain⟨ks,e,g,tk,rfl,hi,hkg,hS,hga⟩:=hd;rw[Vs] at hi;obtain⟨hlk,hget⟩:=ints_get hi
 try dsimp only
 refine Ya (listItems_at (s:={ s with heap:=g,toks:=tk }) hS rfl ?_);unfold ksk_end;simp only[YG,Wc];by_cases h2:vs.length<2
 ·have hn2:vs.toArray.size<2:=by rw[Yn]; omega
  rw[Yi hn2,Yi hn2];refine Ya (Yb (Ya (Yb ?_)));have hm:(arrOf (SortSt.mk' general' ((List.toArray ks).zip vs.toArray) #[] 7 none)).map (·.2)=List.toArray ((List.range vs.length).map fun i=>vs.getD i Value.none):=by
   show ((List.toArray ks).zip vs.toArray).map (·.2)=_
   match vs,ks,h2,(show ks.length=vs.length by omega) with
   | [],[],_,_=>simp
   | [v],[u],_,_=>simp[Vq]
  have hpw:(List.range vs.length).Pairwise (ltK ns):=by
   match vs,h2 with
   | [],_=>exact .nil
   | [v],_=>exact VG _ _
  exact Zic hka h0a h0S hkg hS hga (by omega) hm (by simp; omega) rfl fun h' c kp hc=>k _ (List.Perm.refl _) hpw h' tk c kp hc
 ·have hn2:¬ vs.toArray.size<2:=by rw[Yn]; omega
  rw[Yh hn2,Yh hn2];have hkk:keyKind' (List.toArray ks)=pure oneType':=by
   match ks,hi,(show 2<=ks.length by omega) with
   | v1 :: v2 :: r,hi,_=>exact keyKind_ints hi
  refine Ya ?_;rw[hkk];refine Yb ?_;have hl2:ks.length=vs.length:=by omega
  refine Ya (YM (kat_run (κ:=oneType') (ks:=ks) (vs:=vs) (G:=fun p s'=>(Al vs.length p/\p.toList.Pairwise (ltK ns))/\s' = { s with heap:=g,toks:=tk }) (Q:=fun st' s' => ∃p:Array Nat,arrOf st'=p.map (kas_item ((List.toArray ks).zip vs.toArray))/\failedOf st'=none/\(Al vs.length p/\p.toList.Pairwise (ltK ns))/\s' = { s with heap:=g,toks:=tk })
   hl2 (by omega) (by omega) (fun p st' s' _ h1 h2 h3=>⟨p,h1,h2,h3⟩) ?_) ?_ fun _ _ e=>e)
  ·have S4:=ZoX (ks:=ns) (by omega) (by omega);rw[<-hln] at S4;refine ZfL (Q:=fun p=>Al vs.length p/\p.toList.Pairwise (ltK ns)) (fun i j D hi' hj' hD => ?_) (fun p z=>⟨z,rfl⟩) S4;obtain⟨t1,e1'⟩:=hget i (by omega);obtain⟨t2,e2'⟩:=hget j (by omega);unfold kas_ask;rw[e1',e2'];exact kat_lt_int hD
  ·rintro⟨⟨⟩,st'⟩ s' ⟨p,har,hf,⟨hA,hW⟩,rfl⟩;dsimp only;refine Zic hka h0a h0S hkg hS hga (by omega) (kat_snds hl2 har) ?_ hf fun h' c kp hc=>k _ hA hW h' tk c kp hc;rw[Yp,hA.length_eq,YV];omega
theorem Zl6{l q:Addr}{vs:List P6}{ns:List Int}{Q:P6->P0->Prop}(hl:s.heap.IsList l vs.toArray)(h4:vs.length<=4)(hln:vs.length=ns.length)(hp:Paired (ZdT prog w A.in1.in1 s s.heap (.ref q)) vs ns)
  (k:∀p:List Nat,p.Perm (List.range vs.length)->p.Pairwise (ltK ns)->∀a h' tk c,s.heap.objs.size<=a->(∀b o,s.heap.get? b=some o->h'.get? b=some o)->h'.get? a=some (seqObj "list" (p.map fun i=>vs.getD i .none).toArray c)->Q (.ref a) { s with heap:=h',toks:=tk }) :
  wpAny (model prog w) A (call (.builtin "sorted") [.ref l] [(Str.ofString "key",.ref q)]) Q E s:=by
 refine call_function_entry_kw kind_sorted plain_sorted entry_sorted (ksk_s1 _ _) ?_;unfold Builtin.«sorted»;refine Ya (m:=checkCount "sorted" 1 1 _) (Yb ?_);refine Ya (collect_list hl ?_ (by rw[YN]; omega));refine Ya (QX ?_ (by rw[YN]; omega));have hsz:((s.heap.push (seqObj "list" #[] 0)).update s.heap.objs.size (Obj.mapSeq (· ++ vs.toArray))).objs.size=s.heap.objs.size+1:=by
  rw[UF,size_push']
 have hoL:(((s.heap.push (seqObj "list" #[] 0)).update s.heap.objs.size (Obj.mapSeq (· ++ vs.toArray))).push (seqObj "list" vs.toArray 0)).get? (s.heap.objs.size+1)=some (seqObj "list" vs.toArray 0):=by
  rw[<-hsz]; exact Ym _ rfl
 have keep:∀b o,s.heap.get? b=some o->(((s.heap.push (seqObj "list" #[] 0)).update s.heap.objs.size (Obj.mapSeq (· ++ vs.toArray))).push (seqObj "list" vs.toArray 0)).get? b=some o:=fun b o q=>by
  have hlt:b<s.heap.objs.size:=Yk q;rw[VH _ _ _ (by rw[hsz]; exact Yr (Qh hlt)),Heap.get?_update_ne _ _ _ _ (Yr hlt),VH _ _ _ (Yr hlt)];exact q
 have hsz2:s.heap.objs.size<=(((s.heap.push (seqObj "list" #[] 0)).update s.heap.objs.size (Obj.mapSeq (· ++ vs.toArray))).push (seqObj "list" vs.toArray 0)).objs.size:=by rw[size_push',hsz]; omega
 show wpAny _ _ _ _ _ { s with heap:=((s.heap.push (seqObj "list" #[] 0)).update s.heap.objs.size (Obj.mapSeq (· ++ vs.toArray))).push (seqObj "list" vs.toArray 0) };rw[hsz];generalize ((s.heap.push (seqObj "list" #[] 0)).update s.heap.objs.size (Obj.mapSeq (· ++ vs.toArray))).push (seqObj "list" vs.toArray 0)=g at hoL keep hsz2;refine Ya (Y1 (wpAny_call_entry_kw slot_list_sort ⟨_,hoL,rfl⟩ entry_list_sort ?body (ksk_l1 _ _)))
 case body =>
  show wpAny (model prog w) A.in1.in1 (Builtin.«list.sort» ⟨[.ref (s.heap.objs.size+1)],[(Str.ofString "key",.ref q)]⟩) _ _ _;rw[ksk_t1];refine ZkC (s:={ s with heap:=g }) (h0:=s.heap) hoL h4 hln hp (V7 (Qc _)) hsz2 keep fun p hp hpw h' tk c kp hc => ?_;exact⟨_,rfl,Yb ⟨_,rfl,k p hp hpw _ h' tk c (Qc _) kp hc⟩⟩
end
end SO
end
section
namespace SO
open PySem PySem.W PyProof.Rows L2
noncomputable abbrev Zd3(p:Pos):Arguments:={ posonlyargs:=[],args:=[{ arg:="place",annotation:=none,pos:=p }],vararg:=none,kwonlyargs:=[],kw_defaults:=[],kwarg:=none,defaults:=[] }
noncomputable abbrev Zeh(p1 p2 p3 p4:Pos):Expr:=.UnaryOp .USub (.Subscript (.Name "many" p1) (.Name "place" p2) p3) p4
noncomputable abbrev lamScope:Scope:={ kind:=.function,names:=[("place",.local),("many",.free)],isGenerator:=false,isCoroutine:=false,more:=[] }
section
variable{prog:P4}{w:World}{A:P3}{E:P6->P0->Prop}{s:P0}
theorem Zl9{h0:Heap}{f c c' d b:Addr}{p p1 p2 p3 p4:Pos}{qual:Str}{pm ctv:P6}{xs:List (List Key×Addr×P6)}{k:List Key}{q:Addr×P6}{n:Int}{t:Tok}(hroom:A.depth<recursionLimit)(hu:A.units+8<cLine)
  (ho:h0.get? f=some (kla_obj "<lambda>" qual (Zd3 p) (Zeh p1 p2 p3 p4) lamScope [("many",c)] pm c' ctv)) (hcd:h0.CodeRec (.ref c') qual) (hcell:h0.IsCell c (some (.ref d)))
  (hd:h0.DictOfH (tupleKind (mixKind prog w)) d xs) (hk:(tupleKind (mixKind prog w)).is h0 k b) (hq:atKey xs k=some q) (hn:q.2 = .int n t) (lim:h0.NoLimit) :
  ZdT prog w A s h0 (.ref f) (.ref b) (-n):=by
 intro g tk Q kp hQ;have hd':g.DictOfH (tupleKind (mixKind prog w)) d xs:=by
  obtain⟨o,es,ep,e1,e2,e3,e4,e5,e6⟩:=hd;exact⟨o,es,ep,kp _ _ e1,e2,e3,e4,fun x hx=>let ⟨o,it,n,z,r⟩:=e5 x hx; ⟨o,it,n,kp _ _ z,r⟩,e6⟩
 have hk':(tupleKind (mixKind prog w)).is g k b:=let ⟨o,it,n,z,r⟩:=hk; ⟨o,it,n,kp _ _ z,r⟩
 have lim':g.NoLimit:=lim.keeps kp;have hc':g.IsCell c (some (.ref d)):=let ⟨o,e1,e2⟩:=hcell; ⟨o,kp _ _ e1,e2⟩
 refine wpAny_call ?_;refine kla_callFunE (s:={ s with heap:=g,toks:=tk }) hroom (kp _ _ ho) rfl rfl rfl rfl (let ⟨a,oc,vs,tq,e1,e2,e3⟩:=hcd; ⟨a,oc,vs,tq,e1,kp _ _ e2,e3⟩) ?_;refine Ul (a:=[((Str.ofString "place"),Value.ref b)]) rfl ?_;refine wpAny_newFunctionEnv (show ∀x∈lamScope.names,x.2≠NameKind.cell by decide) (fun x hx=>by rw[YA.mp hx]; rfl) (fun h1 hns hsb=>⟨lim'.fresh _ hsb,?_⟩) rfl;have hk1:∀b o,g.get? b=some o->h1.get? b=some o:=fun b o e=>hsb.extBut b o (Yr (Yk e)) (Yc _ e);refine kla_codeExpr ?_;refine UnaryOp_ (Zh6 Uz.lookup (by intro _ _; rfl) ?_);refine Ux (wpAny_loadName_free (c:=c) (v:=.ref d) rfl rfl rfl (let ⟨o,e1,e2⟩:=hc'; ⟨o,hk1 _ _ e1,e2⟩) ?_);refine Ux (wpAny_loadName_local (v:=.ref b) rfl rfl hns rfl ?_);have hd1:h1.DictOfH (tupleKind (mixKind prog w)) d xs:=by
  obtain⟨o,es,ep,e1,e2,e3,e4,e5,e6⟩:=hd';exact⟨o,es,ep,hk1 _ _ e1,e2,e3,e4,fun x hx=>let ⟨o,it,n,z,r⟩:=e5 x hx; ⟨o,it,n,hk1 _ _ z,r⟩,e6⟩
 refine⟨Heap.DictOfH.typeIs (s:={ s with heap:=h1,toks:=tk+1 }) hd1,wpAny_getItem_heap (s:={ s with heap:=h1,toks:=tk+1 }) (Qp ?_) (let ⟨o,it,n,z,r⟩:=hk'; ⟨o,it,n,hk1 _ _ z,r⟩) hd1 hq ?_⟩
 ·show A.units+3+1<cLine;omega
 rw[hn];exact neg_int (hQ h1 _ _ hk1)
end
end SO
end
section
namespace L2
open PySem PySem.Spec PyProof.Rows
theorem Inv.grow{X:Cx}{pins:List (Addr×Obj)}{σ:St}{H:Hp}{s:P0}{h':Heap}{t':Nat}{P:Addr}{ps more:Array P6}(I:Inv X pins σ H s)(e:H P=some (.tbl ps))(k:∀b u,b≠P->s.heap.get? b=some u->h'.get? b=some u)
  (hP:h'.get? P=some { cls:=.none,data:=.fields (ps++more) }):Inv X pins σ (upd H P (.tbl (ps++more))) { s with heap:=h',toks:=t' }:=by
 have ne:∀{b:Addr},H b=none->b≠P:=fun {b} n z=>by rw[z,e] at n; cases n
 have ne2:∀{b:Addr} {u:HO},H b=some u->(∀q,u≠.tbl q)->b≠P:=fun {b u} n hu z=>by rw[z,e] at n; cases n; exact hu _ rfl
 refine I.un ⟨fun b u q n _ _=>k b u (ne n) q,fun b u q n _ _=>⟨u.slots,k b u (ne n) q⟩,fun b u q n _=>by rw[Zk (ne n)]; exact n,fun b u q _ => ?_,fun b xs q=>by rw[Zk (ne2 q fun _ z=>by cases z)]; exact q,
  fun b u xs q=>by rw[Zk (ne2 q fun _ z=>by cases z)]; exact q,fun b qs q => ?_⟩ fun b u q => ?_
 ·by_cases hb:b=P
  ·subst hb; exact⟨_,hP⟩
  ·exact⟨u,k b u hb q⟩
 ·by_cases hb:b=P
  ·subst hb;rw[e] at q;cases q;exact⟨more,ZW⟩
  ·exact⟨#[],by rw[Zk hb,q]; simp⟩
 ·by_cases hb:b=P
  ·subst hb;rw[ZW] at q;cases q;exact hP
  ·rw[Zk hb] at q;refine (I.hok b u q).stay (fun c v hc z=>k c v ?_ z) (fun c z=>by rw[Zk (ne2 z fun _ z=>by cases z)]; exact z) fun c xs z=>by rw[Zk (ne2 z fun _ z=>by cases z)]; exact z
   rcases hc with rfl | hc
   ·exact hb
   ·exact ne2 hc fun _ z=>by cases z
end L2
namespace DL
open PySem PySem.Spec PyProof.Rows L2 PySem.W SO
def Zcd(ds:List (D×D)):List D->Option (List Int)
 | []=>some []
 | x :: r=>match Zq x,ZF Zq ds x,Zcd ds r with
  | some _,some (.int n),some ns=>some (-n :: ns)
  | _,_,_=>none
def ZbT(ns:List Int)(xs:List D):List D:=(Z4 ((List.range ns.length).map fun i=>(ns.getD i 0,(i:Int)))).map fun q=>xs.getD q.2.toNat .non
def Zek(P:Addr)(im:Nat)(fl:DE):DA:=fun ρ st=>(fl ρ st).bind fun d st1=>match d,(ρ[im]?:Option (Option D)),(st1[0]?:Option S) with
 | .lst xs,some (some (.res r)),some (S.tab P' false)=>match st1[r]? with
  | some (.dtt ds)=>match Zcd ds xs with
   | some ns=>if P'=P/\xs.length<=4 then .ok (ZbT ns xs) (st1.set 0 (.tab P true)) else .bad
   | none => .bad
  | _ => .bad
 | _,_,_ => .bad
theorem Zii{ds:List (D×D)}:∀{xs:List D} {ns:List Int},Zcd ds xs=some ns->xs.length=ns.length/\∀{i:Nat} {x:D} {n:Int},xs[i]?=some x->ns[i]?=some n->(∃k,Zq x=some k)/\ZF Zq ds x=some (.int (-n))
 | [],ns,e=>by
  cases (show some []=some ns from e);exact⟨rfl,fun {i x n} e _=>by simp at e⟩
 | x :: r,ns,e=>by
  unfold Zcd at e;split at e
  ·rename_i k n ms h1 h2 h3;cases e;obtain⟨l,g⟩:=Zii h3;refine⟨by simp[l],fun {i y m} e1 e2 => ?_⟩;cases i with
   | zero =>
    simp only[YF,Yu] at e1 e2;subst e1 e2;exact⟨⟨k,h1⟩,by rw[h2,Int.neg_neg]⟩
   | succ i =>
    rw[YL] at e1 e2;exact g e1 e2
  ·cases e
theorem Zox{ns:List Int}{xs:List D}{p:List Nat}(hp:p.Perm (List.range ns.length))(hw:p.Pairwise (ltK ns)):ZbT ns xs=p.map fun i=>xs.getD i .non:=by
 have e:p.map (fun i=>(ns.getD i 0,(i:Int)))=Z4 ((List.range ns.length).map fun i=>(ns.getD i 0,(i:Int))):=by
  refine Zi9 (hp.map _) (WY.mpr (hw.imp fun {i j} h => ?_));unfold ltK at h;simp only[Zam,YD];omega
 unfold ZbT;rw[<-e,Y0];rfl
section
variable{X:Cx}{EX:EXT}
theorem ZiF{α β:Type}{F:α->β->Prop}:∀{l:List α} {m:List β},l.length=m.length->(∀(i:Nat) (a:α) (b:β),l[i]?=some a->m[i]?=some b->F a b)->Paired F l m
 | [],[],_,_ => .nil
 | [],_ :: _,h,_=>by cases h
 | _ :: _,[],h,_=>by cases h
 | a :: l,b :: m,h,k => .cons (k 0 a b rfl rfl) (ZiF (by simpa using h) fun i a' b' h1 h2=>k (i+1) a' b' (by simpa using h1) (by simpa using h2))
theorem ZnQ{l:Expr}{p pos kpos lp ap p1 p2 p3 p4:Pos}{fl:DE}{P c:Addr}{k:Nat}(im:Nat)(hr:Room k X.A)(hg:Gl X "sorted")(hm:X.mg "sorted" = none)(hcode:X.env.code = .ref c)(hP:codeHdIn X.K c P=true)(hba:X.base.BuiltinsAt X.mg P)
  (hl:PD X EX l fl) (hN:X.N[im]?=some "many":=by rfl) (hvis:X.env.kindOf "many" = some .cell:=by rfl) (hvi2:X.env.scope.names.lookup ("many" : Str)=some NameKind.cell:=by rfl) (hs:starEach [l] X.env=[(false,eval l X.env)]:=by rfl) :
  PDF X EX (.Call (.Name "sorted" p) [l] [⟨some "key",.Lambda (Zd3 ap) (Zeh p1 p2 p3 p4) lamScope lp,kpos⟩] pos) (Zek P im fl):=by
 intro pins s σ H Q I h;refine W8 (ZaY I hg hm QP ?_);refine callWith_builtin_kwB (by rw[hs]; rfl) rfl (evalArgs_kw2 rfl ?_ hs);rw[hs];refine Qn (thn (hl pins s σ H (fun v H1 => ∃O ρ d st1,WR X.K O H1 st1/\REnv X.K O H1 ρ σ/\Rep X.K O H1 d v/\Run X.K EX O H1 (match d,(ρ[im]?:Option (Option D)),(st1[0]?:Option S) with
  | .lst xs,some (some (.res r)),some (S.tab P' false)=>match st1[r]? with
   | some (.dtt ds)=>match Zcd ds xs with
    | some ns=>if P'=P/\xs.length<=4 then .ok (ZbT ns xs) (st1.set 0 (.tab P true)) else .bad
    | none => .bad
   | _ => .bad
  | _,_,_ => .bad) (New X.K Q)) I ?_) fun u s1 ⟨x,H1,I1,r1,O,ρ,d,st,W,EV,rv,R⟩=>Q7 ?_)
 ·obtain⟨O,ρ,st,W,E,R⟩:=h;exact⟨O,ρ,st,W,E,R.bind.mono fun d st1 O1 H1 k1 W1 R1 v rv=>⟨O1,ρ,d,st1,W1,E.mono k1,rv,R1⟩⟩
 split at R
 ·rename_i xs r P' e1 e2;split at R
  ·rename_i ds e3;split at R
   ·rename_i ns hns;by_cases hc:P'=P/\xs.length<=4
    ·rw[Yi hc] at R;obtain⟨rfl,h4⟩:=hc;show wpAny _ _ (evalAll [(do let v <-eval (.Lambda (Zd3 ap) (Zeh p1 p2 p3 p4) lamScope lp) X.env; standAt pos; pure v)]) _ _ s1;obtain⟨a,vs,rfl,haO,hla,rvs⟩:=Rep.lst_i.mp rv;cases r1;obtain⟨v,hv1,hv2⟩:=EV.at_ im _ e1;rw[Rep.res_i] at hv2;obtain⟨dd,rfl,hO⟩:=hv2;obtain⟨a0,ha0⟩:∃a0,O[0]?=some a0:=⟨_,Yd (by rw[W.len]; exact (Yo.mp e2).1)⟩;obtain⟨z0,ps,hPt,hps⟩:=W.at_ 0 a0 _ ha0 e2;subst z0;have hps':=hps rfl;subst hps';obtain⟨kvs,hdt,kv⟩:=W.at_ _ _ _ hO e3;obtain⟨m,hns0,hlook⟩:=I1.loc;obtain⟨u',ru',hlk⟩:=hlook im "many" (.ref dd) hN hv1 (.inr (.inl hvi2));cases ru';rcases hlk with⟨hk,_⟩ | ⟨_,cm,hcm,hcell⟩
     ·rw[hvis] at hk; cases hk
     refine wpAny_evalAll_cons (Ya (kla_eval rfl ?_));have hcl:closureFor lamScope X.env=pure [(Str.ofString "many",cm)]:=by
      unfold closureFor cellOf;have hcm':List.lookup (Str.ofString "many") X.env.cells=some cm:=hcm;simp[lamScope,hcm']
     have hgP:mainGlobals≠a0:=fun z=>by
      obtain⟨o,es,ep,e,_⟩:=I1.mod.glob;have:=(I1.bs _ _ e).2;rw[z,hPt] at this;cases this
     refine kla_makeFunction (mg:=X.mg) (clos:=[("many",cm)]) (c:=c) (P:=a0) (ps:=#[]) hcl I1.ok.glob (I1.mod.glob.keeps I1.bk) hcode (codeHd_of_K I1.kIn hP) (I1.hok a0 _ hPt) trivial rfl hgP (let ⟨bm,o,b1,b2,b3,b4,b5,b6⟩:=hba; ⟨bm,o,b1,b2,b3,b4,I1.bk _ _ b5,b6⟩) fun c' ctv h' tk hx hge hlt hrec htb => ?_;refine Ya (wpAny_standAt (Yb (wpAny_evalAll_nil ?_)));show wpAny _ _ (call (.builtin "sorted") [.ref a] [(Str.ofString "key",.ref h'.objs.size)]) _ _ _;generalize hob:kla_obj "<lambda>" (X.env.qual ++ "<lambda>") (Zd3 ap) (Zeh p1 p2 p3 p4) lamScope [("many",cm)] ((X.mg "__name__").getD .none) c' ctv=ob;have kp:∀b o,b≠a0->s1.heap.get? b=some o->(h'.push ob).get? b=some o:=fun b o hb e=>Yc _ (hx b o hb e);have hf2:(h'.push ob).get? h'.objs.size=some ob:=Ym _ (by rw[<-hob]; rfl);have hP2:(h'.push ob).get? a0=some { cls:=.none,data:=.fields (#[]++(#[rawInt lp.line,rawInt lp.col,.ref c']:Array P6)) }:=Yc _ htb;have hrec2:(h'.push ob).CodeRec (.ref c') (X.env.qual ++ "<lambda>"):=let ⟨x1,x2,x3,x4,x5,x6,x7⟩:=hrec; ⟨x1,x2,x3,x4,x5,Yc _ x6,x7⟩
     generalize h'.push ob=h2 at kp hf2 hP2 hrec2;generalize h'.objs.size=f at hf2;subst hob;have I2:=I1.grow (t':=tk) hPt kp hP2;have hne:∀{b:Addr} {u:HO},H1 b=some u->(∀q,u≠.tbl q)->upd H1 a0 (.tbl (#[]++(#[rawInt lp.line,rawInt lp.col,.ref c']:Array P6))) b=some u:=fun {b u} e hu=>by
      rw[Zk]
      ·exact e
      ·rintro rfl;rw[hPt] at e;cases e;exact hu _ rfl
     have kw:Keep X.K O H1 O (upd H1 a0 (.tbl (#[]++(#[rawInt lp.line,rawInt lp.col,.ref c']:Array P6)))):=Keep.write W ha0;have W2:WR X.K O (upd H1 a0 (.tbl (#[]++(#[rawInt lp.line,rawInt lp.col,.ref c']:Array P6)))) (st.set 0 (.tab a0 true)):=W.write ha0 ⟨rfl,_,ZW,fun z=>by cases z⟩;have hla2:=hne hla fun _ z=>by cases z
     have hdt2:=hne hdt fun _ z=>by cases z
     generalize upd H1 a0 (.tbl (#[]++(#[rawInt lp.line,rawInt lp.col,.ref c']:Array P6)))=H2 at I2 kw W2 hla2 hdt2;have kv2:=Kvs.mono kw _ _ kv;have rvs2:=Reps.mono kw _ _ rvs;obtain⟨its,rv',pl,hz⟩:=I2.list (.inl (.inl hla2));obtain⟨z1,hdm,ws,rel,dd2⟩:=ZaL I2.hok (.inl hdt2);obtain⟨hlx,hget⟩:=Zii hns;have l1:=rv'.length;have l2:=rvs2.length;have hcm0:cm≠a0:=fun z=>by
      have:=I1.freeC "many" cm hcm;rw[z,hPt] at this;cases this
     have hcell2:h2.IsCell cm (some (.ref dd)):=let ⟨o,x1,x2⟩:=hcell; ⟨o,kp _ _ hcm0 x1,x2⟩
     refine Zl6 (s:={ s1 with heap:=h2,toks:=tk }) (ns:=ns) pl.isList (by omega) (by omega) (ZiF (by omega) fun i y n hy hn => ?_) fun ix hp hw b h3 tk3 c3 hb k3 hc3 => ?_
     ·obtain⟨x,hx1⟩:∃x,xs[i]?=some x:=⟨_,Yd (by rw[hlx]; exact (Yo.mp hn).1)⟩;obtain⟨⟨key,hkey⟩,hval⟩:=hget hx1 hn;obtain⟨y1,g1,g2⟩:=rvs2.get hx1;obtain⟨b,rfl,hb⟩:=Zet hkey g2;obtain⟨y2,g3,g4⟩:=rv'.get g1;rw[hy] at g3;cases g3;cases g4;have g5:=Zbw hkey kv2;rw[hval] at g5;cases g6:Zaj kvs key with
      | none=>rw[g6] at g5; exact g5.elim
      | some w1 =>
       rw[g6] at g5;have g7:w1=V.int (-n):=Rep.int_i.mp (show Rep X.K O H2 (.int (-n)) w1 from g5);subst g7;obtain⟨w',hw1,t,hw2⟩:=RelO.some_of (v:=V.int (-n)) (o:=(atKey ws key).map (·.2)) (by rw[<-g6]; exact rel.val key);obtain⟨q,hq1,hq2⟩:=WC.mp hw1;have:=Zl9 (prog:=X.prog) (w:=X.w) (A:=X.A.in1.in1) (s:={ s1 with heap:=h2,toks:=tk }) (h0:=h2) (n:=-n) (t:=t) (by
        have:=hr.depth;show X.A.depth<recursionLimit;exact this) (by
        have:=hr.units;show X.A.units+1+1+8<cLine;omega) hf2 hrec2 hcell2 dd2 (Zc1 I2.hok hb) hq1 (by rw[hq2]; exact hw2) I2.nolimit
       rw[Int.neg_neg] at this;exact this
     ·have hix:∀i∈ix,i<xs.length:=fun i hi=>by
       have:=hp.mem_iff.mp hi;simp only[W7] at this;omega
      refine⟨.ref b,_,I2.laid (t':=tk3) (a:=b) (o:=.lst (ix.map fun i=>vs.getD i .non)) k3 hb ⟨?_,ix.map (fun i=>its.getD i .none),c3,?_,hc3⟩,rfl,?_⟩
      ·have h0:=hp.length_eq;simp only[Yp,YV] at h0 ⊢;rw[YN];omega
      ·refine Zdn ix fun i hi => ?_;obtain⟨y1,g1⟩:∃x,vs[i]?=some x:=⟨_,Yd (by have:=hix i hi; omega)⟩;obtain⟨y2,g3,g4⟩:=rv'.get g1;rw[Ye,Ye,g1,g3];exact g4
      ·have RR:=Run.now (k:=New X.K Q) (Run.later (r:=.ok (ZbT ns xs) (st.set 0 (.tab a0 true))) R kw) W2;refine RR b _ ?_ (I2.hok.fresh hb);rw[Zox (ns:=ns) (p:=ix) (by rw[<-hlx,l2,l1]; exact hp) hw];refine Zde ix fun i hi => ?_;obtain⟨x,hx1⟩:∃x,xs[i]?=some x:=⟨_,Yd (hix i hi)⟩;obtain⟨y1,g1,g2⟩:=rvs2.get hx1;rw[Ye,Ye,g1,hx1];exact g2
    ·rw[Yh hc] at R; exact R.elim
   ·exact R.elim
  ·exact R.elim
 ·exact R.elim
end
end DL
end
section
namespace L2
open PySem PySem.Spec PyProof.Rows
def Zes(T:Addr)(H:Hp):Prop:=∀b,H b=none\/(∃o xs,H b=some (.frz o (.lst xs)))\/(b=T/\H b=some (.tbl #[]))
theorem Zpn{P:P4}{w:World}{K:P1}{mg mb:Str->Option P6}{CX:CXT}{k:Nat}{fa a:Addr}{fd:P5}{x:Str}{sp:Sp}{s₁:P0}{vs:List P6}{ns:List Int}{c T:Addr}
  (KX:K.In s₁.heap) (hns:s₁.heap.Ns mainGlobals mg) (hb:s₁.heap.Ns builtinsNs mb) (hbb:∀x:Str,x≠"__name__"->mb x=bootBuiltins x) (hlim:s₁.heap.NoLimit) (hg:s₁.gens = #[])
  (hbm:∃bm ob,mg "__builtins__" = some (.ref bm)/\bm≠builtinsNs/\s₁.heap.get? bm=some ob/\ob.cls = .type "module"/\ob.dict=some builtinsNs/\ob.data = .plain)
  (hC:PySem.W.CodeHd s₁.heap c T) (hT:s₁.heap.get? T=some (PySem.W.tabObj #[])) (hKT:PySem.W.noTabs K=true)
  (ha:s₁.heap.get? a=some { cls:=.type "list",data:=.seq vs.toArray }) (hi:IntsAre vs ns) (hl:ns.length<=sizeLine) (hr:Room k callerA)
  (F:∀base:Heap,K.In base->base.Ns mainGlobals mg->base.BuiltinsAt mg T->FnOk P w K mg base CX k fa fd [x] sp) (hbind:∀(s:P0) (u:P6),BindsTo s fd ⟨[u],[]⟩ [(x,u)])
  (hsp:∀H:Hp,Zes T H->H T=some (.tbl #[])->SqL K H a (ns.map V.int)->sp [.ref a] H (fun v _=>v = .bl true) fun _ _ _=>False)
  (hCX:∀H e s',CX [] H s₁ (fun _ _ _=>False) e s'->False) :
  codeAny (model P w) callerA (.call (.ref fa) ⟨[.ref a],[]⟩) (fun r s'=>r = .ok (.ret (.bool true))/\OldK s₁.heap s'.heap/\s'.os=s₁.os/\AllBare s'.gens) s₁:=by
 have rv:=Zew hi;have lenV:=hi.length;have aT:a≠T:=fun z=>by rw[z,hT] at ha; cases ha
 have kT:K.lookup T=none:=by
  cases q:K.lookup T with
  | none=>rfl
  | some o =>
   have e:=KX T o q;rw[hT] at e;cases e;have h2:=YB.mp hKT (T,_) (PySem.W.mem_of_lookupK q);exact absurd (show false=true from h2) Qs
 have core:∀H:Hp,Zes T H->H T=some (.tbl #[])->SqL K H a (ns.map V.int)->HOk P w H s₁.heap->(∀b,H b≠none->b=a\/b=T)->(H a≠none->K.lookup a=none) ->
   codeAny (model P w) callerA (.call (.ref fa) ⟨[.ref a],[]⟩) (fun r s'=>r = .ok (.ret (.bool true))/\OldK s₁.heap s'.heap/\s'.os=s₁.os/\AllBare s'.gens) s₁:=by
  intro H hO hHT hS hok hA hK;have base_of:∀{b:Addr} {o:Obj},s₁.heap.get? b=some o->H b=none->(Za3 s₁.heap H).get? b=some o:=fun e n=>ZpA e n;have noA:∀{b:Addr} {o:Obj},s₁.heap.get? b=some o->o.cls≠.type "list"->o.cls≠.none->H b=none:=fun {b o} e d1 d2=>by
   cases q:H b with
   | none=>rfl
   | some u =>
    rcases hA b (by rw[q]; simp) with e' | e'
    ·subst e';rw[ha] at e; cases e;exact absurd rfl d1
    ·subst e';rw[hT] at e; cases e;exact absurd rfl d2
  have noD:∀{b:Addr} {o:Obj} {es:Array DictEntry} {ep:Nat},s₁.heap.get? b=some o->o.data = .dict es ep->H b=none:=fun {b o es ep} e d=>by
   cases q:H b with
   | none=>rfl
   | some u =>
    rcases hA b (by rw[q]; simp) with e' | e'
    ·subst e';rw[ha] at e; cases e;have d':Data.seq vs.toArray _=Data.dict es ep:=d;cases d'
    ·subst e';rw[hT] at e; cases e;have d':Data.fields _=Data.dict es ep:=d;cases d'
  have nsK:∀{b:Addr} {m:Str->Option P6},s₁.heap.Ns b m->(Za3 s₁.heap H).Ns b m:=fun {b m} ⟨o,es,ep,e,d,r⟩=>⟨o,es,ep,base_of e (noD e d),d,r⟩;have hKb:K.In (Za3 s₁.heap H):=fun b o e=>base_of (KX b o e) (by
   cases q:H b with
   | none=>rfl
   | some u =>
    rcases hA b (by rw[q]; simp) with e' | e'
    ·subst e';rw[hK (by rw[q]; simp)] at e; cases e
    ·subst e';rw[kT] at e; cases e)
  have hM:Mod K mg (Za3 s₁.heap H):=⟨hKb,nsK hns,⟨mb,nsK hb,hbb⟩,let ⟨mc,h1,h2⟩:=hlim; ⟨mc,nsK h1,h2⟩⟩;have hBA:(Za3 s₁.heap H).BuiltinsAt mg T:=by
   obtain⟨bm,ob,b1,b2,b3,b4,b5,b6⟩:=hbm;refine⟨bm,ob,b1,b2,fun z => ?_,fun z => ?_,base_of b3 (noA b3 (by rw[b4]; decide) (by rw[b4]; intro z; cases z)),b4,b5,b6⟩
   ·obtain⟨o,es,ep,e,d,_⟩:=hns;rw[z,e] at b3;cases b3;rw[b6] at d;cases d
   ·rw[z,hT] at b3;cases b3;cases b4
  have e0:Env0 P w K mg (Za3 s₁.heap H) callerA [] s₁ H:=⟨rfl,hM,fun b o e=>Zld e,Nat.le_of_eq (Zni _ _),trivial,fun b hb=>absurd (show b∈([]:List Addr) from hb) (by simp),hok,.of_eq hg⟩;refine V8 ((F _ hKb (nsK hns) hBA).run callerA [] s₁ H ⟨[.ref a],[]⟩ [.ref a] [.ref a] _ _ hr e0 (hbind s₁ (.ref a)) (.cons rfl .nil) (hsp H hO hHT hS)) fun r s' h => ?_;cases r with
  | error e=>exact (hCX H e s' h).elim
  | ok fl =>
   cases fl with
   | next=>exact False.elim h
   | brk=>exact False.elim h
   | cont=>exact False.elim h
   | ret u =>
    obtain⟨v,H',os,bare,un,hok',r',q⟩:=h;have q':v = .bl true:=q;subst q';obtain rfl:u=Value.bool true:=r';refine⟨rfl,⟨fun b o e => ?_,fun b o e => ?_⟩,os,bare⟩
    ·cases q:H b with
     | none=>exact .inl (un.keep b o e q (by intro z; exact absurd (show b∈([]:List Addr) from z) (by simp)) (by simp))
     | some u =>
      rcases hO b with z | ⟨ob,xs,z⟩ | ⟨rfl,z⟩
      ·rw[q] at z; cases z
      ·have z2:=un.frzs b ob _ z;obtain⟨e1,_⟩:=hok b _ z;obtain⟨e2,_⟩:=hok' b _ z2;rw[e] at e1; cases e1;exact .inl e2
      ·obtain⟨more,z2⟩:=un.tbls b _ z;have e2:=hok' b _ z2;rw[hT] at e; cases e;exact .inr (.inl ⟨(hC.tab hT).isCodeTable,rfl,#[],more,rfl,e2⟩)
    ·exact un.there b o e (by simp)
 cases hk:K.lookup a with
 | some o =>
  have e:=KX a o hk;rw[ha] at e;cases e;refine core (fun b=>if b=T then some (.tbl #[]) else none) (fun b => ?_) (Yi rfl) (.inr ⟨_,vs.toArray,_,hk,rfl,rfl,rfl,by rw[Yn,lenV]; exact hl,by simpa using rv⟩) (fun b u z => ?_) (fun b z => ?_) fun z=>absurd (Yh aT) z
  ·by_cases hb:b=T
   ·exact .inr (.inr ⟨hb,Yi hb⟩)
   ·exact .inl (Yh hb)
  ·by_cases hb:b=T
   ·have z':=(Yi hb).symm.trans z;cases z';subst hb;exact hT
   ·have z':=(Yh hb).symm.trans z;cases z'
  ·by_cases hb:b=T
   ·exact .inr hb
   ·exact absurd (Yh hb) z
 | none =>
  refine core (fun b=>if b=T then some (.tbl #[]) else if b=a then some (.frz { cls:=.type "list",data:=.seq vs.toArray } (.lst (ns.map V.int))) else none) (fun b => ?_) (Yi rfl) (.inl (.inr ⟨{ cls:=.type "list",data:=.seq vs.toArray },(Yh aT).trans (Yi rfl)⟩)) (fun b u z => ?_) (fun b z => ?_) fun _=>hk
  ·by_cases hb:b=T
   ·exact .inr (.inr ⟨hb,Yi hb⟩)
   ·by_cases hb2:b=a
    ·exact .inr (.inl ⟨_,_,(Yh hb).trans (Yi hb2)⟩)
    ·exact .inl ((Yh hb).trans (Yh hb2))
  ·by_cases hb:b=T
   ·have z':=(Yi hb).symm.trans z;cases z';subst hb;exact hT
   ·by_cases hb2:b=a
    ·have z':=((Yh hb).trans (Yi hb2)).symm.trans z;cases z';subst hb2;exact⟨ha,by rw[Yp]; exact hl,vs,_,rv,ha⟩
    ·have z':=((Yh hb).trans (Yh hb2)).symm.trans z;cases z'
  ·by_cases hb:b=T
   ·exact .inr hb
   ·by_cases hb2:b=a
    ·exact .inl hb2
    ·exact absurd ((Yh hb).trans (Yh hb2)) z
theorem walk_ofT{l:PySem.W.OpenLaw}{n k:Nat}{q:P4}{loose:List Str}{XP:(Str->Option P6)->Heap->Prop}{YP:World->Heap->Prop}{d:DefRec}{K:Params->P1}{CX:World->CXT}{sp:World->Sp}{x:Str}{T:Addr}
  (hn:l.most=some n) (hn2:n<=sizeLine) (hdf:d.params.defaults=[]) (hr:Room k callerA)
  (hY:∀(w:World) (h:Heap),YP w h->(K w.params).In h/\h.get? T=some (PySem.W.tabObj #[])) (hKT:∀w:World,(∃c,PySem.W.codeHdIn (K w.params) c T=true)/\PySem.W.noTabs (K w.params)=true)
  (F:∀(w:World) (mg:Str->Option P6) (fa:Addr) (h:Heap),(K w.params).In h->h.Ns mainGlobals mg->mg d.name=some (.ref fa) ->
   ∃fd:P5,(∀(s:P0) (u:P6),BindsTo s fd ⟨[u],[]⟩ [(x,u)]) /\
    ∀base:Heap,(K w.params).In base->base.Ns mainGlobals mg->base.BuiltinsAt mg T->FnOk l.prog w (K w.params) mg base (CX w) k fa fd [x] (sp w))
  (hsp:∀(w:World) (H:Hp) (a:Addr) (ns:List Int),ns.length<=n->Zes T H->H T=some (.tbl #[])->SqL (K w.params) H a (ns.map V.int)->sp w [.ref a] H (fun v _=>v = .bl true) fun _ _ _=>False)
  (hCX:∀(w:World) (H:Hp) (s:P0) (e:P6) (s':P0),CX w [] H s (fun _ _ _=>False) e s'->False) :
  PySem.W.WalkO q loose XP YP l.row.toRowW d [] (fun f vs=>PySem.call f vs):=by
 refine Att.attach_call hn hdf fun w s₀ s₁ mg mb fa o pm cd doc a vs ns G Y ho hd hcd hmg hobj hints hlen hg => ?_;obtain⟨KX,hT⟩:=hY w _ Y;obtain⟨fd,hb,hF⟩:=F w mg fa _ KX G.T.g hmg;obtain⟨c,hc⟩:=(hKT w).1;have hC:=PySem.W.codeHd_of_K KX hc;exact Zpn KX G.T.g G.T.b G.T.builtins G.T.nolimit hg G.T.bmain hC hT (hKT w).2 hobj hints (YH hlen hn2) hr hF hb (fun H hO hH hS=>hsp w H a ns hlen hO hH hS) fun H e s'=>hCX w H s₁ e s'
end L2
namespace DL
open PySem PySem.Spec PyProof.Rows L2
theorem law_spT{K:P1}{F:FD}{T:Addr}(hF:∀ns:List Int,ns.length<=63->∃st,F [.scr (ns.map .int)] [.tab T false] = .ok (.bl true) st)(H:Hp)(a:Addr)(ns:List Int)(hl:ns.length<=63)(ho:Zes T H)(hT:H T=some (.tbl #[]))(hs:SqL K H a (ns.map V.int)) :
  spD K F [.ref a] H (fun v _=>v = .bl true) fun _ _ _=>False:=by
 obtain⟨st,e⟩:=hF ns hl;refine⟨[T],[.scr (ns.map .int)],[.tab T false],⟨rfl,by simp,fun i b s h1 h2 => ?_⟩,Reps.one (Rep.scr_i.mpr ⟨a,_,rfl,SqF.of hs ?_,?_⟩),?_⟩
 ·cases i with
  | zero =>
   simp only[YF,Yu] at h1 h2;subst h1 h2;exact⟨rfl,#[],hT,fun _=>rfl⟩
  | succ i=>simp at h1
 ·rcases ho a with h | ⟨o,xs,h⟩ | ⟨_,h⟩ <;> rw[h] <;> intro z <;> cases z
 ·have:∀(ms:List Int),Reps K [T] H (ms.map D.int) (ms.map V.int):=by
   intro ms
   induction ms with
   | nil=>exact Reps.nil_i.mpr rfl
   | cons m ms ih=>exact Reps.cons_i.mpr ⟨_,_,rfl,Rep.int_i.mpr rfl,ih⟩
  exact this ns
 ·rw[e];exact fun O' H' _ _ v r=>Rep.bl_i.mp r
theorem ZoQ{P:P4}{w:World}{K:P1}{mg:Str->Option P6}{base:Heap}{x qual:Str}{st:Stmt}{f c:Addr}{fd:P5}{N ps:List Str}{k:Nat}{g:DS}(F:Fun K x qual st f fd)(S:FnScope N ps (Ze st))(hm:mg x=some (.ref f))(hb:Binds K fd ps [])(hc:fd.code = .ref c)
  (hbody:∀(A:P3) (outer:List Env) (s:P0) (H:Hp) (E:XK),Room k (A.deeper (envOfC qual (Ze st) s.heap.objs.size f (.ref c))) ->
   PDS (ZD CX0 P w K mg base N qual (Ze st) f (.ref c) A outer s H E).nox EX0 (Zs st) g):FnAt P w K mg base x (k+1) (ZH N.length ps.length g):=by
 have hlen:∀vs H Q E,spD K (ZH N.length ps.length g) vs H Q E->vs.length=ps.length:=by
  rintro vs H Q E ⟨O,ds,st,W,r,R⟩;unfold ZH at R;by_cases hl:ds.length=ps.length
  ·rw[<-r.length]; exact hl
  ·rw[Yh hl] at R; exact R.elim
 have G:FnOk P w K mg base CX0 (k+1) f fd ps (spD K (ZH N.length ps.length g)):=by
  obtain⟨oc,od,kV,doc,pm,an,cdv,ct,osl,rfl,lk,hcd⟩:=F.ex;have hcv:cdv = .ref c:=hc;subst hcv;refine ZiR lk hcd S hlen fun A outer s H vs Q E hr h => ?_;refine⟨_,PSs.nox (hbody A outer s H E hr),?_⟩;have hl:=hlen vs H Q E h;obtain⟨O,ds,st,W,r,R⟩:=h;have hd:ds.length=ps.length:=by rw[r.length]; exact hl
  unfold ZH at R;rw[Yi hd] at R;refine⟨O,ds.map some++List.replicate (N.length - ps.length) none,st,W,?_,?_⟩
  ·unfold L2.start;rw[hl];exact ZiU (N:=N) _ r
  ·cases hg:g (ds.map some++List.replicate (N.length - ps.length) none) st with
   | nx ρ st'=>rw[hg] at R; exact fun O' H' σ kp W' _=>R O' H' kp W' _ (Rep.non_i.mpr rfl)
   | rt d st'=>rw[hg] at R; exact fun O' H' v kp W' rv=>R O' H' kp W' v rv
   | exc c st'=>rw[hg] at R; exact R.elim
   | bad=>rw[hg] at R; exact R
   | bk ρ st'=>rw[hg] at R; exact R.elim
   | ct ρ st'=>rw[hg] at R; exact R.elim
 exact⟨f,fd,ps,G,hm,F.kp,hb⟩
end DL
end
section
end
section
end
section
namespace DL
open PySem PySem.Spec PyProof.Rows L2 PySem.W SO
theorem Zew{K:P1}{O:List Addr}{H:Hp}:∀{ds:List (D×D)} {vs:List (List Key×V)} {xs:List (List Key×Addr×P6)} {ns:List Int},Kvs K Zq O H ds vs->KT H vs xs->ZfI (ds.map (·.2))=some ns->IntsAre (xs.map (·.2.2)) ns
 | [],vs,xs,ns,h,t,e=>by
  cases (show vs=[] from h);cases t;cases e;exact .nil
 | (k,d) :: ds,vs,xs,ns,h,t,e=>by
  obtain⟨q,v,r,rfl,hk,hr,ht⟩:=(show ∃q v r,vs=(q,v) :: r/\Zq k=some q/\Rep K O H d v/\Kvs K Zq O H ds r from h);rw[Ys] at e;unfold ZfI at e;split at e
  ·rename_i z; cases z
  ·rename_i i r' z;cases z;obtain⟨ns',e1,rfl⟩:=WC.mp e;have hr':Rep K O H (.int i) v:=hr;rw[Rep.int_i] at hr';subst hr';cases t with
   | @cons p x _ xs hq t =>
    obtain⟨ty,e2⟩:=(show RelV (.int i) x.2.2 from hq.2.2);rw[Ys,e2];exact .cons i ty (Zew ht t e1)
  ·cases e
end DL
end
section
end
section
namespace DL
open PySem PySem.Spec PyProof.Rows L2
mutual
def nice:Nat->D->Bool
 | 0,_=>false
 | _+1,.non=>true
 | _+1,.int _=>true
 | _+1,.str _=>true
 | n+1,.tup xs=>ZbN n xs
 | n+1,.lst xs=>ZbN n xs
 | _+1,_=>false
def ZbN:Nat->List D->Bool
 | _,[]=>true
 | n,x :: xs=>nice n x && ZbN n xs
end
theorem ZbX(n:Nat):∀xs:List D,ZbN n xs=true ↔ ∀x∈xs,nice n x=true
 | []=>by simp[ZbN]
 | x :: xs=>by simp[ZbN,ZbX n xs]
open Classical in
theorem Zfw{f:D->D->Option Bool}:∀(xs ys:List D),(∀x∈xs,∀y∈ys,f x y=some (decide (x=y)))->ZU f xs ys=some (decide (xs=ys))
 | [],[],_=>by simp[ZU]
 | [],y :: ys,_=>by simp[ZU]
 | x :: xs,[],_=>by simp[ZU]
 | x :: xs,y :: ys,h=>by
  unfold ZU;rw[h x Yz y Yz,Zfw xs ys fun a ha b hb=>h a (Yv _ ha) b (Yv _ hb)];by_cases h1:x=y <;> by_cases h2:xs=ys <;> simp[h1,h2]
open Classical in
theorem ZbD(st:Sto):∀(n:Nat) (a b:D),nice n a=true->nice n b=true->eqN st n a b=some (decide (a=b))
 | 0,a,b,h,_=>by cases a <;> simp[nice] at h
 | n+1,a,b,ha,hb=>by
  unfold eqN;cases a <;> cases b <;> simp only[nice,YG] at ha hb <;> simp only[kd]
  case tup.tup xs ys =>
   rw[Zfw xs ys fun x hx y hy=>ZbD st n x y ((ZbX n xs).mp ha x hx) ((ZbX n ys).mp hb y hy)];simp
  case lst.lst xs ys =>
   rw[Zfw xs ys fun x hx y hy=>ZbD st n x y ((ZbX n xs).mp ha x hx) ((ZbX n ys).mp hb y hy)];simp
  all_goals simp[Bool.beq_eq_decide_eq]
open Classical in
theorem ZfV{a b:D}{st:Sto}(ha:nice depth a=true)(hb:nice depth b=true):eqD a b st = .ok (.bl (decide (a=b))) st:=by
 unfold eqD; rw[ZbD st depth a b ha hb]
open Classical in
theorem ZnR{a b:D}{st:Sto}(ha:nice depth a=true)(hb:nice depth b=true):neD a b st = .ok (.bl (!decide (a=b))) st:=by
 unfold neD; rw[ZbD st depth a b ha hb]
def pl(ws:List Str):D:=.tup (ws.map .str)
theorem Zmc(n:Nat)(ws:List Str):ZbN (n+1) (ws.map .str)=true:=by
 rw[ZbX];intro x hx;obtain⟨w,_,rfl⟩:=YX.mp hx;rfl
theorem Zdf(n:Nat)(ws:List Str):nice (n+2) (pl ws)=true:=Zmc n ws
theorem Zh0(ws:List Str):nice depth (pl ws)=true:=Zdf 48 ws
theorem str_inj{ws us:List Str}:ws.map D.str=us.map D.str ↔ ws=us:=by
 constructor
 ·intro h;have:(ws.map D.str).map (fun d=>match d with | .str x=>x | _=>("" : Str))=(us.map D.str).map (fun d=>match d with | .str x=>x | _=>("" : Str)):=by rw[h]
  simpa[Y0,QC] using this
 ·intro h; rw[h]
theorem ZoG{ws us:List Str}:pl ws=pl us ↔ ws=us:=by
 unfold pl;rw[D.tup.injEq];exact str_inj
theorem Zgn(ws us:List Str)(st:Sto):eqD (pl ws) (pl us) st = .ok (.bl (decide (ws=us))) st:=by
 rw[ZfV (Zh0 ws) (Zh0 us)];congr 2;exact decide_eq_decide.mpr ZoG
theorem Zlz(x y:Int)(st:Sto):eqD (.int x) (.int y) st = .ok (.bl (decide (x=y))) st:=by
 rw[ZfV rfl rfl];congr 2;exact decide_eq_decide.mpr (by rw[D.int.injEq])
theorem ZbZ(ws:List Str)(st:Sto):ZK [pl ws] st = .ok (.int ws.length) st:=by
 simp[ZK,pl,itemsOf]
theorem ZnP{α β:Type}(f:α->β)(xs:List α)(lo hi:Option Int):Zao (xs.map f) lo hi=(Zao xs lo hi).map f:=by
 simp[Zao,Vl,UT]
theorem ZeV(ws:List Str)(lo hi:Option Int)(st:Sto):ZbU (pl ws) lo hi st = .ok (pl (Zao ws lo hi)) st:=by
 simp[ZbU,pl,ZnP]
theorem ZbQ{α:Type}(xs:List α)(n:Nat):Zao xs none (some (n:Int))=xs.take n:=by
 unfold Zao;rw[HT.sIx_none,HT.sIx_nat,Va,Nat.sub_zero];by_cases h:n<=xs.length
 ·rw[UP h]
 ·rw[Nat.min_eq_right (by omega),QN,Ql (by omega)]
theorem Ziq{α:Type}(xs:List α)(n:Nat):Zao xs (some (n:Int)) none=xs.drop n:=by
 unfold Zao;rw[HT.sIx_none,HT.sIx_nat];by_cases h:n<=xs.length
 ·rw[UP h,Ql (by simp)]
 ·rw[Nat.min_eq_right (by omega),Nat.sub_self,VA,VP (by omega)]
theorem Zle(xs:List D)(st:Sto):ZdK [.lst xs] st = .ok (.tup xs) st:=rfl
theorem Zjm{chk:Sto->Prop}{t:TgD}{fe:DE}{st:Sto}(IE:Ev->Prop)(h:D->D)(hc:chk st):∀(xs:List D) (ρ:Ev) (acc:List D),IE ρ->acc.length+xs.length<=small ->
  (∀x∈xs,∀ρ,IE ρ->∃ρ1,t x ρ=some ρ1/\IE ρ1/\fe ρ1 st = .ok (h x) st)->ZG chk t Zah fe xs ρ st acc = .ok (acc++xs.map h) st
 | [],ρ,acc,_,_,_=>by simp[ZG,hc]
 | x :: xs,ρ,acc,hI,hl,hx=>by
  obtain⟨ρ1,e1,h1,e2⟩:=hx x Yz ρ hI;unfold ZG;rw[Yi ⟨hc,by simp at hl; omega⟩,e1];dsimp only[Zah];rw[e2];dsimp only;rw[Zjm IE h hc xs ρ1 (acc++[h x]) h1 (by simp at hl ⊢; omega) fun y hy=>hx y (Yv _ hy)];simp
theorem Zba{chk:Sto->Prop}{t:TgD}{g:DS}{ρ:Ev}{st:Sto}(hc:chk st):ZX chk t g [] ρ st = .nx ρ st:=by
 unfold ZX; rw[Yi hc]
theorem Zbm{chk:Sto->Prop}{t:TgD}{g:DS}{x:D}{xs:List D}{ρ ρ1 ρ2:Ev}{st st2:Sto}(hc:chk st)(ht:t x ρ=some ρ1)(hg:g ρ1 st = .nx ρ2 st2):ZX chk t g (x :: xs) ρ st=ZX chk t g xs ρ2 st2:=by
 rw[ZX,if_pos hc,ht]; dsimp only; rw[hg]
theorem Zqz(i j:Int)(h1 : -(2 ^ 64)<j)(h2:j<2 ^ 64):Zch i j=true:=by
 unfold Zch;rw[YS h1,YS h2];simp
theorem Zct(i j:Int)(h1 : -(2 ^ 64)<i)(h2:i<2 ^ 64):Zch i j=true:=by
 unfold Zch;rw[YS h1,YS h2];simp
theorem mod_int(i j:Int)(st:Sto)(h:0<j):Zbg (.int i) (.int j) st = .ok (.int (i % j)) st:=by
 simp[Zbg,intOp,h]
theorem Zef(i j:Int)(st:Sto)(h:0<j)(h2:j<1073741824):ZbW (.int i) (.int j) st = .ok (.int (i / j)) st:=by
 have e:ZjL i j=true:=@YS (0<j/\j<1073741824) (Classical.propDecidable _) ⟨h,h2⟩;simp[ZbW,intOp,e]
theorem ZaM(a b:Int)(st:Sto):ZL (.int a) (.int b) st = .ok (.int (a+b)) st:=rfl
theorem Ziu(a b:Int)(st:Sto):Zdm (.int a) (.int b) st = .ok (.int (a - b)) st:=rfl
section
variable{α β:Type}{ρ:Ev}{st:Sto}{f fa fb fc fo:DE}{ta tb t:DT}{g g':DS}{da:DA}{i:Nat}{G:D->D->Sto->Out D}{H:D->D->Sto->Out (List D)}
@[simp] theorem Zbx(a:α)(st:Sto)(k:α->Sto->Out β):(Out.ok a st).bind k=k a st:=rfl
@[simp] theorem ZqZ(k:α->Sto->Out β):(Out.bad:Out α).bind k = .bad:=rfl
@[simp] theorem Zbk(a:α)(st:Sto)(k:α->Sto->OutS):(Out.ok a st).to k=k a st:=rfl
@[simp] theorem Zcb:Za i ρ st=match ρ[i]? with
 | some (some d) => .ok d st
 | _ => .bad:=rfl
@[simp] theorem z_C(d:D):dC d ρ st = .ok d st:=rfl
@[simp] theorem ZqX:Zl G fa fb ρ st=(fa ρ st).bind fun x st1=>(fb ρ st1).bind fun y st2=>G x y st2:=rfl
@[simp] theorem Zq4:ZbE H fa fb ρ st=(fa ρ st).bind fun x st1=>(fb ρ st1).bind fun y st2=>H x y st2:=rfl
@[simp] theorem z_B:dB f ρ st=(f ρ st).bind asB:=rfl
@[simp] theorem Zrb(b:Bool):asB (.bl b) st = .ok b st:=rfl
@[simp] theorem Zq8(b:Int):ZfB (.int b) st = .ok (some b) st:=rfl
@[simp] theorem Zrh:Zgc ta tb ρ st=(ta ρ st).bind fun x st1=>if x=true then tb ρ st1 else .ok false st1:=rfl
@[simp] theorem Zrl:Zfu ta ρ st=(ta ρ st).bind fun x st1 => .ok (!x) st1:=rfl
@[simp] theorem ZqO:Zd6 fa fb ρ st=(fa ρ st).bind fun d st1=>(asB d st1).bind fun x st2=>if x=true then fb ρ st2 else .ok (.bl false) st2:=rfl
@[simp] theorem ZlE:Zg ρ st = .ok [] st:=rfl
@[simp] theorem Zoe:Zc f da ρ st=(f ρ st).bind fun x st1=>(da ρ st1).bind fun xs st2 => .ok (x :: xs) st2:=rfl
@[simp] theorem Zrf:ZdN da ρ st=(da ρ st).bind fun xs st1=>if xs.length<=small then .ok (.tup xs) st1 else .bad:=rfl
@[simp] theorem Zq5:Zax da ρ st=(da ρ st).bind fun xs st1=>if xs.length<=small then .ok xs st1 else .bad:=rfl
@[simp] theorem z_F:dF da ρ st=(da ρ st).bind fun xs st1 => .ok (.lst xs) st1:=rfl
@[simp] theorem Zrg{γ:D->Option Int->Option Int->Sto->Out α}{l h:DO}:dSl γ f l h ρ st=(f ρ st).bind fun x st1=>(l ρ st1).bind fun lo st2=>(h ρ st2).bind fun hi st3=>γ x lo hi st3:=rfl
@[simp] theorem ZqU:ZaF ρ st = .ok none st:=rfl
@[simp] theorem ZqQ:ZaD f ρ st=(f ρ st).bind ZfB:=rfl
@[simp] theorem ZqR{γ:List D->Sto->Out α}:Zn γ da ρ st=(da ρ st).bind γ:=rfl
@[simp] theorem Zrd{caps:List Nat}{nT:Nat}{fi:DI}{tg:TgD}:Zak caps nT fi tg t f ρ st=(fi ρ st).bind fun q st1=>ZG q.2 tg t f q.1 (Zaa ρ caps nT) st1 []:=rfl
@[simp] theorem ZqP:Z5 f ρ st=(f ρ st).bind fun d st1=>match itemsOf st1 d with
 | some xs => .ok (xs,fun st=>itemsOf st d=some xs) st1
 | none => .bad:=rfl
@[simp] theorem Zra:ZdG f ρ st=(f ρ st).bind fun d st1=>match d with
 | .int i => .ok (.int (-i)) st1
 | _ => .bad:=rfl
@[simp] theorem Zrn:ZbB ρ st = .nx ρ st:=rfl
@[simp] theorem Zq0:Zr g g' ρ st=match g ρ st with
 | .nx ρ' st'=>g' ρ' st'
 | r=>r:=rfl
@[simp] theorem ZqS:Zed f ρ st=(f ρ st).to fun _ st1 => .nx ρ st1:=rfl
@[simp] theorem Zro:ZM f ρ st=(f ρ st).to fun d st1 => .rt d st1:=rfl
@[simp] theorem Zq9:sIf t g g' ρ st=(t ρ st).to fun x st1=>if x=true then g ρ st1 else g' ρ st1:=rfl
@[simp] theorem Zq6:Zz i f ρ st=(f ρ st).to fun d st1 => .nx (ρ.set i (some d)) st1:=rfl
@[simp] theorem Zrj:Zcl i da ρ st=(da ρ st).to fun ds st1 => .nx (ρ.set i (some (.res st1.length))) (st1++[.lst ds]):=rfl
@[simp] theorem Za8{fi:DI}{tg:TgD}:ZaO fi tg g ρ st=(fi ρ st).to fun q st1=>ZX q.2 tg g q.1 ρ st1:=rfl
@[simp] theorem Zo1{N n:Nat}{ds:List D}:ZH N n g ds st=if ds.length=n then (match g (ds.map some++List.replicate (N - n) none) st with
 | .nx _ st' => .ok .non st'
 | .rt d st' => .ok d st'
 | _ => .bad) else .bad:=rfl
@[simp] theorem ZqN(a b:Int)(st:Sto):ZL (.int a) (.int b) st = .ok (.int (a+b)) st:=rfl
@[simp] theorem Zre(a b:Int)(st:Sto):Zdm (.int a) (.int b) st = .ok (.int (a - b)) st:=rfl
theorem Z8{n:Nat}(h:n<=1000):n<=small:=YH h (by decide)
@[simp] theorem Zrc:(0:Nat)<=small:=YT _
@[simp] theorem ZqT:(1:Nat)<=small:=by decide
@[simp] theorem Zrk:(2:Nat)<=small:=by decide
@[simp] theorem ZqW:(3:Nat)<=small:=by decide
@[simp] theorem Zq3:(4:Nat)<=small:=by decide
@[simp] theorem Zq1:(5:Nat)<=small:=by decide
@[simp] theorem Zri:(6:Nat)<=small:=by decide
end
end DL
end
section
namespace K60
open PySem L2 DL
def top(i:Nat):Stmt:=PySem.Challenge.pw_cardplaces_k60_visits.main.body.getD i (.Pass ⟨0,0,0,0⟩)
noncomputable abbrev Zcj:Stmt:=top 13
theorem Zl0:FnScope ["_law_script", "_law_k"] ["_law_script", "_law_k"] (Ze Zcj):=⟨rfl,rfl,rfl,by decide +kernel,rfl,by decide +kernel,by decide +kernel⟩
def Zha:DS:=(Zr (sIf (dB (Zl eqD (Za 0) (dF (Zax Zg)))) (ZM (Zl Zaw (dC (.int 7)) (Za 1))) ZbB) (ZM (Zl ZL (Zl ixD (Za 0) (Zl Zbg (Za 1) (Zn ZK (Zc (Za 0) Zg)))) (Zl Zaw (dC (.int 6553)) (Zl ZbW (Za 1) (Zn ZK (Zc (Za 0) Zg)))))))
def ZcY:FD:=ZH 2 2 (Zha)
noncomputable abbrev ZcB:Stmt:=top 14
theorem scz_law_drawn:FnScope ["_law_script", "_law_k", "_law_many", "_law_cell_here"] ["_law_script", "_law_k", "_law_many"] (Ze ZcB):=⟨rfl,rfl,rfl,by decide +kernel,rfl,by decide +kernel,by decide +kernel⟩
def ZjD:DS:=(Zr (Zz 3 (Zl Zbg (Zl ZL (Zl Zaw (Zl Zbg (Zn ZcY (Zc (Za 0) (Zc (Za 1) Zg))) (dC (.int 2147483563))) (dC (.int 69069))) (Zl Zaw (dC (.int 104723)) (Zl ZL (Za 1) (dC (.int 1))))) (dC (.int 2147483563)))) (Zr (Zz 3 (Zl Zbg (Zl ZL (Zl Zaw (Za 3) (Za 3)) (Zl ZbW (Za 3) (dC (.int 3)))) (dC (.int 2147483399)))) (ZM (Zl Zbg (Zl ZbW (Zl Zbg (Zl ZL (Zl Zaw (Za 3) (Za 3)) (Zl ZbW (Za 3) (dC (.int 7)))) (dC (.int 2147483647))) (dC (.int 11))) (Za 2)))))
def Zad:FD:=ZH 4 3 (ZjD)
noncomputable abbrev Zb7:Stmt:=top 15
theorem ZoP:FnScope ["_law_script", "_law_at"] ["_law_script", "_law_at"] (Ze Zb7):=⟨rfl,rfl,rfl,by decide +kernel,rfl,by decide +kernel,by decide +kernel⟩
def Zgh:DE:=(Zl ixD (dC (.str "abc")) (Zn Zad (Zc (Za 1) (Zc (Zl ZL (Zl ZL (Za 2) (dC (.int 1))) (Za 0)) (Zc (dC (.int 3)) Zg)))))
def ZjG:DS:=(ZM (Zn ZdK (Zc (dF (Zak [0,1] 1 (Zcn (Zc (Zn Zad (Zc (Za 0) (Zc (Za 1) (Zc (dC (.int 4)) Zg)))) Zg)) (Zw 0) Zah Zgh)) Zg)))
def Zbh:FD:=ZH 2 2 (ZjG)
noncomputable abbrev ZbL:Stmt:=top 16
theorem scz_law_places:FnScope ["_law_script", "_law_at", "_law_some"] ["_law_script", "_law_at"] (Ze ZbL):=⟨rfl,rfl,rfl,by decide +kernel,rfl,by decide +kernel,by decide +kernel⟩
def Zf8:DE:=(Zn Zbh (Zc (Za 1) (Zc (Zl ZL (Zl ZL (Za 2) (dC (.int 1))) (Zl Zaw (dC (.int 5)) (Za 0))) Zg)))
def ZeP:DE:=(Zl ixD (Za 1) (Zn Zad (Zc (Za 2) (Zc (Zl ZL (Zl ZL (Za 3) (dC (.int 30))) (Za 0)) (Zc (dC (.int 4)) Zg)))))
def ZiX:DS:=(Zr (Zz 2 (dF (Zak [0,1] 1 (Zcn (Zc (dC (.int 4)) Zg)) (Zw 0) Zah Zf8))) (ZM (dF (Zak [2,0,1] 1 (Zcn (Zc (Zn Zad (Zc (Za 0) (Zc (Za 1) (Zc (dC (.int 10)) Zg)))) Zg)) (Zw 0) Zah ZeP))))
def ZbY:FD:=ZH 3 2 (ZiX)
noncomputable abbrev Zco:Stmt:=top 3
theorem scztrail:FnScope ["places", "told", "place"] ["places"] (Ze Zco):=⟨rfl,rfl,rfl,by decide +kernel,rfl,by decide +kernel,by decide +kernel⟩
def Zc4:DS:=(sIf (dB (Zl inD (Za 2) (Za 1))) (Zcl 1 (dSl ZQ (Za 1) ZaF (ZaD (Zl ZL (dLM ZbH (Za 1) (Zc (Za 2) Zg)) (dC (.int 1)))))) (Zed (Zdj (Za 1) (Za 2))))
def ZfN:DS:=(Zr (Zcl 1 (Zax Zg)) (Zr (ZaO (Z5 (Za 0)) (Zw 2) Zc4) (ZM (Za 1))))
def Zcm:FD:=ZH 3 1 (ZfN)
noncomputable abbrev Zcy:Stmt:=top 4
theorem sczcounts:FnScope ["places", "many", "place"] ["places"] (Ze Zcy):=⟨rfl,rfl,rfl,by decide +kernel,rfl,by decide +kernel,by decide +kernel⟩
def ZdL:DS:=(Zbt (Za 1) (Za 2) (Zl ZL (ZaW (Za 1) (Za 2) (dC (.int 0))) (dC (.int 1))))
def Zge:DS:=(Zr (Zz 1 ZaQ) (Zr (ZaO (Z5 (Za 0)) (Zw 2) ZdL) (ZM (Za 1))))
def Zbj:FD:=ZH 3 1 (Zge)
noncomputable abbrev ZcG:Stmt:=top 5
theorem sczlast_first:FnScope ["places", "once", "place"] ["places"] (Ze ZcG):=⟨rfl,rfl,rfl,by decide +kernel,rfl,by decide +kernel,by decide +kernel⟩
def Zd9:DS:=(Zbt (Za 1) (Za 2) (dC (.bl true)))
def ZfU:DS:=(Zr (Zz 1 ZaQ) (Zr (ZaO (Zf3 (Za 0)) (Zw 2) Zd9) (ZM (dF (Zn Zdl (Zc (Za 1) Zg))))))
def Za6:FD:=ZH 3 1 (ZfU)
noncomputable abbrev ZcJ:Stmt:=top 6
theorem ZnB:FnScope ["places", "most"] ["places", "most"] (Ze ZcJ):=⟨rfl,rfl,rfl,by decide +kernel,rfl,by decide +kernel,by decide +kernel⟩
def ZhB:DS:=(ZM (dF (dSl ZQ (Za 0) ZaF (ZaD (Zn Zc2 (Zc (Za 1) (Zc (dC (.int 0)) Zg)))))))
def ZbJ:FD:=ZH 2 2 (ZhB)
noncomputable abbrev Zcu:Stmt:=top 7
theorem Zj9:FnScope ["places", "most"] ["places", "most"] (Ze Zcu):=⟨rfl,rfl,rfl,by decide +kernel,rfl,by decide +kernel,by decide +kernel⟩
def Zid:DS:=(ZM (Zn ZbJ (Zc (Zn Za6 (Zc (Za 0) Zg)) (Zc (Za 1) Zg))))
def Zci:FD:=ZH 2 2 (Zid)
noncomputable abbrev ZcI:Stmt:=top 8
theorem sczoftenest:FnScope ["places", "most", "many"] ["places", "most"] (Ze ZcI):=⟨rfl,rfl,rfl,by decide +kernel,rfl,by decide +kernel,by decide +kernel⟩
def ZfG(cv:Nat->Addr):DS:=(Zr (Zz 2 (Zn Zbj (Zc (Za 0) Zg))) (ZM (Zn ZbJ (Zc (dF (Zek (cv 90) 2 (Zn Za6 (Zc (Za 0) Zg)))) (Zc (Za 1) Zg)))))
def ZcD(cv:Nat->Addr):FD:=ZH 3 2 (ZfG cv)
noncomputable abbrev ZcL:Stmt:=top 1
theorem Zpw:FnScope ["place", "other"] ["place", "other"] (Ze ZcL):=⟨rfl,rfl,rfl,by decide +kernel,rfl,by decide +kernel,by decide +kernel⟩
def Zjp:DS:=(ZM (Zl eqD (dSl ZbU (Za 0) ZaF (ZaD (Zn ZK (Zc (Za 1) Zg)))) (Za 1)))
def Zbr:FD:=ZH 2 2 (Zjp)
noncomputable abbrev ZbO:Stmt:=top 9
theorem Zqt:FnScope ["places", "other"] ["places", "other"] (Ze ZbO):=⟨rfl,rfl,rfl,by decide +kernel,rfl,by decide +kernel,by decide +kernel⟩
def Zfh:DE:=(Za 0)
def ZeL:DT:=(dB (Zn Zbr (Zc (Za 0) (Zc (Za 1) Zg))))
def ZgO:DS:=(ZM (Zn ZK (Zc (dF (Zak [1] 1 (Z5 (Za 0)) (Zw 0) ZeL Zfh)) Zg)))
def ZcV:FD:=ZH 2 2 (ZgO)
noncomputable abbrev Zcq:Stmt:=top 4
theorem sczcounts_on_K:FnScope ["places", "many", "place"] ["places"] (Ze Zcq):=⟨rfl,rfl,rfl,by decide +kernel,rfl,by decide +kernel,by decide +kernel⟩
def ZdP:DS:=(Zbt (Za 1) (Za 2) (Zl ZL (ZaW (Za 1) (Za 2) (dC (.int 0))) (dC (.int 1))))
def ZeF:DS:=(Zr (Zz 1 ZdX) (Zr (ZaO (Z5 (Za 0)) (Zw 2) ZdP) (ZM (Za 1))))
def Zcc:FD:=ZH 3 1 (ZeF)
noncomputable abbrev Zb1:Stmt:=top 10
theorem sczbranches:FnScope ["places", "other", "length", "words"] ["places", "other"] (Ze Zb1):=⟨rfl,rfl,rfl,by decide +kernel,rfl,by decide +kernel,by decide +kernel⟩
def ZeM:DE:=(Zl ixD (Za 0) (Za 1))
def Zgo:DT:=(Zgc (dB (Zn Zbr (Zc (Za 0) (Zc (Za 2) Zg)))) (dB (Zl gtD (Zn ZK (Zc (Za 0) Zg)) (Za 1))))
def ZgG:DS:=(Zr (Zz 2 (Zn ZK (Zc (Za 1) Zg))) (Zr (Zz 3 (dF (Zak [2,1] 1 (Z5 (Za 0)) (Zw 0) Zgo ZeM))) (ZM (dF (Zd0 (Zn Zcc (Zc (Za 3) Zg)))))))
def Zcz:FD:=ZH 4 2 (ZgG)
noncomputable abbrev Zbb:Stmt:=top 17
theorem scz_law_is_branched:FnScope ["_law_places_here", "_law_other", "_law_some", "_law_words", "_law_due"] ["_law_places_here", "_law_other"] (Ze Zbb):=⟨rfl,rfl,rfl,by decide +kernel,rfl,by decide +kernel,by decide +kernel⟩
def Zfx:DE:=(Za 0)
def ZeZ:DT:=(dB (Zl eqD (dSl ZbU (Za 0) ZaF (ZaD (Zn ZK (Zc (Za 1) Zg)))) (Za 1)))
def ZeA:DE:=(Zl ixD (Za 0) (Zn ZK (Zc (Za 1) Zg)))
def Ze3:DT:=(dB (Zl gtD (Zn ZK (Zc (Za 0) Zg)) (Zn ZK (Zc (Za 1) Zg))))
def Zf1:DE:=(ZdN (Zc (Za 0) (Zc (dLM Zc9 (Za 1) (Zc (Za 0) Zg)) Zg)))
def Zjn:DS:=(Zr (Zz 2 (dF (Zak [1] 1 (Z5 (Za 0)) (Zw 0) ZeZ Zfx))) (Zr (Zz 3 (dF (Zak [1] 1 (Z5 (Za 2)) (Zw 0) Ze3 ZeA))) (Zr (Zz 4 (dF (Zak [3] 1 (Z5 (dF (Zn Zdz (Zc (Za 3) Zg)))) (Zw 0) Zah Zf1))) (ZM (Zd6 (Zl eqD (Zn ZcV (Zc (Za 0) (Zc (Za 1) Zg))) (Zn ZK (Zc (Za 2) Zg))) (Zl eqD (Zn Zcz (Zc (Za 0) (Zc (Za 1) Zg))) (Za 4)))))))
def Zb0:FD:=ZH 5 2 (Zjn)
noncomputable abbrev ZcA:Stmt:=top 11
theorem sczstays:FnScope ["places", "moments", "end", "told", "ends", "place", "moment", "until"] ["places", "moments", "end"] (Ze ZcA):=⟨rfl,rfl,rfl,by decide +kernel,rfl,by decide +kernel,by decide +kernel⟩
def Zei:DS:=(Zbt (Za 3) (Za 5) (Zl Zdm (Zl ZL (ZaW (Za 3) (Za 5) (dC (.int 0))) (Za 7)) (Za 6)))
def Ze6:DS:=(Zr (Zz 3 ZaQ) (Zr (Zz 4 (dF (ZbE ZaB (dF (Zn Za2 (Zc (dF (dSl ZQ (Za 1) (ZaD (dC (.int 1))) ZaF)) Zg))) (dF (Zax (Zc (Za 2) Zg)))))) (Zr (ZaO (ZdV (Zc (Za 0) (Zc (Za 1) (Zc (Za 4) Zg)))) (Zat [5,6,7]) Zei) (ZM (Za 3)))))
def ZcX:FD:=ZH 8 3 (Ze6)
noncomputable abbrev Zi:Stmt:=top 18
theorem sczlaw:FnScope ["_law_script", "_law_places_here", "_law_other", "_law_most", "_law_row", "_law_place_here", "_law_many", "_law_last", "_law_rows", "_law_moments", "_law_moment", "_law_due", "_law_at", "_law_held"] ["_law_script"] (Ze Zi):=⟨rfl,rfl,rfl,by decide +kernel,rfl,by decide +kernel,by decide +kernel⟩
def ZjY:Stmt:=(Zs Zi).getD 0 (.Pass ⟨0,0,0,0⟩)
def Zjc:Stmt:=(Zs Zi).getD 1 (.Pass ⟨0,0,0,0⟩)
def Zhz:Stmt:=(Zs Zi).getD 2 (.Pass ⟨0,0,0,0⟩)
def Ziz:Stmt:=(Zs Zi).getD 3 (.Pass ⟨0,0,0,0⟩)
def ZhE:Stmt:=(Zs Zi).getD 4 (.Pass ⟨0,0,0,0⟩)
def Zie:Stmt:=(Zs Zi).getD 5 (.Pass ⟨0,0,0,0⟩)
def Zh1:Stmt:=(Zs Zi).getD 6 (.Pass ⟨0,0,0,0⟩)
def ZgI:Stmt:=(Zs Zi).getD 7 (.Pass ⟨0,0,0,0⟩)
def ZgT:Stmt:=(Zs Zi).getD 8 (.Pass ⟨0,0,0,0⟩)
def Zjd:Stmt:=(Zs Zi).getD 9 (.Pass ⟨0,0,0,0⟩)
def Zgy:Stmt:=(Zs Zi).getD 10 (.Pass ⟨0,0,0,0⟩)
def Zjr:Stmt:=(Zs Zi).getD 11 (.Pass ⟨0,0,0,0⟩)
def Ziv:Stmt:=(Zs Zi).getD 12 (.Pass ⟨0,0,0,0⟩)
def ZgM:Stmt:=(Zs Zi).getD 13 (.Pass ⟨0,0,0,0⟩)
def ZjC:Stmt:=(Zs Zi).getD 14 (.Pass ⟨0,0,0,0⟩)
def Zje:Stmt:=(Zs Zi).getD 15 (.Pass ⟨0,0,0,0⟩)
def Zg8:Stmt:=(Zs Zi).getD 16 (.Pass ⟨0,0,0,0⟩)
def ZjX:Stmt:=(Zs Zi).getD 17 (.Pass ⟨0,0,0,0⟩)
def ZhC:Stmt:=(Zs Zi).getD 18 (.Pass ⟨0,0,0,0⟩)
def Zia:Stmt:=(Zs Zi).getD 19 (.Pass ⟨0,0,0,0⟩)
def Zil:Stmt:=(Zs Zi).getD 20 (.Pass ⟨0,0,0,0⟩)
def Zg1:Stmt:=(Zs Zi).getD 21 (.Pass ⟨0,0,0,0⟩)
def ZeY:DS:=(Zz 1 (Zn ZbY (Zc (Za 0) (Zc (dC (.int 0)) Zg))))
def ZeC:DS:=(Zz 2 (dSl ZbU (Zn Zbh (Zc (Za 0) (Zc (dC (.int 50)) Zg))) ZaF (ZaD (dC (.int 2)))))
def Ze0:DS:=(Zz 3 (Zn Zad (Zc (Za 0) (Zc (dC (.int 56)) (Zc (dC (.int 6)) Zg)))))
def ZeX:DS:=(Zz 4 (dF (Zax Zg)))
def Zd2:DS:=(Zz 4 (dF (ZbE ZaB (dF (dSl ZQ (Za 4) ZaF (ZaD (dLM ZbH (dF (ZbE ZaB (Za 4) (dF (Zax (Zc (Za 5) Zg))))) (Zc (Za 5) Zg))))) (dF (Zax (Zc (Za 5) Zg))))))
def ZfQ:DS:=(ZaO (Z5 (Za 1)) (Zw 5) Zd2)
def Zgg:DS:=(sIf (dB (Zl neD (Zn Zcm (Zc (Za 1) Zg)) (Za 4))) (ZM (dC (.bl false))) ZbB)
def Zg9:DS:=(Zz 6 ZaQ)
def ZeE:DE:=(Za 0)
def ZfO:DT:=(dB (Zl eqD (Za 0) (Za 1)))
def ZdS:DS:=(Zbt (Za 6) (Za 5) (Zn ZK (Zc (dF (Zak [5] 1 (Z5 (Za 1)) (Zw 0) ZfO ZeE)) Zg)))
def Zgp:DS:=(ZaO (Z5 (Za 1)) (Zw 5) ZdS)
def Zfs:DS:=(sIf (dB (Zl Zdw (Zn Zbj (Zc (Za 1) Zg)) (Za 6))) (ZM (dC (.bl false))) ZbB)
def ZfK:DE:=(Za 1)
def ZeN:DT:=(dB (Zl Zds (Za 1) (dF (dSl ZQ (Za 2) (ZaD (Zl ZL (Za 0) (dC (.int 1)))) ZaF))))
def Zem:DS:=(Zz 7 (dF (Zgb (dF (Zak [1] 2 (Zb2 (Za 1)) (Zat [0,1]) ZeN ZfK)) (ZdG (dC (.int 1))))))
def Zgj:DS:=(sIf (dB (Zl neD (Zn Zci (Zc (Za 1) (Zc (Za 3) Zg))) (dF (dSl ZQ (Za 7) ZaF (ZaD (Za 3)))))) (ZM (dC (.bl false))) ZbB)
def Zgm:DE:=(ZdN (Zc (ZdG (ZeH (Za 2) (Za 1))) (Zc (Za 0) Zg)))
def Zeb:DS:=(Zz 8 (dF (Zn Zc3 (Zc (dF (Zak [6] 2 (Zb2 (Za 7)) (Zat [0,1]) Zah Zgm)) Zg))))
def Zgq:DE:=(Zl ixD (Za 2) (Za 1))
def Zd8(cv:Nat->Addr):DS:=(sIf (dB (Zl neD (Zn (ZcD cv) (Zc (Za 1) (Zc (Za 3) Zg))) (dF (dSl ZQ (dF (Zak [7] 2 (Z5 (Za 8)) (Zat [0,1]) Zah Zgq)) ZaF (ZaD (Za 3)))))) (ZM (dC (.bl false))) ZbB)
def Zez:DS:=(sIf (Zfu (dB (Zn Zb0 (Zc (Za 1) (Zc (Za 2) Zg))))) (ZM (dC (.bl false))) ZbB)
def ZeG:DS:=(Zcl 9 (Zax Zg))
def Zjg:DS:=(Zz 10 (dC (.int 0)))
def Zea:DS:=(Zr (Zz 10 (Zl ZL (Zl ZL (Za 10) (dC (.int 1))) (Zn Zad (Zc (Za 0) (Zc (Zl ZL (dC (.int 60)) (Zn ZK (Zc (Za 9) Zg))) (Zc (dC (.int 9)) Zg)))))) (Zed (Zdj (Za 9) (Za 10))))
def ZeQ:DS:=(ZaO (Z5 (Za 1)) (Zw 5) Zea)
def ZeU:DS:=(Zz 10 (Zl ZL (Za 10) (Zn Zad (Zc (Za 0) (Zc (dC (.int 80)) (Zc (dC (.int 9)) Zg))))))
def ZgH:DS:=(Zz 11 ZaQ)
def ZdJ:DS:=(Zbt (Za 11) (Za 5) (Zl Zdm (Zl ZL (ZaW (Za 11) (Za 5) (dC (.int 0))) (Zl ixD (dF (ZbE ZaB (Za 9) (dF (Zax (Zc (Za 10) Zg))))) (Zl ZL (Za 12) (dC (.int 1))))) (Zl ixD (Za 9) (Za 12))))
def Zfq:DS:=(ZaO (Zb2 (Za 1)) (Zat [12,5]) ZdJ)
def ZeR:DS:=(Zz 13 (dF (Zax (Zc (dF (Zn Za2 (Zc (Za 1) Zg))) (Zc (dF (Zn Za2 (Zc (Za 9) Zg))) Zg)))))
def Ze1:DS:=(ZM (Zd6 (Zl Zda (Zn ZcX (Zc (Za 1) (Zc (Za 9) (Zc (Za 10) Zg)))) (Za 11)) (Zl eqD (dF (Zax (Zc (Za 1) (Zc (Za 9) Zg)))) (Za 13))))
def Zfj(cv:Nat->Addr):DS:=(Zr ZeY (Zr ZeC (Zr Ze0 (Zr ZeX (Zr ZfQ (Zr Zgg (Zr Zg9 (Zr Zgp (Zr Zfs (Zr Zem (Zr Zgj (Zr Zeb (Zr (Zd8 cv) (Zr Zez (Zr ZeG (Zr Zjg (Zr ZeQ (Zr ZeU (Zr ZgH (Zr Zfq (Zr ZeR Ze1)))))))))))))))))))))
def Zdh(cv:Nat->Addr):FD:=ZH 14 1 (Zfj cv)
section
variable{P:P4}{w:World}{K:P1}{mg:Str->Option P6}{base:Heap}{cv:Nat->Addr}
theorem ZoJ{f:Addr}{fd:P5}(F:Fun K "_law_cell" "_law_cell" Zcj f fd)(hm:mg "_law_cell" = some (.ref f))(hb:Binds K fd ["_law_script", "_law_k"] [])(b_len:mg "len" = none):FnAt P w K mg base "_law_cell" 1 ZcY :=
 fnAt (k:=0) F Zl0 hm hb fun cdv A outer s H E hr=>(Zu (Zcg (ZaK (Zb4 hr.units) (Zb 0) (ZA (Za4 Zm))) (ZC (ZS (Zv Zb6 Zt (Zb 1)))) ZcN) (ZC (ZS (Zv ZY (Zbv (Zb 0) (Zv ZcK (Zb 1) (Zar Zav rfl b_len Wj (Zf (Zb 0) Zm)))) (Zv Zb6 Zt (Zv ZdZ (Zb 1) (Zar Zav rfl b_len Wj (Zf (Zb 0) Zm))))))))
theorem Zoh{f:Addr}{fd:P5}(F:Fun K "_law_drawn" "_law_drawn" ZcB f fd)(hm:mg "_law_drawn" = some (.ref f))(hb:Binds K fd ["_law_script", "_law_k", "_law_many"] [])(hz_law_cell:FnAt P w K mg base "_law_cell" 1 ZcY):FnAt P w K mg base "_law_drawn" 2 Zad :=
 fnAt (k:=1) F scz_law_drawn hm hb fun cdv A outer s H E hr=>(Zu (ZR 3 scz_law_drawn.nd rfl (by first | exact Or.inl rfl | exact Or.inr rfl) (Zv ZcK (Zv ZY (Zv Zb6 (Zv ZcK (ZJ hz_law_cell hr (by decide) rfl (Zf (Zb 0) (Zf (Zb 1) Zm))) Zt) Zt) (Zv Zb6 Zt (Zv ZY (Zb 1) Zt))) Zt)) (Zu (ZR 3 scz_law_drawn.nd rfl (by first | exact Or.inl rfl | exact Or.inr rfl) (Zv ZcK (Zv ZY (Zv Zb6 (Zb 3) (Zb 3)) (Zv ZdZ (Zb 3) Zt)) Zt)) (ZC (ZS (Zv ZcK (Zv ZdZ (Zv ZcK (Zv ZY (Zv Zb6 (Zb 3) (Zb 3)) (Zv ZdZ (Zb 3) Zt)) Zt) Zt) (Zb 2))))))
theorem Zm5{f:Addr}{fd:P5}(F:Fun K "_law_place" "_law_place" Zb7 f fd)(hm:mg "_law_place" = some (.ref f))(hb:Binds K fd ["_law_script", "_law_at"] [])(b_range:mg "range" = none)(b_tuple:mg "tuple" = none)(hz_law_drawn:FnAt P w K mg base "_law_drawn" 2 Zad):FnAt P w K mg base "_law_place" 3 Zbh :=
 fnAt (k:=2) F ZoP hm hb fun cdv A outer s H E hr=>(ZC (ZS (Zn3 Zqo rfl b_tuple PyProof.Rows.boot_tuple (Zf (ZA (Za9 rfl ⟨Blk.of (N:=["_law_k", "_law_script", "_law_at"]) (caps:=[0,1]) (nT:=1) (by show Zas (Ze Zb7) _ ["_law_script", "_law_at"] _ _ _=true; decide +kernel),fun _ _ _ _=>(Zai 0 (by show (["_law_k", "_law_script", "_law_at"]:List Str).Nodup; decide +kernel) rfl (by first | exact Or.inl rfl | exact Or.inr rfl)),fun _ _ _ _=>ZcC,fun _ _ _ _=>(Zbv Zmd (ZJ hz_law_drawn hr (by decide) rfl (Zf (Zb 1) (Zf (Zv ZY (Zv ZY (Zb 2) Zt) (Zb 0)) (Zf Zt Zm)))))⟩ (Zfd rfl b_range (Zf (ZJ hz_law_drawn hr (by decide) rfl (Zf (Zb 0) (Zf (Zb 1) (Zf Zt Zm)))) Zm)))) Zm))))
theorem ZoD{f:Addr}{fd:P5}(F:Fun K "_law_places" "_law_places" ZbL f fd)(hm:mg "_law_places" = some (.ref f))(hb:Binds K fd ["_law_script", "_law_at"] [])(b_range:mg "range" = none)(hz_law_drawn:FnAt P w K mg base "_law_drawn" 2 Zad)(hz_law_place:FnAt P w K mg base "_law_place" 3 Zbh):FnAt P w K mg base "_law_places" 4 ZbY :=
 fnAt (k:=3) F scz_law_places hm hb fun cdv A outer s H E hr=>(Zu (ZR 2 scz_law_places.nd rfl (.inr rfl) (ZA (Za9 rfl ⟨Blk.of (N:=["_law_k", "_law_script", "_law_at"]) (caps:=[0,1]) (nT:=1) (by show Zas (Ze ZbL) _ ["_law_script", "_law_at", "_law_some"] _ _ _=true; decide +kernel),fun _ _ _ _=>(Zai 0 (by show (["_law_k", "_law_script", "_law_at"]:List Str).Nodup; decide +kernel) rfl (by first | exact Or.inl rfl | exact Or.inr rfl)),fun _ _ _ _=>ZcC,fun _ _ _ _=>(ZJ hz_law_place hr (by decide) rfl (Zf (Zb 1) (Zf (Zv ZY (Zv ZY (Zb 2) Zt) (Zv Zb6 Zt (Zb 0))) Zm)))⟩ (Zfd rfl b_range (Zf Zt Zm))))) (ZC (ZS (ZA (Za9 rfl ⟨Blk.of (N:=["_law_k", "_law_some", "_law_script", "_law_at"]) (caps:=[2,0,1]) (nT:=1) (by show Zas (Ze ZbL) _ ["_law_script", "_law_at", "_law_some"] _ _ _=true; decide +kernel),fun _ _ _ _=>(Zai 0 (by show (["_law_k", "_law_some", "_law_script", "_law_at"]:List Str).Nodup; decide +kernel) rfl (by first | exact Or.inl rfl | exact Or.inr rfl)),fun _ _ _ _=>ZcC,fun _ _ _ _=>(Zbv (Zb 1) (ZJ hz_law_drawn hr (by decide) rfl (Zf (Zb 2) (Zf (Zv ZY (Zv ZY (Zb 3) Zt) (Zb 0)) (Zf Zt Zm)))))⟩ (Zfd rfl b_range (Zf (ZJ hz_law_drawn hr (by decide) rfl (Zf (Zb 0) (Zf (Zb 1) (Zf Zt Zm)))) Zm)))))))
theorem Zps{f:Addr}{fd:P5}(F:Fun K "trail" "trail" Zco f fd)(hm:mg "trail" = some (.ref f))(hb:Binds K fd ["places"] [])  : FnAt P w K mg base "trail" 1 Zcm :=
 fnAt (k:=0) F scztrail hm hb fun cdv A outer s H E hr=>(Zu (ZeJ 1 scztrail.nd rfl (by first | exact Or.inl rfl | exact Or.inr rfl) (Za4 Zm)) (Zu (Zbf WZ rfl (ZaE (Zb 0)) (Zai 2 scztrail.nd rfl (by first | exact Or.inl rfl | exact Or.inr rfl)) (ZC (Zcg (ZaK (Zoo hr.units) (Zb 2) (Zb 1)) (ZC (ZeJ 1 scztrail.nd rfl (by first | exact Or.inl rfl | exact Or.inr rfl) (ZbR Zb3 (Zb 1) ZaZ (Za0 (Zv ZY (Ze4 VF PySem.F.type_list_index (Zjv hr.units) (Zb 1) (Zf (Zb 2) Zm)) Zt))))) (ZC (ZiO (Zg3 (Zb 1) (Zb 2))))))) (ZC (ZS (Zb 1)))))
theorem Zkw{f:Addr}{fd:P5}(F:Fun K "counts" "counts" Zcy f fd)(hm:mg "counts" = some (.ref f))(hb:Binds K fd ["places"] [])  : FnAt P w K mg base "counts" 1 Zbj :=
 fnAt (k:=0) F sczcounts hm hb fun cdv A outer s H E hr=>(Zu (ZR 1 sczcounts.nd rfl (by first | exact Or.inl rfl | exact Or.inr rfl) Zdx) (Zu (Zbf WZ rfl (ZaE (Zb 0)) (Zai 2 sczcounts.nd rfl (by first | exact Or.inl rfl | exact Or.inr rfl)) (ZC (Zcv hr.units (Zb 1) (Zb 2) (Zv ZY (Zev hr.units (Zb 1) (Zb 2) Zt) Zt)))) (ZC (ZS (Zb 1)))))
theorem ZpI{f:Addr}{fd:P5}(F:Fun K "last_first" "last_first" ZcG f fd)(hm:mg "last_first" = some (.ref f))(hb:Binds K fd ["places"] [])(b_list:mg "list" = none)(b_reversed:mg "reversed" = none):FnAt P w K mg base "last_first" 1 Za6 :=
 fnAt (k:=0) F sczlast_first hm hb fun cdv A outer s H E hr=>(Zu (ZR 1 sczlast_first.nd rfl (by first | exact Or.inl rfl | exact Or.inr rfl) Zdx) (Zu (Zbf WZ rfl (ZmH rfl b_reversed (Zb 0)) (Zai 2 sczlast_first.nd rfl (by first | exact Or.inl rfl | exact Or.inr rfl)) (ZC (Zcv hr.units (Zb 1) (Zb 2) ZcZ))) (ZC (ZS (ZA (ZdD (Zp1 rfl) rfl b_list Q5 (Zf (Zb 1) Zm)))))))
theorem Zlr{f:Addr}{fd:P5}(F:Fun K "at_most" "at_most" ZcJ f fd)(hm:mg "at_most" = some (.ref f))(hb:Binds K fd ["places", "most"] [])(b_max:mg "max" = none):FnAt P w K mg base "at_most" 1 ZbJ :=
 fnAt (k:=0) F ZnB hm hb fun cdv A outer s H E hr=>(ZC (ZS (ZA (ZbR Zb3 (Zb 0) ZaZ (Za0 (Zar (ZmY rfl) rfl b_max PyProof.Rows.boot_max (Zf (Zb 1) (Zf Zt Zm))))))))
theorem Zj3{f:Addr}{fd:P5}(F:Fun K "recent" "recent" Zcu f fd)(hm:mg "recent" = some (.ref f))(hb:Binds K fd ["places", "most"] [])(hzat_most:FnAt P w K mg base "at_most" 1 ZbJ)(hzlast_first:FnAt P w K mg base "last_first" 1 Za6):FnAt P w K mg base "recent" 2 Zci :=
 fnAt (k:=1) F Zj9 hm hb fun cdv A outer s H E hr=>(ZC (ZS (ZJ hzat_most hr (by decide) rfl (Zf (ZJ hzlast_first hr (by decide) rfl (Zf (Zb 0) Zm)) (Zf (Zb 1) Zm)))))
theorem Zk9{f:Addr}{fd:P5}(F:Fun K "oftenest" "oftenest" ZcI f fd)(hm:mg "oftenest" = some (.ref f))(hb:Binds K fd ["places", "most"] []){c:Addr}(tbc:fd.code = .ref c)(tbh:PySem.W.codeHdIn K c (cv 90)=true)(tba:base.BuiltinsAt mg (cv 90))(b_sorted:mg "sorted" = none)(hzat_most:FnAt P w K mg base "at_most" 1 ZbJ)(hzcounts:FnAt P w K mg base "counts" 1 Zbj)(hzlast_first:FnAt P w K mg base "last_first" 1 Za6):FnAt P w K mg base "oftenest" 2 (ZcD cv) :=
 ZoQ (k:=1) F sczoftenest hm hb tbc fun A outer s H E hr=>(Zu (ZR 2 sczoftenest.nd rfl (by first | exact Or.inl rfl | exact Or.inr rfl) (ZJ hzcounts hr (by decide) rfl (Zf (Zb 0) Zm))) (ZC (ZS (ZJ hzat_most hr (by decide) rfl (Zf (ZA (ZnQ 2 hr rfl b_sorted rfl tbh tba (ZJ hzlast_first hr (by decide) rfl (Zf (Zb 0) Zm)))) (Zf (Zb 1) Zm))))))
theorem Zm2{f:Addr}{fd:P5}(F:Fun K "is_under" "is_under" ZcL f fd)(hm:mg "is_under" = some (.ref f))(hb:Binds K fd ["place", "other"] [])(b_len:mg "len" = none):FnAt P w K mg base "is_under" 1 Zbr :=
 fnAt (k:=0) F Zpw hm hb fun cdv A outer s H E hr=>(ZC (ZS (Zdc (Zb4 hr.units) (Zgk Zff (Zb 0) ZaZ (Za0 (Zar Zav rfl b_len Wj (Zf (Zb 1) Zm)))) (Zb 1))))
theorem ZpW{f:Addr}{fd:P5}(F:Fun K "under" "under" ZbO f fd)(hm:mg "under" = some (.ref f))(hb:Binds K fd ["places", "other"] [])(b_len:mg "len" = none)(hzis_under:FnAt P w K mg base "is_under" 1 Zbr):FnAt P w K mg base "under" 2 ZcV :=
 fnAt (k:=1) F Zqt hm hb fun cdv A outer s H E hr=>(ZC (ZS (Zar Zav rfl b_len Wj (Zf (ZA (Za9 rfl ⟨Blk.of (N:=["place", "other"]) (caps:=[1]) (nT:=1) (by show Zas (Ze ZbO) _ ["places", "other"] _ _ _=true; decide +kernel),fun _ _ _ _=>(Zai 0 (by show (["place", "other"]:List Str).Nodup; decide +kernel) rfl (by first | exact Or.inl rfl | exact Or.inr rfl)),fun _ _ _ _=>Zcw (Zf5 (ZJ hzis_under hr (by decide) rfl (Zf (Zb 0) (Zf (Zb 1) Zm)))),fun _ _ _ _=>(Zb 0)⟩ (ZaE (Zb 0)))) Zm))))
theorem Zly{f:Addr}{fd:P5}(F:Fun K "counts" "counts" Zcq f fd)(hm:mg "counts" = some (.ref f))(hb:Binds K fd ["places"] [])  : FnAt P w K mg base "counts" 1 Zcc :=
 fnAt (k:=0) F sczcounts_on_K hm hb fun cdv A outer s H E hr=>(Zu (ZR 1 sczcounts_on_K.nd rfl (by first | exact Or.inl rfl | exact Or.inr rfl) Zod) (Zu (Zbf WZ rfl (ZaE (Zb 0)) (Zai 2 sczcounts_on_K.nd rfl (by first | exact Or.inl rfl | exact Or.inr rfl)) (ZC (Zcv hr.units (Zb 1) (Zb 2) (Zv ZY (Zev hr.units (Zb 1) (Zb 2) Zt) Zt)))) (ZC (ZS (Zb 1)))))
theorem Zp6{f:Addr}{fd:P5}(F:Fun K "branches" "branches" Zb1 f fd)(hm:mg "branches" = some (.ref f))(hb:Binds K fd ["places", "other"] [])(b_len:mg "len" = none)(b_sorted:mg "sorted" = none)(hzcounts_on_K:FnAt P w K mg base "counts" 1 Zcc)(hzis_under:FnAt P w K mg base "is_under" 1 Zbr):FnAt P w K mg base "branches" 2 Zcz :=
 fnAt (k:=1) F sczbranches hm hb fun cdv A outer s H E hr=>(Zu (ZR 2 sczbranches.nd rfl (by first | exact Or.inl rfl | exact Or.inr rfl) (Zar Zav rfl b_len Wj (Zf (Zb 1) Zm))) (Zu (Zf2 3 rfl ⟨Blk.of (N:=["place", "length", "other"]) (caps:=[2,1]) (nT:=1) (by show Zas (Ze Zb1) _ ["places", "other", "length", "words"] _ _ _=true; decide +kernel),fun _ _ _ _=>(Zai 0 (by show (["place", "length", "other"]:List Str).Nodup; decide +kernel) rfl (by first | exact Or.inl rfl | exact Or.inr rfl)),fun _ _ _ _=>Zcw (PDW.pt (ZpM (Zf5 (ZJ hzis_under hr (by decide) rfl (Zf (Zb 0) (Zf (Zb 2) Zm)))) (Zlh (ZaK Zh7 (Zar Zav rfl b_len Wj (Zf (Zb 0) Zm)) (Zb 1))))),fun _ _ _ _=>(Zbv (Zb 0) (Zb 1))⟩ (ZaE (Zb 0)) sczbranches.nd rfl (by first | exact Or.inl rfl | exact Or.inr rfl)) (ZC (ZS (ZA (Zm4 rfl hr.units rfl b_sorted QP (ZJ hzcounts_on_K hr (by decide) rfl (Zf (Zb 3) Zm))))))))
theorem Zqu{f:Addr}{fd:P5}(F:Fun K "_law_is_branched" "_law_is_branched" Zbb f fd)(hm:mg "_law_is_branched" = some (.ref f))(hb:Binds K fd ["_law_places_here", "_law_other"] [])(b_len:mg "len" = none)(b_set:mg "set" = none)(b_sorted:mg "sorted" = none)(hzbranches:FnAt P w K mg base "branches" 2 Zcz)(hzunder:FnAt P w K mg base "under" 2 ZcV):FnAt P w K mg base "_law_is_branched" 3 Zb0 :=
 fnAt (k:=2) F scz_law_is_branched hm hb fun cdv A outer s H E hr=>(Zu (Zf2 2 rfl ⟨Blk.of (N:=["_law_place_here", "_law_other"]) (caps:=[1]) (nT:=1) (by show Zas (Ze Zbb) _ ["_law_places_here", "_law_other", "_law_some", "_law_words", "_law_due"] _ _ _=true; decide +kernel),fun _ _ _ _=>(Zai 0 (by show (["_law_place_here", "_law_other"]:List Str).Nodup; decide +kernel) rfl (by first | exact Or.inl rfl | exact Or.inr rfl)),fun _ _ _ _=>Zcw (ZaK (Zb4 hr.units) (Zgk Zff (Zb 0) ZaZ (Za0 (Zar Zav rfl b_len Wj (Zf (Zb 1) Zm)))) (Zb 1)),fun _ _ _ _=>(Zb 0)⟩ (ZaE (Zb 0)) scz_law_is_branched.nd rfl (by first | exact Or.inl rfl | exact Or.inr rfl)) (Zu (ZR 3 scz_law_is_branched.nd rfl (.inr rfl) (ZA (Za9 rfl ⟨Blk.of (N:=["_law_place_here", "_law_other"]) (caps:=[1]) (nT:=1) (by show Zas (Ze Zbb) _ ["_law_places_here", "_law_other", "_law_some", "_law_words", "_law_due"] _ _ _=true; decide +kernel),fun _ _ _ _=>(Zai 0 (by show (["_law_place_here", "_law_other"]:List Str).Nodup; decide +kernel) rfl (by first | exact Or.inl rfl | exact Or.inr rfl)),fun _ _ _ _=>Zcw (ZaK Zh7 (Zar Zav rfl b_len Wj (Zf (Zb 0) Zm)) (Zar Zav rfl b_len Wj (Zf (Zb 1) Zm))),fun _ _ _ _=>(Zbv (Zb 0) (Zar Zav rfl b_len Wj (Zf (Zb 1) Zm)))⟩ (ZaE (Zb 2))))) (Zu (Zf2 4 rfl ⟨Blk.of (N:=["_law_word", "_law_words"]) (caps:=[3]) (nT:=1) (by show Zas (Ze Zbb) _ ["_law_places_here", "_law_other", "_law_some", "_law_words", "_law_due"] _ _ _=true; decide +kernel),fun _ _ _ _=>(Zai 0 (by show (["_law_word", "_law_words"]:List Str).Nodup; decide +kernel) rfl (by first | exact Or.inl rfl | exact Or.inr rfl)),fun _ _ _ _=>ZcC,fun _ _ _ _=>(Zir (Zf (Zb 0) (Zf (Ze4 PySem.F.slot_list_count PySem.F.type_list_count (ZkO hr.units) (Zb 1) (Zf (Zb 0) Zm)) Zm)))⟩ (ZaE (ZA (Zls rfl rfl b_sorted QP rfl b_set PyProof.Rows.boot_set (Zf (Zb 3) Zm)))) scz_law_is_branched.nd rfl (by first | exact Or.inl rfl | exact Or.inr rfl)) (ZC (ZS (Zh8 (Zdc (Zb4 hr.units) (ZJ hzunder hr (by decide) rfl (Zf (Zb 0) (Zf (Zb 1) Zm))) (Zar Zav rfl b_len Wj (Zf (Zb 2) Zm))) (Zi4 (Zdc (Zb4 hr.units) (ZJ hzbranches hr (by decide) rfl (Zf (Zb 0) (Zf (Zb 1) Zm))) (Zb 4)))))))))
theorem ZpB{f:Addr}{fd:P5}(F:Fun K "stays" "stays" ZcA f fd)(hm:mg "stays" = some (.ref f))(hb:Binds K fd ["places", "moments", "end"] [])(b_list:mg "list" = none)(b_zip:mg "zip" = none):FnAt P w K mg base "stays" 1 ZcX :=
 fnAt (k:=0) F sczstays hm hb fun cdv A outer s H E hr=>(Zu (ZR 3 sczstays.nd rfl (by first | exact Or.inl rfl | exact Or.inr rfl) Zdx) (Zu (ZR 4 sczstays.nd rfl (by first | exact Or.inl rfl | exact Or.inr rfl) (ZA (Zel Zej (ZA (ZdD ZfJ rfl b_list Q5 (Zf (ZA (ZbR Zb3 (Zb 1) (Za0 Zt) ZaZ)) Zm))) (ZA (Za4 (Zf (Zb 2) Zm)))))) (Zu (Zbf WZ rfl (Znu rfl b_zip (Zf (Zb 0) (Zf (Zb 1) (Zf (Zb 4) Zm)))) (Zdr rfl (ZaN 5 sczstays.nd rfl (by first | exact Or.inl rfl | exact Or.inr rfl) (ZaN 6 sczstays.nd rfl (by first | exact Or.inl rfl | exact Or.inr rfl) (ZaN 7 sczstays.nd rfl (by first | exact Or.inl rfl | exact Or.inr rfl) Zdq)))) (ZC (Zcv hr.units (Zb 3) (Zb 5) (Zv Zgt (Zv ZY (Zev hr.units (Zb 3) (Zb 5) Zt) (Zb 7)) (Zb 6))))) (ZC (ZS (Zb 3))))))
noncomputable abbrev Nzlaw:List Str:=["_law_script", "_law_places_here", "_law_other", "_law_most", "_law_row", "_law_place_here", "_law_many", "_law_last", "_law_rows", "_law_moments", "_law_moment", "_law_due", "_law_at", "_law_held"]
theorem Zmy(hz_law_places:FnAt P w K mg base "_law_places" 4 ZbY)(fA:Addr)(cdv:P6)(A:P3)(outer:List Env)(s:P0)(H:Hp)(E:XK)(hr:Room 4 (A.deeper (PyProof.Rows.envOfC "law" (Ze Zi) s.heap.objs.size fA cdv))):PDs (ZD CX0 P w K mg base Nzlaw "law" (Ze Zi) fA cdv A outer s H E).nox EX0 ZjY ZeY:=(ZR 1 sczlaw.nd rfl (by first | exact Or.inl rfl | exact Or.inr rfl) (ZJ hz_law_places hr (by decide) rfl (Zf (Zb 0) (Zf Zt Zm))))
theorem Znh(hz_law_place:FnAt P w K mg base "_law_place" 3 Zbh)(fA:Addr)(cdv:P6)(A:P3)(outer:List Env)(s:P0)(H:Hp)(E:XK)(hr:Room 4 (A.deeper (PyProof.Rows.envOfC "law" (Ze Zi) s.heap.objs.size fA cdv))):PDs (ZD CX0 P w K mg base Nzlaw "law" (Ze Zi) fA cdv A outer s H E).nox EX0 Zjc ZeC:=(ZR 2 sczlaw.nd rfl (by first | exact Or.inl rfl | exact Or.inr rfl) (Zgk Zff (ZJ hz_law_place hr (by decide) rfl (Zf (Zb 0) (Zf Zt Zm))) ZaZ (Za0 Zt)))
theorem Zlg(hz_law_drawn:FnAt P w K mg base "_law_drawn" 2 Zad)(fA:Addr)(cdv:P6)(A:P3)(outer:List Env)(s:P0)(H:Hp)(E:XK)(hr:Room 4 (A.deeper (PyProof.Rows.envOfC "law" (Ze Zi) s.heap.objs.size fA cdv))):PDs (ZD CX0 P w K mg base Nzlaw "law" (Ze Zi) fA cdv A outer s H E).nox EX0 Zhz Ze0:=(ZR 3 sczlaw.nd rfl (by first | exact Or.inl rfl | exact Or.inr rfl) (ZJ hz_law_drawn hr (by decide) rfl (Zf (Zb 0) (Zf Zt (Zf Zt Zm)))))
theorem Zqi  (fA:Addr) (cdv:P6) (A:P3) (outer:List Env) (s:P0) (H:Hp) (E:XK) (hr:Room 4 (A.deeper (PyProof.Rows.envOfC "law" (Ze Zi) s.heap.objs.size fA cdv))):PDs (ZD CX0 P w K mg base Nzlaw "law" (Ze Zi) fA cdv A outer s H E).nox EX0 Ziz ZeX:=(ZR 4 sczlaw.nd rfl (by first | exact Or.inl rfl | exact Or.inr rfl) (ZA (Za4 Zm)))
theorem ZmA  (fA:Addr) (cdv:P6) (A:P3) (outer:List Env) (s:P0) (H:Hp) (E:XK) (hr:Room 4 (A.deeper (PyProof.Rows.envOfC "law" (Ze Zi) s.heap.objs.size fA cdv))):PDs (ZD CX0 P w K mg base Nzlaw "law" (Ze Zi) fA cdv A outer s H E).nox EX0 ZhE ZfQ:=(Zbf WZ rfl (ZaE (Zb 1)) (Zai 5 sczlaw.nd rfl (by first | exact Or.inl rfl | exact Or.inr rfl)) (ZC (ZR 4 sczlaw.nd rfl (by first | exact Or.inl rfl | exact Or.inr rfl) (ZA (Zel Zej (ZA (ZbR Zb3 (Zb 4) ZaZ (Za0 (Ze4 VF PySem.F.type_list_index (Zjv hr.units) (ZA (Zel Zej (Zb 4) (ZA (Za4 (Zf (Zb 5) Zm))))) (Zf (Zb 5) Zm))))) (ZA (Za4 (Zf (Zb 5) Zm))))))))
theorem Zkg(hztrail:FnAt P w K mg base "trail" 1 Zcm)(fA:Addr)(cdv:P6)(A:P3)(outer:List Env)(s:P0)(H:Hp)(E:XK)(hr:Room 4 (A.deeper (PyProof.Rows.envOfC "law" (Ze Zi) s.heap.objs.size fA cdv))):PDs (ZD CX0 P w K mg base Nzlaw "law" (Ze Zi) fA cdv A outer s H E).nox EX0 Zie Zgg:=(Zcg (ZaK (ZfP hr.units) (ZJ hztrail hr (by decide) rfl (Zf (Zb 1) Zm)) (Zb 4)) (ZC (ZS ZcZ)) ZcN)
theorem Zpo  (fA:Addr) (cdv:P6) (A:P3) (outer:List Env) (s:P0) (H:Hp) (E:XK) (hr:Room 4 (A.deeper (PyProof.Rows.envOfC "law" (Ze Zi) s.heap.objs.size fA cdv))):PDs (ZD CX0 P w K mg base Nzlaw "law" (Ze Zi) fA cdv A outer s H E).nox EX0 Zh1 Zg9:=(ZR 6 sczlaw.nd rfl (by first | exact Or.inl rfl | exact Or.inr rfl) Zdx)
theorem ZlB(b_len:mg "len" = none)(fA:Addr)(cdv:P6)(A:P3)(outer:List Env)(s:P0)(H:Hp)(E:XK)(hr:Room 4 (A.deeper (PyProof.Rows.envOfC "law" (Ze Zi) s.heap.objs.size fA cdv))):PDs (ZD CX0 P w K mg base Nzlaw "law" (Ze Zi) fA cdv A outer s H E).nox EX0 ZgI Zgp:=(Zbf WZ rfl (ZaE (Zb 1)) (Zai 5 sczlaw.nd rfl (by first | exact Or.inl rfl | exact Or.inr rfl)) (ZC (Zcv hr.units (Zb 6) (Zb 5) (Zar Zav rfl b_len Wj (Zf (ZA (Za9 rfl ⟨Blk.of (N:=["_law_one", "_law_place_here"]) (caps:=[5]) (nT:=1) (by show Zas (Ze Zi) _ Nzlaw _ _ _=true; decide +kernel),fun _ _ _ _=>(Zai 0 (by show (["_law_one", "_law_place_here"]:List Str).Nodup; decide +kernel) rfl (by first | exact Or.inl rfl | exact Or.inr rfl)),fun _ _ _ _=>Zcw (ZaK (Zb4 hr.units) (Zb 0) (Zb 1)),fun _ _ _ _=>(Zb 0)⟩ (ZaE (Zb 1)))) Zm)))))
theorem Zl5(hzcounts:FnAt P w K mg base "counts" 1 Zbj)(fA:Addr)(cdv:P6)(A:P3)(outer:List Env)(s:P0)(H:Hp)(E:XK)(hr:Room 4 (A.deeper (PyProof.Rows.envOfC "law" (Ze Zi) s.heap.objs.size fA cdv))):PDs (ZD CX0 P w K mg base Nzlaw "law" (Ze Zi) fA cdv A outer s H E).nox EX0 ZgT Zfs:=(Zcg (ZaK (ZkL hr.units) (ZJ hzcounts hr (by decide) rfl (Zf (Zb 1) Zm)) (Zb 6)) (ZC (ZS ZcZ)) ZcN)
theorem Zn2(b_enumerate:mg "enumerate" = none)(fA:Addr)(cdv:P6)(A:P3)(outer:List Env)(s:P0)(H:Hp)(E:XK)(hr:Room 4 (A.deeper (PyProof.Rows.envOfC "law" (Ze Zi) s.heap.objs.size fA cdv))):PDs (ZD CX0 P w K mg base Nzlaw "law" (Ze Zi) fA cdv A outer s H E).nox EX0 Zjd Zem:=(ZR 7 sczlaw.nd rfl (by first | exact Or.inl rfl | exact Or.inr rfl) (ZA (ZkY (ZA (Za9 rfl ⟨Blk.of (N:=["_law_at", "_law_place_here", "_law_places_here"]) (caps:=[1]) (nT:=2) (by show Zas (Ze Zi) _ Nzlaw _ _ _=true; decide +kernel),fun _ _ _ _=>(Zdr rfl (ZaN 0 (by show (["_law_at", "_law_place_here", "_law_places_here"]:List Str).Nodup; decide +kernel) rfl (by first | exact Or.inl rfl | exact Or.inr rfl) (ZaN 1 (by show (["_law_at", "_law_place_here", "_law_places_here"]:List Str).Nodup; decide +kernel) rfl (by first | exact Or.inl rfl | exact Or.inr rfl) Zdq))),fun _ _ _ _=>Zcw (ZaK (Zoq hr.units) (Zb 1) (ZA (ZbR Zb3 (Zb 2) (Za0 (Zv ZY (Zb 0) Zt)) ZaZ))),fun _ _ _ _=>(Zb 1)⟩ (ZfH rfl b_enumerate (Zb 1)))) (Zji Zt))))
theorem ZqH(hzrecent:FnAt P w K mg base "recent" 2 Zci)(fA:Addr)(cdv:P6)(A:P3)(outer:List Env)(s:P0)(H:Hp)(E:XK)(hr:Room 4 (A.deeper (PyProof.Rows.envOfC "law" (Ze Zi) s.heap.objs.size fA cdv))):PDs (ZD CX0 P w K mg base Nzlaw "law" (Ze Zi) fA cdv A outer s H E).nox EX0 Zgy Zgj:=(Zcg (ZaK (ZfP hr.units) (ZJ hzrecent hr (by decide) rfl (Zf (Zb 1) (Zf (Zb 3) Zm))) (ZA (ZbR Zb3 (Zb 7) ZaZ (Za0 (Zb 3))))) (ZC (ZS ZcZ)) ZcN)
theorem ZnM(b_enumerate:mg "enumerate" = none)(b_sorted:mg "sorted" = none)(fA:Addr)(cdv:P6)(A:P3)(outer:List Env)(s:P0)(H:Hp)(E:XK)(hr:Room 4 (A.deeper (PyProof.Rows.envOfC "law" (Ze Zi) s.heap.objs.size fA cdv))):PDs (ZD CX0 P w K mg base Nzlaw "law" (Ze Zi) fA cdv A outer s H E).nox EX0 Zjr Zeb:=(ZR 8 sczlaw.nd rfl (by first | exact Or.inl rfl | exact Or.inr rfl) (ZA (Zka ZpU rfl b_sorted QP (Zf (ZA (Za9 rfl ⟨Blk.of (N:=["_law_at", "_law_place_here", "_law_many"]) (caps:=[6]) (nT:=2) (by show Zas (Ze Zi) _ Nzlaw _ _ _=true; decide +kernel),fun _ _ _ _=>(Zdr rfl (ZaN 0 (by show (["_law_at", "_law_place_here", "_law_many"]:List Str).Nodup; decide +kernel) rfl (by first | exact Or.inl rfl | exact Or.inr rfl) (ZaN 1 (by show (["_law_at", "_law_place_here", "_law_many"]:List Str).Nodup; decide +kernel) rfl (by first | exact Or.inl rfl | exact Or.inr rfl) Zdq))),fun _ _ _ _=>ZcC,fun _ _ _ _=>(Zir (Zf (Zji (Zph hr.units (Zb 2) (Zb 1))) (Zf (Zb 0) Zm)))⟩ (ZfH rfl b_enumerate (Zb 7)))) Zm))))
theorem Zmg(hzoftenest:FnAt P w K mg base "oftenest" 2 (ZcD cv))(fA:Addr)(cdv:P6)(A:P3)(outer:List Env)(s:P0)(H:Hp)(E:XK)(hr:Room 4 (A.deeper (PyProof.Rows.envOfC "law" (Ze Zi) s.heap.objs.size fA cdv))):PDs (ZD CX0 P w K mg base Nzlaw "law" (Ze Zi) fA cdv A outer s H E).nox EX0 Ziv (Zd8 cv):=(Zcg (ZaK (ZfP hr.units) (ZJ hzoftenest hr (by decide) rfl (Zf (Zb 1) (Zf (Zb 3) Zm))) (ZA (ZbR Zb3 (ZA (Za9 rfl ⟨Blk.of (N:=["_law_number", "_law_at", "_law_last"]) (caps:=[7]) (nT:=2) (by show Zas (Ze Zi) _ Nzlaw _ _ _=true; decide +kernel),fun _ _ _ _=>(Zdr rfl (ZaN 0 (by show (["_law_number", "_law_at", "_law_last"]:List Str).Nodup; decide +kernel) rfl (by first | exact Or.inl rfl | exact Or.inr rfl) (ZaN 1 (by show (["_law_number", "_law_at", "_law_last"]:List Str).Nodup; decide +kernel) rfl (by first | exact Or.inl rfl | exact Or.inr rfl) Zdq))),fun _ _ _ _=>ZcC,fun _ _ _ _=>(Zbv (Zb 2) (Zb 1))⟩ (ZaE (Zb 8)))) ZaZ (Za0 (Zb 3))))) (ZC (ZS ZcZ)) ZcN)
theorem Zma(hz_law_is_branched:FnAt P w K mg base "_law_is_branched" 3 Zb0)(fA:Addr)(cdv:P6)(A:P3)(outer:List Env)(s:P0)(H:Hp)(E:XK)(hr:Room 4 (A.deeper (PyProof.Rows.envOfC "law" (Ze Zi) s.heap.objs.size fA cdv))):PDs (ZD CX0 P w K mg base Nzlaw "law" (Ze Zi) fA cdv A outer s H E).nox EX0 ZgM Zez:=(Zcg (Znr (Zf5 (ZJ hz_law_is_branched hr (by decide) rfl (Zf (Zb 1) (Zf (Zb 2) Zm))))) (ZC (ZS ZcZ)) ZcN)
theorem Zmx  (fA:Addr) (cdv:P6) (A:P3) (outer:List Env) (s:P0) (H:Hp) (E:XK) (hr:Room 4 (A.deeper (PyProof.Rows.envOfC "law" (Ze Zi) s.heap.objs.size fA cdv))):PDs (ZD CX0 P w K mg base Nzlaw "law" (Ze Zi) fA cdv A outer s H E).nox EX0 ZjC ZeG:=(ZeJ 9 sczlaw.nd rfl (by first | exact Or.inl rfl | exact Or.inr rfl) (Za4 Zm))
theorem Zj5  (fA:Addr) (cdv:P6) (A:P3) (outer:List Env) (s:P0) (H:Hp) (E:XK) (hr:Room 4 (A.deeper (PyProof.Rows.envOfC "law" (Ze Zi) s.heap.objs.size fA cdv))):PDs (ZD CX0 P w K mg base Nzlaw "law" (Ze Zi) fA cdv A outer s H E).nox EX0 Zje Zjg:=(ZR 10 sczlaw.nd rfl (by first | exact Or.inl rfl | exact Or.inr rfl) Zt)
theorem Zkj(b_len:mg "len" = none)(hz_law_drawn:FnAt P w K mg base "_law_drawn" 2 Zad)(fA:Addr)(cdv:P6)(A:P3)(outer:List Env)(s:P0)(H:Hp)(E:XK)(hr:Room 4 (A.deeper (PyProof.Rows.envOfC "law" (Ze Zi) s.heap.objs.size fA cdv))):PDs (ZD CX0 P w K mg base Nzlaw "law" (Ze Zi) fA cdv A outer s H E).nox EX0 Zg8 ZeQ:=(Zbf WZ rfl (ZaE (Zb 1)) (Zai 5 sczlaw.nd rfl (by first | exact Or.inl rfl | exact Or.inr rfl)) (Zu (ZR 10 sczlaw.nd rfl (by first | exact Or.inl rfl | exact Or.inr rfl) (Zv ZY (Zv ZY (Zb 10) Zt) (ZJ hz_law_drawn hr (by decide) rfl (Zf (Zb 0) (Zf (Zv ZY Zt (Zar Zav rfl b_len Wj (Zf (Zb 9) Zm))) (Zf Zt Zm)))))) (ZC (ZiO (Zg3 (Zb 9) (Zb 10))))))
theorem ZpR(hz_law_drawn:FnAt P w K mg base "_law_drawn" 2 Zad)(fA:Addr)(cdv:P6)(A:P3)(outer:List Env)(s:P0)(H:Hp)(E:XK)(hr:Room 4 (A.deeper (PyProof.Rows.envOfC "law" (Ze Zi) s.heap.objs.size fA cdv))):PDs (ZD CX0 P w K mg base Nzlaw "law" (Ze Zi) fA cdv A outer s H E).nox EX0 ZjX ZeU:=(ZR 10 sczlaw.nd rfl (by first | exact Or.inl rfl | exact Or.inr rfl) (Zv ZY (Zb 10) (ZJ hz_law_drawn hr (by decide) rfl (Zf (Zb 0) (Zf Zt (Zf Zt Zm))))))
theorem ZmP  (fA:Addr) (cdv:P6) (A:P3) (outer:List Env) (s:P0) (H:Hp) (E:XK) (hr:Room 4 (A.deeper (PyProof.Rows.envOfC "law" (Ze Zi) s.heap.objs.size fA cdv))):PDs (ZD CX0 P w K mg base Nzlaw "law" (Ze Zi) fA cdv A outer s H E).nox EX0 ZhC ZgH:=(ZR 11 sczlaw.nd rfl (by first | exact Or.inl rfl | exact Or.inr rfl) Zdx)
theorem Zqn(b_enumerate:mg "enumerate" = none)(fA:Addr)(cdv:P6)(A:P3)(outer:List Env)(s:P0)(H:Hp)(E:XK)(hr:Room 4 (A.deeper (PyProof.Rows.envOfC "law" (Ze Zi) s.heap.objs.size fA cdv))):PDs (ZD CX0 P w K mg base Nzlaw "law" (Ze Zi) fA cdv A outer s H E).nox EX0 Zia Zfq:=(Zbf WZ rfl (ZfH rfl b_enumerate (Zb 1)) (Zdr rfl (ZaN 12 sczlaw.nd rfl (by first | exact Or.inl rfl | exact Or.inr rfl) (ZaN 5 sczlaw.nd rfl (by first | exact Or.inl rfl | exact Or.inr rfl) Zdq))) (ZC (Zcv hr.units (Zb 11) (Zb 5) (Zv Zgt (Zv ZY (Zev hr.units (Zb 11) (Zb 5) Zt) (Zbv (ZA (Zel Zej (Zb 9) (ZA (Za4 (Zf (Zb 10) Zm))))) (Zv ZY (Zb 12) Zt))) (Zbv (Zb 9) (Zb 12))))))
theorem Znz(b_list:mg "list" = none)(fA:Addr)(cdv:P6)(A:P3)(outer:List Env)(s:P0)(H:Hp)(E:XK)(hr:Room 4 (A.deeper (PyProof.Rows.envOfC "law" (Ze Zi) s.heap.objs.size fA cdv))):PDs (ZD CX0 P w K mg base Nzlaw "law" (Ze Zi) fA cdv A outer s H E).nox EX0 Zil ZeR:=(ZR 13 sczlaw.nd rfl (by first | exact Or.inl rfl | exact Or.inr rfl) (ZA (Za4 (Zf (ZA (ZdD ZfJ rfl b_list Q5 (Zf (Zb 1) Zm))) (Zf (ZA (ZdD ZfJ rfl b_list Q5 (Zf (Zb 9) Zm))) Zm)))))
theorem Zj7(hzstays:FnAt P w K mg base "stays" 1 ZcX)(fA:Addr)(cdv:P6)(A:P3)(outer:List Env)(s:P0)(H:Hp)(E:XK)(hr:Room 4 (A.deeper (PyProof.Rows.envOfC "law" (Ze Zi) s.heap.objs.size fA cdv))):PDs (ZD CX0 P w K mg base Nzlaw "law" (Ze Zi) fA cdv A outer s H E).nox EX0 Zg1 Ze1:=(ZS (Zh8 (Zdc (ZlG hr.units) (ZJ hzstays hr (by decide) rfl (Zf (Zb 1) (Zf (Zb 9) (Zf (Zb 10) Zm)))) (Zb 11)) (Zi4 (Zdc (Zb4 hr.units) (ZA (Za4 (Zf (Zb 1) (Zf (Zb 9) Zm)))) (Zb 13)))))
theorem Zqq{f:Addr}{fd:P5}(F:Fun K "law" "law" Zi f fd)(b_enumerate:mg "enumerate" = none)(b_len:mg "len" = none)(b_list:mg "list" = none)(b_sorted:mg "sorted" = none)(hz_law_drawn:FnAt P w K mg base "_law_drawn" 2 Zad)(hz_law_is_branched:FnAt P w K mg base "_law_is_branched" 3 Zb0)(hz_law_place:FnAt P w K mg base "_law_place" 3 Zbh)(hz_law_places:FnAt P w K mg base "_law_places" 4 ZbY)(hzcounts:FnAt P w K mg base "counts" 1 Zbj)(hzoftenest:FnAt P w K mg base "oftenest" 2 (ZcD cv))(hzrecent:FnAt P w K mg base "recent" 2 Zci)(hzstays:FnAt P w K mg base "stays" 1 ZcX)(hztrail:FnAt P w K mg base "trail" 1 Zcm):FnOk P w K mg base CX0 5 f fd ["_law_script"] (spD K (Zdh cv)) :=
 fnD (k:=4) F sczlaw fun cdv A outer s H E hr=>(show PDS _ _ [ZjY,Zjc,Zhz,Ziz,ZhE,Zie,Zh1,ZgI,ZgT,Zjd,Zgy,Zjr,Ziv,ZgM,ZjC,Zje,Zg8,ZjX,ZhC,Zia,Zil,Zg1] _ from (Zu (Zmy hz_law_places f cdv A outer s H E hr) (Zu (Znh hz_law_place f cdv A outer s H E hr) (Zu (Zlg hz_law_drawn f cdv A outer s H E hr) (Zu (Zqi  f cdv A outer s H E hr) (Zu (ZmA  f cdv A outer s H E hr) (Zu (Zkg hztrail f cdv A outer s H E hr) (Zu (Zpo  f cdv A outer s H E hr) (Zu (ZlB b_len f cdv A outer s H E hr) (Zu (Zl5 hzcounts f cdv A outer s H E hr) (Zu (Zn2 b_enumerate f cdv A outer s H E hr) (Zu (ZqH hzrecent f cdv A outer s H E hr) (Zu (ZnM b_enumerate b_sorted f cdv A outer s H E hr) (Zu (Zmg hzoftenest f cdv A outer s H E hr) (Zu (Zma hz_law_is_branched f cdv A outer s H E hr) (Zu (Zmx  f cdv A outer s H E hr) (Zu (Zj5  f cdv A outer s H E hr) (Zu (Zkj b_len hz_law_drawn f cdv A outer s H E hr) (Zu (ZpR hz_law_drawn f cdv A outer s H E hr) (Zu (ZmP  f cdv A outer s H E hr) (Zu (Zqn b_enumerate f cdv A outer s H E hr) (Zu (Znz b_list f cdv A outer s H E hr) (ZC (Zj7 hzstays f cdv A outer s H E hr))))))))))))))))))))))))
end
end K60
end
section
namespace K60
open PySem L2 DL
theorem Zcf(i j:Int)(st:Sto)(h:Zch i j=true):Zaw (.int i) (.int j) st = .ok (.int (i * j)) st:=by
 simp[Zaw,intOp,h]
def ZN(ns:List Int)(k:Int):Int:=if ns=[] then 7 * k else ns.getD (k % ns.length).toNat 0+6553 * (k / ns.length)
theorem Zin(xs:List D)(st:Sto):eqD (.scr xs) (.lst []) st = .ok (.bl xs.isEmpty) st:=by
 cases xs <;> rfl
theorem Zlu(xs:List D)(st:Sto):ZK [.scr xs] st = .ok (.int xs.length) st:=rfl
theorem Zln(ns:List Int)(k:Int)(st:Sto)(h0:0<=k)(h1:k<ns.length):ixD (.scr (ns.map .int)) (.int k) st = .ok (.int (ns.getD k.toNat 0)) st:=by
 have e:L2.atI (ns.map D.int) k=some (.int (ns.getD k.toNat 0)):=by
  unfold L2.atI L2.ixN;rw[Yi h0,Yi (by rw[Yp]; exact h1)];have hk:k.toNat<ns.length:=by omega
  simp[Yw,Yd hk]
 simp[ixD,itemsOf,Zj,e]
theorem Zpy(ns:List Int)(hl:ns.length<=63)(k:Int)(st:Sto):ZcY [.scr (ns.map .int),.int k] st = .ok (.int (ZN ns k)) st:=by
 unfold ZcY Zha ZN;by_cases h:ns=[]
 ·subst h;have e1:=Zcf _ _ st (Zct 7 k (by decide) (by decide));have e2:=Zin [] st;simp[e1,e2]
 ·have hp:0<ns.length:=List.length_pos_iff.mpr h;have h1:(0:Int)<(ns.length:Int):=by omega
  have h2:0<=k % (ns.length:Int):=Q4 _ (by omega);have h3:k % (ns.length:Int)<ns.length:=Qr _ h1;have e0:=Zin (ns.map .int) st;have e1:=Zlu (ns.map .int) st;have e2:=mod_int k _ st h1;have e3:=Zef k _ st h1 (by omega:(ns.length:Int)<1073741824);have e4:=Zln ns _ st h2 h3;have e5:=Zcf _ _ st (Zct 6553 (k / ns.length) (by decide) (by decide));rw[Yp] at e1;simp[e0,e1,e2,e3,e4,e5,h]
def Z9(c k:Int):Int:=(c % 2147483563 * 69069+104723 * (k+1)) % 2147483563
def Zbs(a:Int):Int:=(a * a+a / 3) % 2147483399
def Zl1(b m:Int):Int:=(b * b+b / 7) % 2147483647 / 11 % m
def ZT(ns:List Int)(k m:Int):Int:=Zl1 (Zbs (Z9 (ZN ns k) k)) m
theorem ZbV(ns:List Int)(hl:ns.length<=63)(k m:Int)(hm:0<m)(st:Sto):Zad [.scr (ns.map .int),.int k,.int m] st = .ok (.int (ZT ns k m)) st:=by
 have a1:0<=Z9 (ZN ns k) k:=Q4 _ (by decide);have a2:Z9 (ZN ns k) k<2147483563:=Qr _ (by decide);have b1:0<=Zbs (Z9 (ZN ns k) k):=Q4 _ (by decide);have b2:Zbs (Z9 (ZN ns k) k)<2147483399:=Qr _ (by decide);have c0:0<=ZN ns k % 2147483563:=Q4 _ (by decide);have c1:ZN ns k % 2147483563<2147483563:=Qr _ (by decide);have e1:Zaw (.int (ZN ns k % 2147483563)) (.int 69069) st = .ok (.int (ZN ns k % 2147483563 * 69069)) st:=Zcf _ _ _ (Zqz _ _ (by decide) (by decide));have e2:Zaw (.int 104723) (.int (k+1)) st = .ok (.int (104723 * (k+1))) st:=Zcf _ _ _ (Zct _ _ (by decide) (by decide));have e3:Zaw (.int (Z9 (ZN ns k) k)) (.int (Z9 (ZN ns k) k)) st = .ok (.int (Z9 (ZN ns k) k * Z9 (ZN ns k) k)) st:=Zcf _ _ _ (Zct _ _ (by omega) (by omega));have e4:Zaw (.int (Zbs (Z9 (ZN ns k) k))) (.int (Zbs (Z9 (ZN ns k) k))) st = .ok (.int (Zbs (Z9 (ZN ns k) k) * Zbs (Z9 (ZN ns k) k))) st:=Zcf _ _ _ (Zct _ _ (by omega) (by omega));have hA:(ZN ns k % 2147483563 * 69069+104723 * (k+1)) % 2147483563=Z9 (ZN ns k) k:=rfl;have hB:(Z9 (ZN ns k) k * Z9 (ZN ns k) k+Z9 (ZN ns k) k / 3) % 2147483399=Zbs (Z9 (ZN ns k) k):=rfl;have e0:=Zpy ns hl k st;have m1:=fun i=>mod_int i 2147483563 st (by decide);have m2:=fun i=>mod_int i 2147483399 st (by decide);have m3:=fun i=>mod_int i 2147483647 st (by decide);have m4:=fun i=>mod_int i m st hm;have d1:=fun i=>Zef i 3 st (by decide) (by decide);have d2:=fun i=>Zef i 7 st (by decide) (by decide);have d3:=fun i=>Zef i 11 st (by decide) (by decide);unfold Zad ZjD;simp[e0,e1,e2,e3,e4,m1,m2,m3,m4,d1,d2,d3,hA,hB];rfl
theorem ZcQ(ns:List Int)(k m:Int)(hm:0<m):0<=ZT ns k m:=Q4 _ (by omega)
theorem Zcx(ns:List Int)(k m:Int)(hm:0<m):ZT ns k m<m:=Qr _ hm
def Ze9(i:Nat):Str:=⟨#[97+i]⟩
theorem Zn1(i:Int)(st:Sto)(h0:0<=i)(h1:i<3):ixD (.str "abc") (.int i) st = .ok (.str (Ze9 i.toNat)) st:=by
 have:i=0\/i=1\/i=2:=by omega
 rcases this with rfl | rfl | rfl <;> rfl
def ZbF(ns:List Int)(at_:Int):List Str:=(List.range (ZT ns at_ 4).toNat).map fun (i:Nat)=>Ze9 (ZT ns (at_+1+(i:Int)) 3).toNat
theorem ZhY(ns:List Int)(hl:ns.length<=63)(at_:Int)(st:Sto):Zbh [.scr (ns.map .int),.int at_] st = .ok (pl (ZbF ns at_)) st:=by
 have e1:=ZbV ns hl at_ 4 (by decide) st;have h1:=ZcQ ns at_ 4 (by decide);have h2:=Zcx ns at_ 4 (by decide);have e2:ZG (fun _=>True) (Zw 0) Zah Zgh
   ((List.range (ZT ns at_ 4).toNat).map (fun (i:Nat)=>D.int (0+i))) [none,some (.scr (ns.map .int)),some (.int at_)] st [] = .ok ((ZbF ns at_).map .str) st:=by
  rw[Zjm (fun ρ => ∃a,ρ=[a,some (.scr (ns.map .int)),some (.int at_)]) (fun d=>match d with | .int i => .str (Ze9 (ZT ns (at_+1+i) 3).toNat) | _ => .non) trivial _ _ _ ⟨_,rfl⟩ (by simp[small]; omega)]
  ·simp[ZbF,Y0,QC]
  ·rintro x hx ρ ⟨a,rfl⟩;obtain⟨i,_,rfl⟩:=YX.mp hx;refine⟨_,rfl,⟨_,rfl⟩,?_⟩;have e3:=ZbV ns hl (at_+1+(0+(i:Int))) 3 (by decide) st;have e4:=Zn1 (ZT ns (at_+1+(0+(i:Int))) 3) st (ZcQ _ _ _ (by decide)) (Zcx _ _ _ (by decide));simp only[Int.zero_add] at e3 e4;unfold Zgh;simp[e3,e4]
 have h3:Zby (ZT ns at_ 4)=true:=Zft (by omega) (by omega);unfold Zbh ZjG;simp only[Int.zero_add] at e2;simp[e1,e2,h3,Zaa,Zle,Zcn];rfl
def up:Str:=".."
def stay:Str:="."
theorem getL{st:Sto}{xs:List D}{i:Nat}(h:st[i]?=some (.lst xs)):itemsOf st (.res i)=some xs:=by simp[itemsOf,Zj,h]
theorem Zqx{st:Sto}{xs:List D}{i:Nat}(h:st[i]?=some (.lst xs)):ZK [.res i] st = .ok (.int xs.length) st:=by simp[ZK,getL h]
theorem ZhO{ρ:Ev}{st:Sto}{j i:Nat}{xs:List D}{f:DE}{d:D}(hj:ρ[j]?=some (some (.res i)))(h:st[i]?=some (.lst xs))(hf:f ρ st = .ok d st)(hx:xs.length<small):Zdj (Za j) f ρ st = .ok .non (st.set i (.lst (xs++[d]))):=by
 unfold Zdj;simp only[Zcb,hj,Zbx,h,hf,Yi hx]
theorem ZbA{st:Sto}{i:Nat}{s s':S}(h:st[i]?=some s):(st.set i s')[i]?=some s':=by
 rw[W0 (Yo.mp h).1]
theorem Za7(st:Sto)(s:S):(st++[s])[st.length]?=some s:=by simp
theorem Zaz{g g':DS}{ρ ρ':Ev}{st st':Sto}(h:g ρ st = .nx ρ' st'):Zr g g' ρ st=g' ρ' st':=by simp[h]
theorem Zbp{α:Type}(g:α->D)(p:α->Bool)(h:α->D){chk:Sto->Prop}{t:TgD}{cond:DT}{fe:DE}{st:Sto}(IE:Ev->Prop)(hc:chk st):∀(xs:List α) (ρ:Ev) (acc:List D),IE ρ->acc.length+xs.length<=small ->
  (∀x∈xs,∀ρ,IE ρ->∃ρ1,t (g x) ρ=some ρ1/\IE ρ1/\cond ρ1 st = .ok (p x) st/\(p x=true->fe ρ1 st = .ok (h x) st))->ZG chk t cond fe (xs.map g) ρ st acc = .ok (acc++(xs.filter p).map h) st
 | [],ρ,acc,_,_,_=>by simp[ZG,hc]
 | x :: xs,ρ,acc,hI,hl,hx=>by
  obtain⟨ρ1,e1,h1,e2,e3⟩:=hx x Yz ρ hI;rw[Ys];unfold ZG;rw[Yi ⟨hc,by simp at hl; omega⟩,e1];dsimp only;rw[e2];cases hp:p x with
  | true =>
   dsimp only;rw[e3 hp];dsimp only;rw[Zbp g p h IE hc xs ρ1 (acc++[h x]) h1 (by simp at hl ⊢; omega) fun y hy=>hx y (Yv _ hy)];simp[hp]
  | false =>
   dsimp only;rw[Zbp g p h IE hc xs ρ1 acc h1 (by simp at hl ⊢; omega) fun y hy=>hx y (Yv _ hy)];simp[hp]
theorem Zdd{α:Type}(g:α->D)(h:α->D){chk:Sto->Prop}{t:TgD}{fe:DE}{st:Sto}(IE:Ev->Prop)(hc:chk st)(xs:List α)(ρ:Ev)(acc:List D)(hI:IE ρ)(hl:acc.length+xs.length<=small)
  (hx:∀x∈xs,∀ρ,IE ρ->∃ρ1,t (g x) ρ=some ρ1/\IE ρ1/\fe ρ1 st = .ok (h x) st):ZG chk t Zah fe (xs.map g) ρ st acc = .ok (acc++xs.map h) st:=by
 rw[Zbp g (fun _=>true) h IE hc xs ρ acc hI hl fun x hm ρ hi => ?_]
 ·rw[List.filter_eq_self.mpr fun _ _=>rfl]
 ·obtain⟨ρ1,e1,e2,e3⟩:=hx x hm ρ hi;exact⟨ρ1,e1,e2,rfl,fun _=>e3⟩
structure StoK(st st':Sto):Prop where
 fr:∀(j:Nat) (x:S),st[j]?=some x->st'[j]?=some x
 le:st.length<=st'.length
theorem StoK.refl(st:Sto):StoK st st:=⟨fun _ _ h=>h,Yj _⟩
theorem StoK.trans{a b c:Sto}(x:StoK a b)(y:StoK b c):StoK a c:=⟨fun j z h=>y.fr j z (x.fr j z h),YH x.le y.le⟩
theorem StoK.app(st t:Sto):StoK st (st++t):=⟨fun j x h=>by rw[Y6 (Yo.mp h).1]; exact h,by simp⟩
theorem StoK.set{a b:Sto}(x:StoK a b){r:Nat}(hr:a.length<=r)(y:S):StoK a (b.set r y):=⟨fun j z h=>by
 have hj:j<a.length:=(Yo.mp h).1;rw[WS (by omega)];exact x.fr j z h,by rw[QZ]; exact x.le⟩
theorem Z0{g g':DS}{ρ ρ':Ev}{st st':Sto}(h:g ρ st = .nx ρ' st')(h2:∃st2,g' ρ' st' = .rt (.bl true) st2):∃st2,Zr g g' ρ st = .rt (.bl true) st2:=by
 obtain⟨st2,e⟩:=h2;exact⟨st2,(Zaz h).trans e⟩
theorem ZiA{a:D}(h:nice depth a=true)(st:Sto):neD a a st = .ok (.bl false) st:=by
 rw[ZnR h h];simp
theorem Zce{N n:Nat}{g:DS}{ds:List D}{st st':Sto}{d:D}(hl:ds.length=n)(h:g (ds.map some++List.replicate (N - n) none) st = .rt d st'):ZH N n g ds st = .ok d st':=by
 rw[Zo1,Yi hl,h]
theorem ZdI(p:List Str):nice depth (pl p)=true:=Zdf 48 p
theorem Zb8(p:List Str):Zq (pl p)=some (p.map Sum.inr):=by
 show ZaR (p.map D.str)=_
 induction p with
 | nil=>rfl
 | cons x p ih =>
  show (match Zx (.str x),ZaR (p.map D.str) with | some k,some ks=>some (k :: ks) | _,_=>none)=_;rw[ih];rfl
theorem keyT_inj{p q:List Str}:Zq (pl p)=Zq (pl q) ↔ p=q:=by
 rw[Zb8,Zb8,Yu];constructor
 ·intro h
  induction p generalizing q with
  | nil =>
   cases q with
   | nil=>rfl
   | cons y q=>cases h
  | cons x p ih =>
   cases q with
   | nil=>cases h
   | cons y q =>
    rw[Ys,Ys] at h;injection h with h1 h2;injection h1 with h1;rw[h1,ih h2]
 ·intro h; rw[h]
def dpl(f:List Str->D)(ks:List (List Str)):List (D×D):=ks.map fun p=>(pl p,f p)
theorem Zdo(f:List Str->D)(p:List Str):∀ks:List (List Str),ZF Zq (dpl f ks) (pl p)=if p∈ks then some (f p) else none
 | []=>by simp[dpl,ZF]
 | k :: ks=>by
  show (if Zq (pl k)=Zq (pl p) then some (f k) else ZF Zq (dpl f ks) (pl p))=_;rw[Zdo f p ks];by_cases h:k=p
  ·subst h;simp
  ·rw[Yh (fun z=>h (keyT_inj.mp z))];have h':¬ p=k:=fun z=>h z.symm;simp[h']
theorem Zp8(f:List Str->D)(ks:List (List Str))(p:List Str):hasD Zq (dpl f ks) (pl p)=decide (p∈ks):=by
 unfold hasD dpl;rw[List.any_map]
 induction ks with
 | nil=>simp
 | cons k ks ih =>
  rw[QW,ih];by_cases h:k=p
  ·subst h;simp
  ·have h':¬ p=k:=fun z=>h z.symm;have h2:¬ Zq (pl k)=Zq (pl p):=fun z=>h (keyT_inj.mp z);simp[h',h2]
theorem Zjk(f:List Str->D)(ks:List (List Str))(p:List Str)(v:D):putD Zq (dpl f ks) (pl p) v=dpl (fun q=>if q=p then v else f q) (if p∈ks then ks else ks++[p]):=by
 unfold putD;rw[Zp8];by_cases h:p∈ks
 ·rw[Yi (YS h),Yi h];unfold dpl;rw[Y0];refine Wr fun q _ => ?_;show (if Zq (pl q)=Zq (pl p) then (pl q,v) else (pl q,f q))=(pl q,if q=p then v else f q);by_cases e:q=p
  ·rw[Yi (keyT_inj.mpr e),Yi e]
  ·rw[Yh (fun z=>e (keyT_inj.mp z)),Yh e]
 ·rw[Yh (by simpa using h),Yh h];unfold dpl;rw[Wm];congr 1
  ·refine Wr fun q hq => ?_;have:¬ q=p:=fun z=>h (z ▸ hq);show (pl q,f q)=(pl q,if q=p then v else f q);rw[Yh this]
  ·show [(pl p,v)]=[(pl p,if p=p then v else f p)];rw[Yi rfl]
def Zh:List (List Str)->List (List Str)->List (List Str)
 | acc,[]=>acc
 | acc,p :: ps=>Zh (if p∈acc then acc else acc++[p]) ps
theorem Zjh{chk:Sto->Prop}(hchk:∀st,chk st)(c0:Option D)(r:Nat)(st0:Sto)(hr:st0.length<=r):∀(ps:List (List Str)) (e:Option D) (acc:List (List Str)) (f:List Str->D) (st:Sto),(∀p∈acc,f p = .bl true)->acc.length+ps.length<=100->st[r]?=some (.dtt (dpl f acc))->StoK st0 st ->
  ∃e' f' st',ZX chk (Zw 2) Zd9 (ps.map pl) [c0,some (.res r),e] st = .nx [c0,some (.res r),e'] st'/\st'[r]?=some (.dtt (dpl f' (Zh acc ps)))/\StoK st0 st'
 | [],e,acc,f,st,_,_,h,hk=>⟨e,f,st,Zba (hchk st),h,hk⟩
 | p :: ps,e,acc,f,st,hf,hl,h,hk=>by
  have ht:Zw 2 (pl p) [c0,some (.res r),e]=some [c0,some (.res r),some (pl p)]:=rfl;have hput:ZaX st (.res r) (pl p) (.bl true)=some (st.set r (.dtt (dpl (fun q=>if q=p then .bl true else f q) (if p∈acc then acc else acc++[p])))):=by
   have hs:(dpl f acc).length<small:=by
    unfold dpl;rw[Yp];exact Yq (by simp at hl; omega) (Z8 (n:=100) (by omega))
   unfold ZaX;simp only[h];rw[Yi ⟨by rw[Zb8]; rfl,hs⟩,Zjk]
  have hb:Zd9 [c0,some (.res r),some (pl p)] st = .nx [c0,some (.res r),some (pl p)] (st.set r (.dtt (dpl (fun q=>if q=p then .bl true else f q) (if p∈acc then acc else acc++[p])))):=by
   unfold Zd9;rw[ZcH];simp[hput]
  have hlen:(if p∈acc then acc else acc++[p]).length<=acc.length+1:=by split <;> simp
  obtain⟨e',f',st',e1,e2,e3⟩:=Zjh hchk c0 r st0 hr ps (some (pl p)) (if p∈acc then acc else acc++[p]) (fun q=>if q=p then .bl true else f q) _ (fun q hq=>by
   by_cases z:q=p
   ·rw[Yi z]
   ·rw[Yh z];refine hf q ?_;split at hq
    ·exact hq
    ·rcases YR.mp hq with hq | hq
     ·exact hq
     ·exact absurd (YA.mp hq) z) (by simp only[Yx] at hl; omega) (ZbA h) (hk.set hr _)
  refine⟨e',f',st',?_,e2,e3⟩;rw[Ys,Zbm (hchk st) ht hb];exact e1
theorem Zi0(ps:List (List Str))(hl:ps.length<=100)(st:Sto):∃st',Za6 [.lst (ps.map pl)] st = .ok (.lst ((Zh [] ps.reverse).map pl)) st'/\StoK st st':=by
 obtain⟨e',f',st',e1,e2,e3⟩:=Zjh (chk:=fun st=>Zj st (.lst (ps.map pl))=some (ps.map pl)) (fun _=>rfl) (some (.lst (ps.map pl))) st.length st (Yj _) ps.reverse none [] (fun _ => .non) (st++[.dtt []]) (fun p hp=>by cases hp) (by simp; omega) (Za7 _ _) (StoK.app _ _);refine⟨st',?_,e3⟩;have hsq:∀st:Sto,Zj st (.lst (ps.map pl))=some (ps.map pl):=fun _=>rfl;have hk:(dpl f' (Zh [] ps.reverse)).map (·.1)=(Zh [] ps.reverse).map pl:=by
  unfold dpl;rw[Y0];rfl
 have hlist:Zdl [.res st.length] st' = .ok ((Zh [] ps.reverse).map pl) st':=by
  unfold Zdl;dsimp only;rw[e2];dsimp only;rw[hk]
 rw[List.map_reverse] at e1;have hd:Zf3 (Za 0) [some (.lst (ps.map pl)),some (.res st.length),none] (st++[.dtt []]) = .ok ((ps.map pl).reverse,fun st=>Zj st (.lst (ps.map pl))=some (ps.map pl)) (st++[.dtt []]):=rfl;refine Zce rfl ?_;show ZfU [some (.lst (ps.map pl)),none,none] st=_;unfold ZfU;have h0:Zz 1 ZaQ [some (.lst (ps.map pl)),none,none] st = .nx [some (.lst (ps.map pl)),some (.res st.length),none] (st++[.dtt []]):=rfl;rw[Zaz h0];rw[Zaz (ρ':=[some (.lst (ps.map pl)),some (.res st.length),e']) (st':=st') (by rw[Za8,hd,Zbk]; exact e1)];generalize (Zh [] ps.reverse).map pl=L at *;simp[hlist]
theorem ZbS:∀(ps acc:List (List Str)) (p:List Str),p∈Zh acc ps ↔ p∈acc\/p∈ps
 | [],acc,p=>by simp[Zh]
 | q :: ps,acc,p=>by
  unfold Zh;rw[ZbS ps];by_cases h:q∈acc
  ·rw[Yi h,Yl];constructor
   ·rintro (h1 | h1)
    ·exact .inl h1
    ·exact .inr (.inr h1)
   ·rintro (h1 | h1 | h1)
    ·exact .inl h1
    ·exact .inl (h1 ▸ h)
    ·exact .inr h1
  ·rw[Yh h,YR,YA,Yl];constructor
   ·rintro ((h1 | h1) | h1)
    ·exact .inl h1
    ·exact .inr (.inl h1)
    ·exact .inr (.inr h1)
   ·rintro (h1 | h1 | h1)
    ·exact .inl (.inl h1)
    ·exact .inl (.inr h1)
    ·exact .inr h1
theorem ZiM:∀(ps acc:List (List Str)),acc.Nodup->(Zh acc ps).Nodup
 | [],acc,h=>h
 | q :: ps,acc,h=>by
  unfold Zh;refine ZiM ps _ ?_;split
  ·exact h
  ·rename_i hq;refine Q8.mpr ⟨h,by simp,fun u hu v hv e=>hq ?_⟩;rw[<-YA.mp hv,<-e];exact hu
theorem ZeT(st:Sto)(b:List Str):∀gs:List (List Str),inN st depth (pl b) (gs.map pl)=some (decide (b∈gs))
 | []=>by simp[inN]
 | g :: gs=>by
  rw[Ys];unfold inN;rw[ZeT st b gs,ZbD st depth _ _ (ZdI g) (ZdI b)];have e:pl g=pl b->g=b:=fun h=>by
   have h':g.map D.str=b.map D.str:=by
    have:=congrArg (fun d=>match d with | D.tup xs=>xs | _=>[]) h;exact this
   exact str_inj.mp h'
  by_cases h1:g=b
  ·subst h1;simp
  ·have h2:¬ b=g:=fun h=>h1 h.symm;simp[h2];exact fun h=>absurd (e h) h1
open Classical in
theorem Zhx(st:Sto)(b:List Str):∀gs:List (List Str),Zan st (pl b) (gs.map pl)=some (gs.map fun g=>decide (g=b))
 | []=>rfl
 | g :: gs=>by
  rw[Ys];unfold Zan;rw[Zhx st b gs,ZbD st depth _ _ (ZdI g) (ZdI b)];have e:(pl g=pl b)=(g=b):=propext ⟨fun h=>by
   have h':g.map D.str=b.map D.str:=by
    have:=congrArg (fun d=>match d with | D.tup xs=>xs | _=>[]) h;exact this
   exact str_inj.mp h',fun h=>by rw[h]⟩
  simp only[e,Ys]
theorem Zeq(b:List Str):∀gs:List (List Str),b∈gs->(gs.map fun g=>decide (g=b)).idxOf true<gs.length/\gs[(gs.map fun g=>decide (g=b)).idxOf true]?=some b
 | [],h=>by cases h
 | g :: gs,h=>by
  by_cases e:g=b
  ·subst e;simp
  ·have hm:b∈gs:=by
    rcases Yl.mp h with h | h
    ·exact absurd h.symm e
    ·exact h
   obtain⟨h1,h2⟩:=Zeq b gs hm;rw[Ys,List.idxOf_cons,YQ e];simp only[show (false == true)=false from rfl,cond_false,Yx];exact⟨by omega,by simpa using h2⟩
theorem ZhP(a b:List Str)(st:Sto):Zbr [pl a,pl b] st = .ok (.bl (decide (a.take b.length=b))) st:=by
 have e1:=ZbZ b st;have e2:=ZeV a none (some (b.length:Int)) st;rw[ZbQ] at e2;have e3:=Zgn (a.take b.length) b st;unfold Zbr Zjp;simp[e1,e2,e3]
def ZbC(ps:List (List Str))(o:List Str):Nat:=(ps.filter fun p=>decide (p.take o.length=o)).length
theorem ZqF(ps:List (List Str))(hl:ps.length<=100)(o:List Str)(st:Sto):ZcV [.lst (ps.map pl),pl o] st = .ok (.int (ZbC ps o)) st:=by
 have e1:ZG (fun _=>True) (Zw 0) ZeL Zfh (ps.map pl) [none,some (pl o)] st [] = .ok ((ps.filter fun p=>decide (p.take o.length=o)).map pl) st:=by
  rw[Zbp pl (fun p=>decide (p.take o.length=o)) pl (fun ρ => ∃a,ρ=[a,some (pl o)]) trivial ps _ [] ⟨_,rfl⟩ (by simp; exact Z8 (by omega))]
  ·simp
  ·rintro p hm ρ ⟨a,rfl⟩;refine⟨_,rfl,⟨_,rfl⟩,?_,fun _ => ?_⟩
   ·have q:=ZhP p o st;unfold ZeL;simp[q]
   ·unfold Zfh;simp
 have e2:ZK [.lst ((ps.filter fun p=>decide (p.take o.length=o)).map pl)] st = .ok (.int (ZbC ps o)) st:=by
  simp[ZK,itemsOf,Zj,ZbC]
 have hi:∀st:Sto,itemsOf st (.lst (ps.map pl))=some (ps.map pl):=fun _=>rfl;generalize hG:(ps.filter fun p=>decide (p.take o.length=o)).map pl=G at *;unfold ZcV ZgO;generalize ps.map pl=L at *;simp[hi,Zaa,e1,e2]
theorem ZfE{R:List D}{j:Nat}{z:Int}{s:D}(hz:z=j)(hs:R[j]?=some s)(st:Sto):ixD (.lst R) (.int z) st = .ok s st:=by
 subst hz;have hx:L2.atI R (j:Int)=some s:=Zfo hs;have hi:itemsOf st (.lst R)=some R:=rfl;simp only[ixD,hi,hx]
def Zae(ns:List Int)(at_:Int):List (List Str):=(List.range 4).map fun (k:Nat)=>ZbF ns (at_+1+5 * (k:Int))
def ZaC(ns:List Int)(at_:Int):List (List Str):=(List.range (ZT ns at_ 10).toNat).map fun (k:Nat)=>(Zae ns at_).getD (ZT ns (at_+30+(k:Int)) 4).toNat []
theorem ZlM(ns:List Int)(at_:Int):(ZaC ns at_).length<=9:=by
 unfold ZaC;rw[Yp,YV];have:=Zcx ns at_ 10 (by decide);omega
theorem Zof{ns:List Int}{at_:Int}{p:List Str}(h:p∈ZaC ns at_):p∈Zae ns at_:=by
 unfold ZaC at h;obtain⟨k,_,rfl⟩:=YX.mp h;have h1:=ZcQ ns (at_+30+(k:Int)) 4 (by decide);have h2:=Zcx ns (at_+30+(k:Int)) 4 (by decide);have hl:(ZT ns (at_+30+(k:Int)) 4).toNat<(Zae ns at_).length:=by simp[Zae]; omega
 rw[Ye,Yd hl];exact Qk hl
theorem places_eq(ns:List Int)(hl:ns.length<=63)(at_:Int)(st:Sto):ZbY [.scr (ns.map .int),.int at_] st = .ok (.lst ((ZaC ns at_).map pl)) st:=by
 have e1:=ZbV ns hl at_ 10 (by decide) st;have h1:=ZcQ ns at_ 10 (by decide);have h2:=Zcx ns at_ 10 (by decide);have e2:ZG (fun _=>True) (Zw 0) Zah Zf8 ((List.range 4).map (fun (i:Nat)=>D.int (0+i))) [none,some (.scr (ns.map .int)),some (.int at_)] st [] = .ok ((Zae ns at_).map pl) st:=by
  rw[Zdd (fun (i:Nat)=>D.int (0+i)) (fun (k:Nat)=>pl (ZbF ns (at_+1+5 * (k:Int)))) (fun ρ => ∃a,ρ=[a,some (.scr (ns.map .int)),some (.int at_)]) trivial _ _ _ ⟨_,rfl⟩ (by simp only[Ua,YV,Wl]; exact Z8 (by omega))]
  ·simp only[Zae,Y0,QC,Vs]
  ·rintro i _ ρ ⟨a,rfl⟩;refine⟨_,rfl,⟨_,rfl⟩,?_⟩;have e3:=ZhY ns hl (at_+1+5 * (i:Int)) st;have e4:=Zcf 5 (i:Int) st (Zct _ _ (by decide) (by decide));unfold Zf8;simp[e3,e4,ZaM]
 have e5:ZG (fun _=>True) (Zw 0) Zah ZeP ((List.range (ZT ns at_ 10).toNat).map (fun (i:Nat)=>D.int (0+i))) [none,some (.lst ((Zae ns at_).map pl)),some (.scr (ns.map .int)),some (.int at_)] st [] = .ok ((ZaC ns at_).map pl) st:=by
  rw[Zdd (fun (i:Nat)=>D.int (0+i)) (fun (k:Nat)=>pl ((Zae ns at_).getD (ZT ns (at_+30+(k:Int)) 4).toNat [])) (fun ρ => ∃a,ρ=[a,some (.lst ((Zae ns at_).map pl)),some (.scr (ns.map .int)),some (.int at_)]) trivial _ _ _ ⟨_,rfl⟩ (by simp only[Ua,YV,Wl]; exact Z8 (by omega))]
  ·simp only[ZaC,Y0,QC,Vs]
  ·rintro i _ ρ ⟨a,rfl⟩;refine⟨_,rfl,⟨_,rfl⟩,?_⟩;have e3:=ZbV ns hl (at_+30+(i:Int)) 4 (by decide) st;have g1:=ZcQ ns (at_+30+(i:Int)) 4 (by decide);have g2:=Zcx ns (at_+30+(i:Int)) 4 (by decide);have e4:ixD (.lst ((Zae ns at_).map pl)) (.int (ZT ns (at_+30+(i:Int)) 4)) st = .ok (pl ((Zae ns at_).getD (ZT ns (at_+30+(i:Int)) 4).toNat [])) st:=by
    have hk4:(ZT ns (at_+30+(i:Int)) 4).toNat<(Zae ns at_).length:=by simp[Zae]; omega
    refine ZfE (j:=(ZT ns (at_+30+(i:Int)) 4).toNat) (by omega) ?_ st;rw[Yw,Ye,Yd hk4];rfl
   unfold ZeP;generalize (Zae ns at_).map pl=SS at *;simp[e3,e4,ZaM]
 have h3:Zby (ZT ns at_ 10)=true:=Zft (by omega) (by omega);have h4:Zby 4=true:=Zft (by omega) (by omega);unfold ZbY ZiX;simp only[Int.zero_add] at e2 e5;generalize (ZaC ns at_).map pl=PP at *;generalize (Zae ns at_).map pl=SS at *;have e6:List.range (Int.toNat 4)=List.range 4:=rfl;simp[e1,e2,e5,h3,h4,Zaa,Zcn,ZaM,e6]
def ixV(T:List (List Str))(p:List Str):Nat:=(T.map fun g=>decide (g=p)).idxOf true
def ZaP(T:List (List Str))(p:List Str):List (List Str):=if p∈T then T.take (ixV T p+1) else T++[p]
def ZaV:List (List Str)->List (List Str)->List (List Str)
 | T,[]=>T
 | T,p :: ps=>ZaV (ZaP T p) ps
theorem Zio(T:List (List Str))(p:List Str):(ZaP T p).length<=T.length+1:=by
 unfold ZaP;split
 ·rw[WL]; omega
 ·simp
theorem Zpp(R:List (List Str))(p:List Str):R.take (ixV (R++[p]) p)++[p]=ZaP R p/\ixV (R++[p]) p<(R++[p]).length:=by
 unfold ZaP;have hm:p∈R++[p]:=by simp
 refine⟨?_,(Zeq p _ hm).1⟩;by_cases h:p∈R
 ·rw[Yi h];have e:ixV (R++[p]) p=ixV R p:=by
   unfold ixV;rw[Wm,List.idxOf_append,Yi];exact YX.mpr ⟨p,h,by simp⟩
  rw[e];obtain⟨h1,h2⟩:=Zeq p R h;rw[List.take_add_one];have h3:R[ixV R p]?=some p:=h2;rw[h3];rfl
 ·rw[Yh h];have e:ixV (R++[p]) p=R.length:=by
   unfold ixV;rw[Wm,List.idxOf_append,Yh]
   ·simp
   ·intro z;obtain⟨q,h1,h2⟩:=YX.mp z;exact h (by rw[<-WV h2]; exact h1)
  rw[e,QN]
theorem ZgK{st:Sto}{d:D}{T:List (List Str)}(h:Zj st d=some (T.map pl)){p:List Str}(hi:ixV T p<T.length):ZbH d [pl p] st = .ok (.int (ixV T p:Nat)) st:=by
 unfold ZbH;simp only[h];rw[show Zan st (pl p) (T.map pl)=some (T.map fun g=>decide (g=p)) by rw[Zhx]];dsimp only;rw[Yi (by rw[Yp]; exact hi)];rfl
theorem Zh2{chk:Sto->Prop}(hchk:∀st,chk st)(c0:Option D)(st0:Sto):∀(ps:List (List Str)) (r:Nat) (e:Option D) (T:List (List Str)) (st:Sto),st0.length<=r->T.length+ps.length<=100->st[r]?=some (.lst (T.map pl))->StoK st0 st ->
  ∃(r':Nat) (e':Option D) (st':Sto),ZX chk (Zw 2) Zc4 (ps.map pl) [c0,some (.res r),e] st = .nx [c0,some (.res r'),e'] st'/\st'[r']?=some (.lst ((ZaV T ps).map pl))/\st0.length<=r'/\StoK st0 st'
 | [],r,e,T,st,hr,_,h,hk=>⟨r,e,st,Zba (hchk st),h,hr,hk⟩
 | p :: ps,r,e,T,st,hr,hl,h,hk=>by
  have ht:Zw 2 (pl p) [c0,some (.res r),e]=some [c0,some (.res r),some (pl p)]:=rfl;have hit:=getL h;have hin:inD (pl p) (.res r) st = .ok (.bl (decide (p∈T))) st:=by
   unfold inD;rw[hit];dsimp only;rw[ZeT]
  have hs:Zj st (.res r)=some (T.map pl):=by simp[Zj,h]
  have step:∃(r1:Nat) (st1:Sto),Zc4 [c0,some (.res r),some (pl p)] st = .nx [c0,some (.res r1),some (pl p)] st1/\st1[r1]?=some (.lst ((ZaP T p).map pl))/\st0.length<=r1/\StoK st0 st1:=by
   unfold ZaP;by_cases hm:p∈T
   ·rw[YS hm] at hin;rw[Yi hm];obtain⟨h1,h2⟩:=Zeq p T hm;have hix:=ZgK hs (p:=p) h1;generalize ixV T p=k at hix;have hcut:ZQ (.res r) none (some ((k:Int)+1)) st = .ok ((T.take (k+1)).map pl) st:=by
     have e:((k:Int)+1)=((k+1:Nat):Int):=by omega
     rw[e];simp only[ZQ,Zj,h,ZbQ,Vl]
    refine⟨st.length,st++[.lst ((T.take (k+1)).map pl)],?_,Za7 _ _,hk.le,hk.trans (StoK.app _ _)⟩;generalize (T.take (k+1)).map pl=TT at *;unfold Zc4;simp[hin,hs,hix,ZaM,hcut]
   ·rw[YQ hm] at hin;rw[Yh hm];have ha:=ZhO (ρ:=[c0,some (.res r),some (pl p)]) (j:=1) (f:=Za 2) (d:=pl p) rfl h rfl (by rw[Yp]; exact Yq (by simp at hl; omega) (Z8 (n:=100) (by omega)));refine⟨r,st.set r (.lst (T.map pl++[pl p])),?_,?_,hr,hk.set hr _⟩
    ·unfold Zc4;simp[hin,ha]
    ·rw[ZbA h,Wm];rfl
  obtain⟨r1,st1,hb,g1,g2,g3⟩:=step;have:=Zio T p;obtain⟨r',e',st',e1,e2,e3⟩:=Zh2 hchk c0 st0 ps r1 (some (pl p)) (ZaP T p) st1 g2 (by simp only[Yx] at hl; omega) g1 g3;refine⟨r',e',st',?_,e2,e3⟩;rw[Ys,Zbm (hchk st) ht hb];exact e1
theorem Zks(ps:List (List Str))(hl:ps.length<=100)(st:Sto):∃(st':Sto) (r:Nat),Zcm [.lst (ps.map pl)] st = .ok (.res r) st'/\st'[r]?=some (.lst ((ZaV [] ps).map pl))/\st.length<=r/\StoK st st':=by
 obtain⟨r',e',st',e1,e2,e3,e5⟩:=Zh2 (chk:=fun st=>itemsOf st (.lst (ps.map pl))=some (ps.map pl)) (fun _=>rfl) (some (.lst (ps.map pl))) st ps st.length none [] (st++[.lst []]) (Yj _) (by simp; omega) (Za7 _ _) (StoK.app _ _);refine⟨st',r',?_,e2,e3,e5⟩;refine Zce rfl ?_;show ZfN [some (.lst (ps.map pl)),none,none] st=_;unfold ZfN;have q0:(0:Nat)<=small:=by decide
 have h1:Zcl 1 (Zax Zg) [some (.lst (ps.map pl)),none,none] st = .nx [some (.lst (ps.map pl)),some (.res st.length),none] (st++[.lst []]):=by
  generalize ps.map pl=L at *;simp[q0]
 have hd:Z5 (Za 0) [some (.lst (ps.map pl)),some (.res st.length),none] (st++[.lst []]) = .ok (ps.map pl,fun st=>itemsOf st (.lst (ps.map pl))=some (ps.map pl)) (st++[.lst []]):=rfl;rw[Zaz h1,Zaz (ρ':=[some (.lst (ps.map pl)),some (.res r'),e']) (st':=st') (by rw[Za8,hd,Zbk]; exact e1)];simp
section
variable{c0 c1 c2 c3 e5 c6 c7 c8 c9 c10 c11 c12 c13:Option D}
theorem ZjA{chk:Sto->Prop}(hchk:∀st,chk st)(st:Sto):∀(ps:List (List Str)) (e5:Option D) (R:List (List Str)),R.length+ps.length<=100 ->
  ∃e':Option D,ZX chk (Zw 5) Zd2 (ps.map pl) [c0,c1,c2,c3,some (.lst (R.map pl)),e5,c6,c7,c8,c9,c10,c11,c12,c13] st = .nx [c0,c1,c2,c3,some (.lst ((ZaV R ps).map pl)),e',c6,c7,c8,c9,c10,c11,c12,c13] st
 | [],e,R,_=>⟨e,Zba (hchk st)⟩
 | p :: ps,e,R,hl=>by
  have ht:Zw 5 (pl p) [c0,c1,c2,c3,some (.lst (R.map pl)),e,c6,c7,c8,c9,c10,c11,c12,c13]=some [c0,c1,c2,c3,some (.lst (R.map pl)),some (pl p),c6,c7,c8,c9,c10,c11,c12,c13]:=rfl;obtain⟨h1,h2⟩:=Zpp R p;have hsm:(n:Nat)->n<=101->n<=small:=fun n h=>Z8 (by omega);have hlR:R.length<=100:=by simp only[Yx] at hl; omega
  have hcat:∀(xs:List D) (y:D),xs.length<=100->ZaB (.lst xs) (.lst [y]) st = .ok (xs++[y]) st:=fun xs y hx=>by
   have:=hsm (xs.length+1) (by omega);simp[ZaB,ZaI,this]
  have hix:ZbH (.lst ((R++[p]).map pl)) [pl p] st = .ok (.int (ixV (R++[p]) p:Nat)) st:=ZgK (T:=R++[p]) rfl h2;generalize ixV (R++[p]) p=k at h1 h2 hix;rw[Wm] at hix;have hcut:ZQ (.lst (R.map pl)) none (some (k:Int)) st = .ok ((R.take k).map pl) st:=by simp only[ZQ,Zj,ZbQ,Vl]
  have hb:Zd2 [c0,c1,c2,c3,some (.lst (R.map pl)),some (pl p),c6,c7,c8,c9,c10,c11,c12,c13] st = .nx [c0,c1,c2,c3,some (.lst ((ZaP R p).map pl)),some (pl p),c6,c7,c8,c9,c10,c11,c12,c13] st:=by
   rw[<-h1,Wm];have hc1:=hcat (R.map pl) (pl p) (by rw[Yp]; exact hlR);have hc2:=hcat ((R.take k).map pl) (pl p) (by rw[Yp,WL]; omega);have q1:=hsm 1 (by omega);have hix':ZbH (.lst (R.map pl++[pl p])) [pl p] st = .ok (.int k) st:=hix;have hm1:[p].map pl=[pl p]:=rfl;rw[hm1];generalize (R.take k).map pl=RT at *;generalize R.map pl=RR at *;unfold Zd2;have q0:∀st:Sto,Zj st (.lst (RR++[pl p]))=some (RR++[pl p]):=fun _=>rfl;simp[hc1,hc2,hix',hcut,q1,q0]
  have:=Zio R p;obtain⟨e',e1⟩:=ZjA hchk st ps (some (pl p)) (ZaP R p) (by simp only[Yx] at hl; omega);refine⟨e',?_⟩;rw[Ys,Zbm (hchk st) ht hb];exact e1
end
def dpi(f:List Str->Int)(ks:List (List Str)):List (D×D):=dpl (fun p => .int (f p)) ks
def Zau(f:List Str->Int)(p:List Str)(x:Int):List Str->Int:=fun q=>if q=p then f p+x else f q
def Zbq:List (List Str×Int)->(List Str->Int)->List Str->Int
 | [],f=>f
 | (p,x) :: r,f=>Zbq r (Zau f p x)
def Zero(f:List Str->Int)(acc:List (List Str)):Prop:=∀q,q ∉ acc->f q=0
theorem Zero.add{f:List Str->Int}{acc:List (List Str)}(h:Zero f acc)(p:List Str)(x:Int):Zero (Zau f p x) (if p∈acc then acc else acc++[p]):=fun q hq=>by
 unfold Zau;by_cases e:q=p
 ·subst e;split at hq
  ·exact absurd ‹_› hq
  ·exact absurd (by simp) hq
 ·rw[Yh e];refine h q fun z=>hq ?_;split
  ·exact z
  ·exact Wx _ z
theorem Ze7{st:Sto}{r:Nat}{f:List Str->Int}{acc:List (List Str)}(h:st[r]?=some (.dtt (dpi f acc)))(z:Zero f acc)(p:List Str):Zbi st (.res r)=true/\∃o,dAt st (.res r) (pl p)=some o/\o.getD (.int 0) = .int (f p):=by
 refine⟨by unfold Zbi; simp only[h],(if p∈acc then some (.int (f p)) else none),?_,?_⟩
 ·unfold dAt;simp only[h];rw[Yi (by rw[Zb8]; rfl)];unfold dpi;rw[Zdo]
 ·by_cases hp:p∈acc
  ·rw[Yi hp]; rfl
  ·rw[Yh hp,z p hp]; rfl
theorem ZdE{st:Sto}{r:Nat}{f:List Str->Int}{acc:List (List Str)}(h:st[r]?=some (.dtt (dpi f acc)))(hl:acc.length<100)(p:List Str)(v:Int):ZaX st (.res r) (pl p) (.int v)=some (st.set r (.dtt (dpi (fun q=>if q=p then v else f q) (if p∈acc then acc else acc++[p])))):=by
 have hs:(dpi f acc).length<small:=by
  unfold dpi dpl;rw[Yp];exact Yq hl (Z8 (n:=100) (by omega))
 unfold ZaX;simp only[h];rw[Yi ⟨by rw[Zb8]; rfl,hs⟩];unfold dpi;rw[Zjk];have:(fun q=>if q=p then D.int v else D.int (f q))=fun q=>D.int (if q=p then v else f q):=by
  funext q;split <;> rfl
 rw[this]
theorem Zep{acc:List (List Str)}{p:List Str}:(if p∈acc then acc else acc++[p]).length<=acc.length+1:=by split <;> simp
theorem ZgE{chk:Sto->Prop}(hchk:∀st,chk st)(c0:Option D)(r:Nat)(st0:Sto)(hr:st0.length<=r):∀(ps:List (List Str)) (e:Option D) (acc:List (List Str)) (f:List Str->Int) (st:Sto),Zero f acc->acc.length+ps.length<=100->st[r]?=some (.dtt (dpi f acc))->StoK st0 st ->
  ∃(e':Option D) (st':Sto),ZX chk (Zw 2) ZdL (ps.map pl) [c0,some (.res r),e] st = .nx [c0,some (.res r),e'] st'/\st'[r]?=some (.dtt (dpi (Zbq (ps.map fun p=>(p,1)) f) (Zh acc ps)))/\StoK st0 st'
 | [],e,acc,f,st,hf,_,h,hk=>⟨e,st,Zba (hchk st),h,hk⟩
 | p :: ps,e,acc,f,st,hf,hl,h,hk=>by
  have ht:Zw 2 (pl p) [c0,some (.res r),e]=some [c0,some (.res r),some (pl p)]:=rfl;obtain⟨hisd,o,hat,hn⟩:=Ze7 h hf p;simp only[Yx] at hl;have hput:=ZdE h (by omega) p (f p+1);have hget:ZaW (Za 1) (Za 2) (dC (.int 0)) [c0,some (.res r),some (pl p)] st = .ok (.int (f p)) st:=by
   rw[Zd4];simp only[Zcb,z_C,YF,YL,Zbx,hisd,Wq,hat];rw[hn]
  have hb:ZdL [c0,some (.res r),some (pl p)] st = .nx [c0,some (.res r),some (pl p)] (st.set r (.dtt (dpi (Zau f p 1) (if p∈acc then acc else acc++[p])))):=by
   unfold ZdL;rw[ZcH];simp[hget,ZaM,hput];rfl
  have hlen:=Zep (acc:=acc) (p:=p);obtain⟨e',st',e1,e2,e3⟩:=ZgE hchk c0 r st0 hr ps (some (pl p)) (if p∈acc then acc else acc++[p]) (Zau f p 1) _ (hf.add p 1) (by omega) (ZbA h) (hk.set hr _);refine⟨e',st',?_,e2,e3⟩;rw[Ys,Zbm (hchk st) ht hb];exact e1
def Z7(ps:List (List Str))(p:List Str):Nat:=(ps.filter fun o=>decide (o=p)).length
theorem Zi3(q:List Str):∀(ps:List (List Str)) (f:List Str->Int),Zbq (ps.map fun p=>(p,1)) f q=f q+(Z7 ps q:Int)
 | [],f=>by simp[Zbq,Z7]
 | p :: ps,f=>by
  rw[Ys];unfold Zbq;rw[Zi3 q ps];unfold Zau Z7;rw[WB];by_cases e:q=p
  ·subst e;simp;omega
  ·rw[Yh e,Yh (by simpa using fun z=>e z.symm)]
theorem Zgz(ps:List (List Str))(hl:ps.length<=100)(st:Sto):∃(st':Sto) (r:Nat),Zbj [.lst (ps.map pl)] st = .ok (.res r) st'/\st'[r]?=some (.dtt (dpi (fun p=>(Z7 ps p:Int)) (Zh [] ps)))/\st.length<=r/\StoK st st':=by
 obtain⟨e',st',e1,e2,e4⟩:=ZgE (chk:=fun st=>itemsOf st (.lst (ps.map pl))=some (ps.map pl)) (fun _=>rfl) (some (.lst (ps.map pl))) st.length st (Yj _) ps none [] (fun _=>0) (st++[.dtt []]) (fun _ _=>rfl) (by simp; omega) (Za7 _ _) (StoK.app _ _);have ef:Zbq (ps.map fun p=>(p,1)) (fun _=>0)=fun p=>(Z7 ps p:Int):=by
  funext q;rw[Zi3];omega
 rw[ef] at e2;refine⟨st',st.length,?_,e2,Yj _,e4⟩;refine Zce rfl ?_;show Zge [some (.lst (ps.map pl)),none,none] st=_;unfold Zge;have h0:Zz 1 ZaQ [some (.lst (ps.map pl)),none,none] st = .nx [some (.lst (ps.map pl)),some (.res st.length),none] (st++[.dtt []]):=rfl;have hd:Z5 (Za 0) [some (.lst (ps.map pl)),some (.res st.length),none] (st++[.dtt []]) = .ok (ps.map pl,fun st=>itemsOf st (.lst (ps.map pl))=some (ps.map pl)) (st++[.dtt []]):=rfl;rw[Zaz h0,Zaz (ρ':=[some (.lst (ps.map pl)),some (.res st.length),e']) (st':=st') (by rw[Za8,hd,Zbk]; exact e1)];simp
theorem ZdW(f:List Str->Int)(ks:List (List Str)):ZO (dpi f ks)=true:=by
 unfold ZO dpi dpl;rw[List.all_map,YB];intro p _;rfl
theorem ZmM{f g:List Str->Int}{ks:List (List Str)}(h:∀p∈ks,f p=g p):ZcR (dpi f ks) (dpi g ks)=true:=by
 unfold ZcR;rw[YE];refine⟨by simp[dpi,dpl],YB.mpr fun x hx => ?_⟩;unfold dpi dpl at hx;obtain⟨p,hp,rfl⟩:=YX.mp hx;unfold Zc0;show (match D.int (f p),ZF Zq (dpi g ks) (pl p) with
  | .int j,some (.int i)=>j == i
  | _,_=>false)=true
 unfold dpi;rw[Zdo,Yi hp];simp[h p hp]
theorem Zhm{st:Sto}{i j:Nat}{f g:List Str->Int}{ks:List (List Str)}(h1:st[i]?=some (.dtt (dpi f ks)))(h2:st[j]?=some (.dtt (dpi g ks)))(h:∀p∈ks,f p=g p):Zda (.res i) (.res j) st = .ok (.bl true) st/\Zdw (.res i) (.res j) st = .ok (.bl false) st:=by
 have hs:=ZmM h;constructor
 ·unfold Zda;simp only[h1,h2];rw[Yi ⟨ZdW _ _,ZdW _ _⟩,hs]
 ·unfold Zdw;simp only[h1,h2];rw[Yi ⟨ZdW _ _,ZdW _ _⟩,hs];rfl
theorem ZjS{α:Type}(f:α->D)(h:∀x,nice 49 (f x)=true)(L:List α):nice depth (.lst (L.map f))=true:=by
 show nice (49+1) _=true;unfold nice;rw[ZbX];intro y hy;obtain⟨x,_,rfl⟩:=YX.mp hy;exact h x
theorem ZjV(L:List (List Str)):nice depth (.lst (L.map pl))=true:=ZjS pl (fun p=>Zdf 47 p) L
theorem ZlR{st:Sto}(r:List Str)(E:List (List Str)):Zds (pl r) (.lst (E.map pl)) st = .ok (.bl (!decide (r∈E))) st:=by
 unfold Zds;show (match inN st depth (pl r) (E.map pl) with | some b=>_ | none=>_)=_;rw[ZeT]
theorem Zi1(ps:List (List Str)):Zal 0 (ps.map pl)=(List.range ps.length).map fun (j:Nat)=>D.tup [.int (j:Int),pl (ps.getD j [])]:=by
 apply Uw;intro j;rw[Zfg,Yw,Yw];by_cases h:j<ps.length
 ·rw[List.getElem?_range h,Yd h];simp[Ye,Yd h]
 ·rw[Qa (by omega),Qa (by rw[YV]; omega)];rfl
def Zab:List (List Str)->List (List Str)
 | []=>[]
 | p :: r=>if p∈r then Zab r else p :: Zab r
theorem Zh9:∀ps:List (List Str),((List.range ps.length).filter fun j => !decide (ps.getD j []∈ps.drop (j+1))).map (fun j=>ps.getD j [])=Zab ps
 | []=>rfl
 | p :: r=>by
  have ih:=Zh9 r;rw[Yx,List.range_succ_eq_map,WB];have e:(((List.range r.length).map Nat.succ).filter fun j => !decide ((p :: r).getD j []∈(p :: r).drop (j+1))).map (fun j=>(p :: r).getD j [])=Zab r:=by
   rw[List.filter_map,Y0,<-ih];rfl
  unfold Zab;by_cases h:p∈r
  ·rw[Yi h,Yh (by simp[h])];exact e
  ·rw[Yh h,Yi (by simp[h]),Ys,e];rfl
theorem Zgw:∀(xs ys acc:List (List Str)),Zh acc (xs++ys)=Zh (Zh acc xs) ys
 | [],ys,acc=>rfl
 | x :: xs,ys,acc=>by
  show Zh (if x∈acc then acc else acc++[x]) (xs++ys)=_;rw[Zgw xs ys];rfl
theorem Zgr:∀ps:List (List Str),Zh [] ps.reverse=(Zab ps).reverse
 | []=>rfl
 | p :: r=>by
  rw[QE,Zgw,Zgr r];have hm:p∈(Zab r).reverse ↔ p∈r:=by
   rw[<-Zgr r,ZbS];simp
  show (if p∈(Zab r).reverse then (Zab r).reverse else (Zab r).reverse++[p])=(if p∈r then Zab r else p :: Zab r).reverse;by_cases h:p∈r
  ·rw[Yi (hm.mpr h),Yi h]
  ·rw[Yh (fun z=>h (hm.mp z)),Yh h,QE]
theorem ZgJ:∀{l S:List (List Str)},l.Nodup->(∀x∈l,x∈S)->l.length<=S.length
 | [],S,_,_=>YT _
 | x :: l,S,hn,h=>by
  rw[WH] at hn;have hx:=h x Yz;have:=ZgJ (l:=l) (S:=S.erase x) hn.2 fun y hy=>(List.mem_erase_of_ne (show y≠x from fun e=>hn.1 (e ▸ hy))).mpr (h y (Yv _ hy));rw[UM hx] at this;have h0:0<S.length:=List.length_pos_of_mem hx;simp only[Yx];omega
theorem Znv:∀{ps:List (List Str)} {S:List (List Str)},(∀p∈ps,p∈S)->(Zh [] ps).length<=S.length:=fun {ps S} h=>by
 refine ZgJ (ZiM ps [] QK) fun p hp => ?_;rcases (ZbS ps [] p).mp hp with z | z
 ·cases z
 ·exact h p z
theorem ZhM(X:List (List Str))(m:Nat)(st:Sto):ZbJ [.lst (X.map pl),.int (m:Int)] st = .ok (.lst ((X.take m).map pl)) st:=by
 have em:Zc2 [.int (m:Int),.int 0] st = .ok (.int (m:Int)) st:=by
  simp only[Zc2];congr 2
 have ec:ZQ (.lst (X.map pl)) none (some (m:Int)) st = .ok ((X.take m).map pl) st:=by simp only[ZQ,Zj,ZbQ,Vl]
 generalize (X.take m).map pl=Y at *;generalize X.map pl=Z at *;unfold ZbJ ZhB;simp[em,ec]
theorem ZmR(ps:List (List Str))(hl:ps.length<=100)(m:Nat)(st:Sto):∃st',Zci [.lst (ps.map pl),.int (m:Int)] st = .ok (.lst (((Zh [] ps.reverse).take m).map pl)) st'/\StoK st st':=by
 obtain⟨st',e,k⟩:=Zi0 ps hl st;refine⟨st',?_,k⟩;have ea:=ZhM (Zh [] ps.reverse) m st';generalize ((Zh [] ps.reverse).take m).map pl=L at *;generalize (Zh [] ps.reverse).map pl=L2 at *;generalize ps.map pl=M at *;unfold Zci Zid;simp[e,ea]
section
variable{c0 c2 c3 c4 c7 c8 c9 c10 c11 c12 c13:Option D}
theorem Zlt{ps:List (List Str)}(hl:ps.length<=100)(p:List Str){r:Nat}{st:Sto}{f:List Str->Int}{acc:List (List Str)}(h:st[r]?=some (.dtt (dpi f acc)))(ha:acc.length<100) :
  ZdS [c0,some (.lst (ps.map pl)),c2,c3,c4,some (pl p),some (.res r),c7,c8,c9,c10,c11,c12,c13] st = .nx [c0,some (.lst (ps.map pl)),c2,c3,c4,some (pl p),some (.res r),c7,c8,c9,c10,c11,c12,c13] (st.set r (.dtt (dpi (fun q=>if q=p then (Z7 ps p:Int) else f q) (if p∈acc then acc else acc++[p])))):=by
 have e1:ZG (fun _=>True) (Zw 0) ZfO ZeE (ps.map pl) [none,some (pl p)] st [] = .ok ((ps.filter fun o=>decide (o=p)).map pl) st:=by
  rw[Zbp pl (fun o=>decide (o=p)) pl (fun ρ => ∃a,ρ=[a,some (pl p)]) trivial ps _ [] ⟨_,rfl⟩ (by simp; exact Z8 (by omega))]
  ·simp
  ·rintro o hm ρ ⟨a,rfl⟩;refine⟨_,rfl,⟨_,rfl⟩,?_,fun _ => ?_⟩
   ·have q:=Zgn o p st;unfold ZfO;simp[q]
   ·unfold ZeE;simp
 have e2:ZK [.lst ((ps.filter fun o=>decide (o=p)).map pl)] st = .ok (.int (Z7 ps p:Int)) st:=by
  simp[ZK,itemsOf,Zj,Z7]
 have hi:∀st:Sto,itemsOf st (.lst (ps.map pl))=some (ps.map pl):=fun _=>rfl;have hput:=ZdE h ha p (Z7 ps p:Int);generalize (ps.filter fun o=>decide (o=p)).map pl=G at *;unfold ZdS;generalize ps.map pl=L at *;rw[ZcH];simp[hi,Zaa,e1,e2,hput]
theorem Zhw{ps:List (List Str)}(hl:ps.length<=100){chk:Sto->Prop}(hchk:∀st,chk st)(r:Nat)(st0:Sto)(hr:st0.length<=r):∀(qs:List (List Str)) (e5:Option D) (acc:List (List Str)) (f:List Str->Int) (st:Sto),(∀q∈acc,f q=(Z7 ps q:Int))->acc.length+qs.length<=100->st[r]?=some (.dtt (dpi f acc))->StoK st0 st ->
  ∃(e':Option D) (f':List Str->Int) (st':Sto),ZX chk (Zw 5) ZdS (qs.map pl) [c0,some (.lst (ps.map pl)),c2,c3,c4,e5,some (.res r),c7,c8,c9,c10,c11,c12,c13] st = .nx [c0,some (.lst (ps.map pl)),c2,c3,c4,e',some (.res r),c7,c8,c9,c10,c11,c12,c13] st'/\st'[r]?=some (.dtt (dpi f' (Zh acc qs)))/\(∀q∈Zh acc qs,f' q=(Z7 ps q:Int))/\StoK st0 st'
 | [],e5,acc,f,st,hf,_,h,hk=>⟨e5,f,st,Zba (hchk st),h,hf,hk⟩
 | p :: qs,e5,acc,f,st,hf,ha,h,hk=>by
  have ht:Zw 5 (pl p) [c0,some (.lst (ps.map pl)),c2,c3,c4,e5,some (.res r),c7,c8,c9,c10,c11,c12,c13]=some [c0,some (.lst (ps.map pl)),c2,c3,c4,some (pl p),some (.res r),c7,c8,c9,c10,c11,c12,c13]:=rfl;simp only[Yx] at ha;have hb:=Zlt (c0:=c0) (c2:=c2) (c3:=c3) (c4:=c4) (c7:=c7) (c8:=c8) (c9:=c9) (c10:=c10) (c11:=c11) (c12:=c12) (c13:=c13) hl p h (by omega);have hlen:=Zep (acc:=acc) (p:=p);obtain⟨e',f',st',e1,e2,e3,e4⟩:=Zhw hl hchk r st0 hr qs (some (pl p)) (if p∈acc then acc else acc++[p]) (fun q=>if q=p then (Z7 ps p:Int) else f q) _ (fun q hq=>by
   by_cases z:q=p
   ·rw[Yi z,z]
   ·rw[Yh z];refine hf q ?_;split at hq
    ·exact hq
    ·rcases YR.mp hq with hq | hq
     ·exact hq
     ·exact absurd (YA.mp hq) z) (by omega) (ZbA h) (hk.set hr _)
  refine⟨e',f',st',?_,e2,e3,e4⟩;rw[Ys,Zbm (hchk st) ht hb];exact e1
theorem last_eq{ps:List (List Str)}(hl:ps.length<=100){e5 c6:Option D}(st:Sto):Zem [c0,some (.lst (ps.map pl)),c2,c3,c4,e5,c6,c7,c8,c9,c10,c11,c12,c13] st = .nx [c0,some (.lst (ps.map pl)),c2,c3,c4,e5,c6,some (.lst ((Zh [] ps.reverse).map pl)),c8,c9,c10,c11,c12,c13] st:=by
 have e1:ZG (fun _=>True) (Zat [0,1]) ZeN ZfK (Zal 0 (ps.map pl)) [none,none,some (.lst (ps.map pl))] st [] = .ok ((Zab ps).map pl) st:=by
  rw[Zi1,Zbp (fun (j:Nat)=>D.tup [.int (j:Int),pl (ps.getD j [])]) (fun j => !decide (ps.getD j []∈ps.drop (j+1))) (fun j=>pl (ps.getD j [])) (fun ρ => ∃a b,ρ=[a,b,some (.lst (ps.map pl))]) trivial _ _ [] ⟨_,_,rfl⟩ (by simp; exact Z8 (by omega))]
  ·rw[<-Zh9,Y0];rfl
  ·rintro j hm ρ ⟨a,b,rfl⟩;refine⟨[some (.int (j:Int)),some (pl (ps.getD j [])),some (.lst (ps.map pl))],rfl,⟨_,_,rfl⟩,?_,fun _ => ?_⟩
   ·have ec:ZQ (.lst (ps.map pl)) (some ((j:Int)+1)) none st = .ok ((ps.drop (j+1)).map pl) st:=by
     have e:((j:Int)+1)=((j+1:Nat):Int):=by omega
     rw[e];simp only[ZQ,Zj,Ziq,UT]
    have q:=ZlR (st:=st) (ps.getD j []) (ps.drop (j+1));unfold ZeN;generalize (ps.drop (j+1)).map pl=Z at *;generalize ps.map pl=Y at *;simp[-List.getD_eq_getElem?_getD,ec,q,ZaM]
   ·unfold ZfK;simp
 have hi:∀st:Sto,Zj st (.lst (ps.map pl))=some (ps.map pl):=fun _=>rfl;have hr:((Zab ps).map pl).reverse=(Zh [] ps.reverse).map pl:=by rw[Zgr,List.map_reverse]
 have hi2:∀st:Sto,Zj st (.lst ((Zab ps).map pl))=some ((Zab ps).map pl):=fun _=>rfl;generalize (Zh [] ps.reverse).map pl=G at *;generalize (Zab ps).map pl=G2 at *;unfold Zem;generalize ps.map pl=L at *;simp[ZpT,Zb2,hi,Zaa,e1,hi2,hr]
end
def ZP(ps L:List (List Str)):List (Int×Int):=(List.range L.length).map fun (j:Nat)=>(-(Z7 ps (L.getD j []):Int),(j:Int))
theorem Zmq(ps L:List (List Str)):(ZP ps L).Nodup:=by
 unfold ZP;refine WY.mpr (UE.imp fun {i j} h e=>h ?_);have:=congrArg Prod.snd e;simp only at this;omega
theorem ZhK{ps L:List (List Str)}{q:Int×Int}(h:q∈Z4 (ZP ps L)):∃j:Nat,j<L.length/\q.2=(j:Int):=by
 have h1:=(Zfa _).mem_iff.mp h;unfold ZP at h1;obtain⟨j,h2,rfl⟩:=YX.mp h1;exact⟨j,by simpa using h2,rfl⟩
def Zaq(ps L:List (List Str)):List (List Str):=(Z4 (ZP ps L)).map fun q=>L.getD q.2.toNat []
theorem ZhR{ks:List (List Str)}{f:List Str->Int}:∀{L:List (List Str)},(∀p∈L,p∈ks)->Zcd (dpi f ks) (L.map pl)=some (L.map fun p => -(f p))
 | [],_=>rfl
 | p :: L,h=>by
  rw[Ys];unfold Zcd;rw[ZhR fun q hq=>h q (Yv _ hq),Zb8];have:ZF Zq (dpi f ks) (pl p)=some (.int (f p)):=by
   unfold dpi;rw[Zdo,Yi (h p Yz)]
  rw[this];rfl
theorem ZlV(ps L:List (List Str)):ZbT (L.map fun p => -(Z7 ps p:Int)) (L.map pl)=(Zaq ps L).map pl:=by
 have e:(List.range (L.map fun p => -(Z7 ps p:Int)).length).map (fun (i:Nat)=>((L.map fun p => -(Z7 ps p:Int)).getD i 0,(i:Int)))=ZP ps L:=by
  unfold ZP;rw[Yp];refine Wr fun i hi => ?_;have hl:i<L.length:=by simpa using hi
  rw[Ye,Yw,Ye,Yd hl];rfl
 unfold ZbT Zaq;rw[e,Y0];refine Wr fun q hq => ?_;obtain⟨j,hj,hj2⟩:=ZhK hq;show (L.map pl).getD q.2.toNat .non=pl (L.getD q.2.toNat []);rw[hj2,Y7,Ye,Yw,Ye,Yd hj];rfl
structure StoT(st st':Sto):Prop where
 fr:∀(j:Nat) (x:S),j≠0->st[j]?=some x->st'[j]?=some x
 le:st.length<=st'.length
theorem ZqD{cv:Nat->Addr}(ps:List (List Str))(hl:ps.length<=100)(h4:(Zh [] ps.reverse).length<=4)(m:Nat)(st:Sto)(h0:st[0]?=some (.tab (cv 90) false)) :
  ∃st',ZcD cv [.lst (ps.map pl),.int (m:Int)] st = .ok (.lst (((Zaq ps (Zh [] ps.reverse)).take m).map pl)) st'/\StoT st st':=by
 obtain⟨st1,r,e1,e2,e3,k1⟩:=Zgz ps hl st;obtain⟨st2,f1,k2⟩:=Zi0 ps hl st1;have hs:0<st.length:=(Yo.mp h0).1;have g0:=k2.fr _ _ (k1.fr _ _ h0);have g2:=k2.fr _ _ e2;have hlam:Zek (cv 90) 2 (Zn Za6 (Zc (Za 0) Zg)) [some (.lst (ps.map pl)),some (.int (m:Int)),some (.res r)] st1 = .ok ((Zaq ps (Zh [] ps.reverse)).map pl) (st2.set 0 (.tab (cv 90) true)):=by
  have hk:=ZhR (ks:=Zh [] ps) (f:=fun p=>(Z7 ps p:Int)) (L:=Zh [] ps.reverse) fun p hp=>by
   rcases (ZbS _ _ _).mp hp with z | z
   ·cases z
   ·exact (ZbS _ _ _).mpr (.inr (by simpa using z))
  have hc:Zn Za6 (Zc (Za 0) Zg) [some (.lst (ps.map pl)),some (.int (m:Int)),some (.res r)] st1 = .ok (.lst ((Zh [] ps.reverse).map pl)) st2:=by
   generalize (Zh [] ps.reverse).map pl=Z at *;generalize ps.map pl=Y at *;simp[f1]
  unfold Zek;rw[hc,Zbx];simp only[YL,YF,g0,g2,hk];rw[Yi ⟨trivial,by rw[Yp]; exact h4⟩,ZlV]
 have ea:=ZhM (Zaq ps (Zh [] ps.reverse)) m (st2.set 0 (.tab (cv 90) true));refine⟨st2.set 0 (.tab (cv 90) true),?_,⟨fun j x hj h => ?_,by rw[QZ]; exact YH k1.le k2.le⟩⟩
 ·refine Zce rfl ?_;show ZfG cv [some (.lst (ps.map pl)),some (.int (m:Int)),none] st=_;unfold ZfG;have hs1:Zz 2 (Zn Zbj (Zc (Za 0) Zg)) [some (.lst (ps.map pl)),some (.int (m:Int)),none] st = .nx [some (.lst (ps.map pl)),some (.int (m:Int)),some (.res r)] st1:=by
   generalize ps.map pl=Y at *;simp[e1]
  rw[Zaz hs1];generalize ((Zaq ps (Zh [] ps.reverse)).take m).map pl=Z at *;generalize (Zaq ps (Zh [] ps.reverse)).map pl=Z2 at *;generalize ps.map pl=Y at *;simp[hlam,ea]
 ·rw[WS (by omega)];exact k2.fr _ _ (k1.fr _ _ h)
section
variable{c0 c2 c3 c4 e5 c9 c10 c11 c12 c13:Option D}
theorem Zkt{ps L:List (List Str)}(hL:L.length<=40){r:Nat}{f:List Str->Int}{ks:List (List Str)}{st:Sto}(h:st[r]?=some (.dtt (dpi f ks)))(hf:∀q∈ks,f q=(Z7 ps q:Int))(hk:∀p∈L,p∈ks){c1 c8:Option D} :
  Zeb [c0,c1,c2,c3,c4,e5,some (.res r),some (.lst (L.map pl)),c8,c9,c10,c11,c12,c13] st = .nx [c0,c1,c2,c3,c4,e5,some (.res r),some (.lst (L.map pl)),some (.lst ((Z4 (ZP ps L)).map prD)),c9,c10,c11,c12,c13] st:=by
 have e1:ZG (fun _=>True) (Zat [0,1]) Zah Zgm (Zal 0 (L.map pl)) [none,none,some (.res r)] st [] = .ok ((ZP ps L).map prD) st:=by
  rw[Zi1,Zdd (fun (j:Nat)=>D.tup [.int (j:Int),pl (L.getD j [])]) (fun (j:Nat)=>prD (-(Z7 ps (L.getD j []):Int),(j:Int))) (fun ρ => ∃a b,ρ=[a,b,some (.res r)]) trivial _ _ [] ⟨_,_,rfl⟩ (by simp; exact Z8 (by omega))]
  ·unfold ZP;rw[Y0];rfl
  ·rintro j hm ρ ⟨a,b,rfl⟩;refine⟨[some (.int (j:Int)),some (pl (L.getD j [])),some (.res r)],rfl,⟨_,_,rfl⟩,?_⟩;have hj:j<L.length:=by simpa using hm
   have hp:L.getD j []∈ks:=hk _ (by rw[Ye,Yd hj]; exact Qk hj);have hat:dAt st (.res r) (pl (L.getD j []))=some (some (.int (Z7 ps (L.getD j []):Int))):=by
    unfold dAt;simp only[h];rw[Yi (by rw[Zb8]; rfl)];unfold dpi;rw[Zdo,Yi hp,hf _ hp]
   unfold Zgm;generalize L.getD j []=p at *;simp[Zo2,hat,prD]
 have hs:Zc3 [.lst ((ZP ps L).map prD)] st = .ok ((Z4 (ZP ps L)).map prD) st:=by
  unfold Zc3;show (match ZbM ((ZP ps L).map prD) with
   | some ps=>if ps.Nodup/\ps.length<64 then Out.ok ((Z4 ps).map prD) st else .bad
   | none => .bad)=_
  rw[ZhI];dsimp only;rw[Yi ⟨Zmq ps L,by simp[ZP]; omega⟩]
 have hi:∀st:Sto,Zj st (.lst (L.map pl))=some (L.map pl):=fun _=>rfl;generalize (Z4 (ZP ps L)).map prD=G at *;generalize (ZP ps L).map prD=G2 at *;unfold Zeb;generalize L.map pl=LL at *;simp[Zb2,hi,Zaa,e1,hs]
theorem Znx{cv:Nat->Addr}{ps:List (List Str)}(hl:ps.length<=100)(h4:(Zh [] ps.reverse).length<=4)(m:Nat){st:Sto}(h0:st[0]?=some (.tab (cv 90) false)){c6:Option D} :
  ∃st',Zd8 cv [c0,some (.lst (ps.map pl)),c2,some (.int (m:Int)),c4,e5,c6,some (.lst ((Zh [] ps.reverse).map pl)),some (.lst ((Z4 (ZP ps (Zh [] ps.reverse))).map prD)),c9,c10,c11,c12,c13] st = .nx [c0,some (.lst (ps.map pl)),c2,some (.int (m:Int)),c4,e5,c6,some (.lst ((Zh [] ps.reverse).map pl)),some (.lst ((Z4 (ZP ps (Zh [] ps.reverse))).map prD)),c9,c10,c11,c12,c13] st'/\StoT st st':=by
 obtain⟨st',e1,k1⟩:=ZqD (cv:=cv) ps hl h4 m st h0;refine⟨st',?_,k1⟩;have e2:ZG (fun _=>True) (Zat [0,1]) Zah Zgq ((Z4 (ZP ps (Zh [] ps.reverse))).map prD) [none,none,some (.lst ((Zh [] ps.reverse).map pl))] st' [] = .ok ((Zaq ps (Zh [] ps.reverse)).map pl) st':=by
  have hlen:(Z4 (ZP ps (Zh [] ps.reverse))).length<=4:=by rw[(Zfa _).length_eq]; simpa[ZP] using h4
  rw[Zdd prD (fun q=>pl ((Zh [] ps.reverse).getD q.2.toNat [])) (fun ρ => ∃a b,ρ=[a,b,some (.lst ((Zh [] ps.reverse).map pl))]) trivial _ _ [] ⟨_,_,rfl⟩ (by simp; exact Z8 (by omega))]
  ·unfold Zaq;rw[Y0];rfl
  ·rintro q hm ρ ⟨a,b,rfl⟩;refine⟨[some (.int q.1),some (.int q.2),some (.lst ((Zh [] ps.reverse).map pl))],rfl,⟨_,_,rfl⟩,?_⟩;obtain⟨j,hj,hj2⟩:=ZhK hm;have hx:=ZfE (R:=(Zh [] ps.reverse).map pl) (j:=j) (z:=q.2) (s:=pl ((Zh [] ps.reverse).getD q.2.toNat [])) hj2 (by rw[hj2,Y7,Yw,Ye,Yd hj]; rfl) st';unfold Zgq;generalize (Zh [] ps.reverse).getD q.2.toNat []=X at *;generalize (Zh [] ps.reverse).map pl=Y at *;simp[hx]
 have hn:=ZiA (ZjV ((Zaq ps (Zh [] ps.reverse)).take m)) st';have ec:ZQ (.lst ((Zaq ps (Zh [] ps.reverse)).map pl)) none (some (m:Int)) st' = .ok (((Zaq ps (Zh [] ps.reverse)).take m).map pl) st':=by simp only[ZQ,Zj,ZbQ,Vl]
 have hi:∀st:Sto,itemsOf st (.lst ((Z4 (ZP ps (Zh [] ps.reverse))).map prD))=some ((Z4 (ZP ps (Zh [] ps.reverse))).map prD):=fun _=>rfl;generalize ((Zaq ps (Zh [] ps.reverse)).take m).map pl=G1 at *;generalize (Zaq ps (Zh [] ps.reverse)).map pl=G2 at *;generalize (Z4 (ZP ps (Zh [] ps.reverse))).map prD=G3 at *;generalize (Zh [] ps.reverse).map pl=G4 at *;generalize ps.map pl=G5 at *;unfold Zd8;simp[e1,hi,Zaa,e2,ec,hn]
end
theorem ZhL(w:Str):Zx (.str w)=some (Sum.inr w):=rfl
theorem keyD_inj{p q:Str}:Zx (D.str p)=Zx (D.str q) ↔ p=q:=⟨fun h=>by
 have h':some (Sum.inr p:L2.Key)=some (Sum.inr q):=h;exact Sum.inr.inj (Option.some.inj h'),fun h=>by rw[h]⟩
def dsl(f:Str->D)(ks:List Str):List (D×D):=ks.map fun p=>(D.str p,f p)
theorem Zfz(f:Str->D)(p:Str):∀ks:List Str,ZF Zx (dsl f ks) (D.str p)=if p∈ks then some (f p) else none
 | []=>by simp[dsl,ZF]
 | k :: ks=>by
  show (if Zx (D.str k)=Zx (D.str p) then some (f k) else ZF Zx (dsl f ks) (D.str p))=_;rw[Zfz f p ks];by_cases h:k=p
  ·subst h;simp
  ·rw[Yh (fun z=>h (keyD_inj.mp z))];have h':¬ p=k:=fun z=>h z.symm;simp[h']
theorem Zog(f:Str->D)(ks:List Str)(p:Str):hasD Zx (dsl f ks) (D.str p)=decide (p∈ks):=by
 unfold hasD dsl;rw[List.any_map]
 induction ks with
 | nil=>simp
 | cons k ks ih =>
  rw[QW,ih];by_cases h:k=p
  ·subst h;simp
  ·have h':¬ p=k:=fun z=>h z.symm;have h2:¬ Zx (D.str k)=Zx (D.str p):=fun z=>h (keyD_inj.mp z);simp[h',h2]
theorem Zm9(f:Str->D)(ks:List Str)(p:Str)(v:D):putD Zx (dsl f ks) (D.str p) v=dsl (fun q=>if q=p then v else f q) (if p∈ks then ks else ks++[p]):=by
 unfold putD;rw[Zog];by_cases h:p∈ks
 ·rw[Yi (YS h),Yi h];unfold dsl;rw[Y0];refine Wr fun q _ => ?_;show (if Zx (D.str q)=Zx (D.str p) then (D.str q,v) else (D.str q,f q))=(D.str q,if q=p then v else f q);by_cases e:q=p
  ·rw[Yi (keyD_inj.mpr e),Yi e]
  ·rw[Yh (fun z=>e (keyD_inj.mp z)),Yh e]
 ·rw[Yh (by simpa using h),Yh h];unfold dsl;rw[Wm];congr 1
  ·refine Wr fun q hq => ?_;have:¬ q=p:=fun z=>h (z ▸ hq);show (D.str q,f q)=(D.str q,if q=p then v else f q);rw[Yh this]
  ·show [(D.str p,v)]=[(D.str p,if p=p then v else f p)];rw[Yi rfl]
def ZI:List Str->List Str->List Str
 | acc,[]=>acc
 | acc,p :: ps=>ZI (if p∈acc then acc else acc++[p]) ps
theorem ZfD:∀(ps acc:List Str) (p:Str),p∈ZI acc ps ↔ p∈acc\/p∈ps
 | [],acc,p=>by simp[ZI]
 | q :: ps,acc,p=>by
  unfold ZI;rw[ZfD ps];by_cases h:q∈acc
  ·rw[Yi h,Yl];constructor
   ·rintro (h1 | h1)
    ·exact .inl h1
    ·exact .inr (.inr h1)
   ·rintro (h1 | h1 | h1)
    ·exact .inl h1
    ·exact .inl (h1 ▸ h)
    ·exact .inr h1
  ·rw[Yh h,YR,YA,Yl];constructor
   ·rintro ((h1 | h1) | h1)
    ·exact .inl h1
    ·exact .inr (.inl h1)
    ·exact .inr (.inr h1)
   ·rintro (h1 | h1 | h1)
    ·exact .inl (.inl h1)
    ·exact .inl (.inr h1)
    ·exact .inr h1
theorem ZdH:∀(ps acc:List Str),acc.Nodup->(ZI acc ps).Nodup
 | [],acc,h=>h
 | q :: ps,acc,h=>by
  unfold ZI;refine ZdH ps _ ?_;split
  ·exact h
  ·rename_i hq;refine Q8.mpr ⟨h,by simp,fun u hu v hv e=>hq ?_⟩;rw[<-YA.mp hv,<-e];exact hu
def dsi(f:Str->Int)(ks:List Str):List (D×D):=dsl (fun p => .int (f p)) ks
def ZcO(f:Str->Int)(p:Str)(x:Int):Str->Int:=fun q=>if q=p then f p+x else f q
def ZcF:List (Str×Int)->(Str->Int)->Str->Int
 | [],f=>f
 | (p,x) :: r,f=>ZcF r (ZcO f p x)
def ZeroS(f:Str->Int)(acc:List Str):Prop:=∀q,q ∉ acc->f q=0
theorem ZeroS.add{f:Str->Int}{acc:List Str}(h:ZeroS f acc)(p:Str)(x:Int):ZeroS (ZcO f p x) (if p∈acc then acc else acc++[p]):=fun q hq=>by
 unfold ZcO;by_cases e:q=p
 ·subst e;split at hq
  ·exact absurd ‹_› hq
  ·exact absurd (by simp) hq
 ·rw[Yh e];refine h q fun z=>hq ?_;split
  ·exact z
  ·exact Wx _ z
theorem Zku{st:Sto}{r:Nat}{f:Str->Int}{acc:List Str}(h:st[r]?=some (.dct (dsi f acc)))(z:ZeroS f acc)(p:Str):Zbi st (.res r)=true/\∃o,dAt st (.res r) (D.str p)=some o/\o.getD (.int 0) = .int (f p):=by
 refine⟨by unfold Zbi; simp only[h],(if p∈acc then some (.int (f p)) else none),?_,?_⟩
 ·unfold dAt;simp only[h];rw[Yi (by rw[ZhL]; rfl)];unfold dsi;rw[Zfz]
 ·by_cases hp:p∈acc
  ·rw[Yi hp]; rfl
  ·rw[Yh hp,z p hp]; rfl
theorem Zl3{st:Sto}{r:Nat}{f:Str->Int}{acc:List Str}(h:st[r]?=some (.dct (dsi f acc)))(hl:acc.length<100)(p:Str)(v:Int):ZaX st (.res r) (D.str p) (.int v)=some (st.set r (.dct (dsi (fun q=>if q=p then v else f q) (if p∈acc then acc else acc++[p])))):=by
 have hs:(dsi f acc).length<small:=by
  unfold dsi dsl;rw[Yp];exact Yq hl (Z8 (n:=100) (by omega))
 unfold ZaX;simp only[h];rw[Yi ⟨by rw[ZhL]; rfl,hs⟩];unfold dsi;rw[Zm9];have:(fun q=>if q=p then D.int v else D.int (f q))=fun q=>D.int (if q=p then v else f q):=by
  funext q;split <;> rfl
 rw[this]
theorem Zmr{acc:List Str}{p:Str}:(if p∈acc then acc else acc++[p]).length<=acc.length+1:=by split <;> simp
theorem ZhF{chk:Sto->Prop}(hchk:∀st,chk st)(c0:Option D)(r:Nat)(st0:Sto)(hr:st0.length<=r):∀(ps:List Str) (e:Option D) (acc:List Str) (f:Str->Int) (st:Sto),ZeroS f acc->acc.length+ps.length<=100->st[r]?=some (.dct (dsi f acc))->StoK st0 st ->
  ∃(e':Option D) (st':Sto),ZX chk (Zw 2) ZdP (ps.map D.str) [c0,some (.res r),e] st = .nx [c0,some (.res r),e'] st'/\st'[r]?=some (.dct (dsi (ZcF (ps.map fun p=>(p,1)) f) (ZI acc ps)))/\StoK st0 st'
 | [],e,acc,f,st,hf,_,h,hk=>⟨e,st,Zba (hchk st),h,hk⟩
 | p :: ps,e,acc,f,st,hf,hl,h,hk=>by
  have ht:Zw 2 (D.str p) [c0,some (.res r),e]=some [c0,some (.res r),some (D.str p)]:=rfl;obtain⟨hisd,o,hat,hn⟩:=Zku h hf p;simp only[Yx] at hl;have hput:=Zl3 h (by omega) p (f p+1);have hget:ZaW (Za 1) (Za 2) (dC (.int 0)) [c0,some (.res r),some (D.str p)] st = .ok (.int (f p)) st:=by
   rw[Zd4];simp only[Zcb,z_C,YF,YL,Zbx,hisd,Wq,hat];rw[hn]
  have hb:ZdP [c0,some (.res r),some (D.str p)] st = .nx [c0,some (.res r),some (D.str p)] (st.set r (.dct (dsi (ZcO f p 1) (if p∈acc then acc else acc++[p])))):=by
   unfold ZdP;rw[ZcH];simp[hget,ZaM,hput];rfl
  have hlen:=Zmr (acc:=acc) (p:=p);obtain⟨e',st',e1,e2,e3⟩:=ZhF hchk c0 r st0 hr ps (some (D.str p)) (if p∈acc then acc else acc++[p]) (ZcO f p 1) _ (hf.add p 1) (by omega) (ZbA h) (hk.set hr _);refine⟨e',st',?_,e2,e3⟩;rw[Ys,Zbm (hchk st) ht hb];exact e1
def ZaH(ps:List Str)(p:Str):Nat:=(ps.filter fun o=>decide (o=p)).length
theorem ZhG(q:Str):∀(ps:List Str) (f:Str->Int),ZcF (ps.map fun p=>(p,1)) f q=f q+(ZaH ps q:Int)
 | [],f=>by simp[ZcF,ZaH]
 | p :: ps,f=>by
  rw[Ys];unfold ZcF;rw[ZhG q ps];unfold ZcO ZaH;rw[WB];by_cases e:q=p
  ·subst e;simp;omega
  ·rw[Yh e,Yh (by simpa using fun z=>e z.symm)]
theorem Zon(ps:List Str)(hl:ps.length<=100)(st:Sto):∃(st':Sto) (r:Nat),Zcc [.lst (ps.map D.str)] st = .ok (.res r) st'/\st'[r]?=some (.dct (dsi (fun p=>(ZaH ps p:Int)) (ZI [] ps)))/\st.length<=r/\StoK st st':=by
 obtain⟨e',st',e1,e2,e4⟩:=ZhF (chk:=fun st=>itemsOf st (.lst (ps.map D.str))=some (ps.map D.str)) (fun _=>rfl) (some (.lst (ps.map D.str))) st.length st (Yj _) ps none [] (fun _=>0) (st++[.dct []]) (fun _ _=>rfl) (by simp; omega) (Za7 _ _) (StoK.app _ _);have ef:ZcF (ps.map fun p=>(p,1)) (fun _=>0)=fun p=>(ZaH ps p:Int):=by
  funext q;rw[ZhG];omega
 rw[ef] at e2;refine⟨st',st.length,?_,e2,Yj _,e4⟩;refine Zce rfl ?_;show ZeF [some (.lst (ps.map D.str)),none,none] st=_;unfold ZeF;have h0:Zz 1 ZdX [some (.lst (ps.map D.str)),none,none] st = .nx [some (.lst (ps.map D.str)),some (.res st.length),none] (st++[.dct []]):=rfl;have hd:Z5 (Za 0) [some (.lst (ps.map D.str)),some (.res st.length),none] (st++[.dct []]) = .ok (ps.map D.str,fun st=>itemsOf st (.lst (ps.map D.str))=some (ps.map D.str)) (st++[.dct []]):=rfl;rw[Zaz h0,Zaz (ρ':=[some (.lst (ps.map D.str)),some (.res st.length),e']) (st':=st') (by rw[Za8,hd,Zbk]; exact e1)];simp
def Zo(ps:List (List Str))(o:List Str):List Str:=(ps.filter fun p=>decide (p.take o.length=o) && decide (o.length<p.length)).map fun p=>p.getD o.length ""
theorem ZhJ(ps:List (List Str))(o:List Str):(Zo ps o).length<=ps.length:=by
 unfold Zo;rw[Yp];exact V4 _ _
theorem Zj1{p:List Str}{k:Nat}(h:k<p.length)(st:Sto):ixD (pl p) (.int (k:Int)) st = .ok (.str (p.getD k "")) st:=by
 have hx:L2.atI (p.map D.str) (k:Int)=some (.str (p.getD k "")):=Zfo (by rw[Yw,Ye,Yd h]; rfl);have hi:itemsOf st (pl p)=some (p.map D.str):=rfl;unfold ixD;simp only[pl] at hi ⊢;rw[hi];simp only[hx]
theorem gt_int(a b:Int)(st:Sto):gtD (.int a) (.int b) st = .ok (.bl (decide (b<a))) st:=rfl
def itV(W:List Str)(w:Str):D:=.tup [.str w,.int (ZaH W w:Int)]
theorem ZqL(ps:List (List Str))(hl:ps.length<=50)(o:List Str)(st:Sto):∃st',Zcz [.lst (ps.map pl),pl o] st = .ok (.lst ((SO.srtS (ZI [] (Zo ps o))).map (itV (Zo ps o)))) st'/\StoK st st':=by
 have e0:=ZbZ o st;have e1:ZG (fun _=>True) (Zw 0) Zgo ZeM (ps.map pl) [none,some (.int (o.length:Int)),some (pl o)] st [] = .ok ((Zo ps o).map .str) st:=by
  rw[Zbp pl (fun p=>decide (p.take o.length=o) && decide (o.length<p.length)) (fun p=>D.str (p.getD o.length "")) (fun ρ => ∃a,ρ=[a,some (.int (o.length:Int)),some (pl o)]) trivial ps _ [] ⟨_,rfl⟩ (by simp; exact Z8 (by omega))]
  ·unfold Zo;rw[Y0];rfl
  ·rintro p hm ρ ⟨a,rfl⟩;refine⟨[some (pl p),some (.int (o.length:Int)),some (pl o)],rfl,⟨_,rfl⟩,?_,fun h => ?_⟩
   ·have q1:=ZhP p o st;have q2:=ZbZ p st;have q3:=gt_int (p.length:Int) (o.length:Int) st;have q4:decide ((o.length:Int)<(p.length:Int))=decide (o.length<p.length):=by
     by_cases z:o.length<p.length
     ·rw[YS z,YS (by omega)]
     ·rw[YQ z,YQ (by omega)]
    rw[q4] at q3;unfold Zgo;cases h1:decide (p.take o.length=o) with
    | true=>rw[h1] at q1; simp[q1,q2,q3]
    | false=>rw[h1] at q1; simp[q1]
   ·rw[YE,YD,YD] at h;have q:=Zj1 h.2 st;unfold ZeM;generalize p.getD o.length "" = W at *;simp[q]
 have hwl:=ZhJ ps o;obtain⟨st',r,f1,f2,f3,k⟩:=Zon (Zo ps o) (by omega) st;refine⟨st',?_,k⟩;have hnd:(ZI [] (Zo ps o)).Nodup:=ZdH _ _ QK;have hlen:(ZI [] (Zo ps o)).length<128:=by
  have:(ZI [] (Zo ps o)).length<=(Zo ps o).length:=by
   have:∀(ws acc:List Str),(ZI acc ws).length<=acc.length+ws.length:=by
    intro ws
    induction ws with
    | nil=>exact fun acc=>Yj _
    | cons w ws ih =>
     intro acc;have h1:=ih (if w∈acc then acc else acc++[w]);have h2:(if w∈acc then acc else acc++[w]).length<=acc.length+1:=by split <;> simp
     show (ZI (if w∈acc then acc else acc++[w]) ws).length<=_;simp only[Yx];omega
   simpa using this (Zo ps o) []
  omega
 have hit:∀fo ρ st0,fo ρ st0 = .ok (.res r) st'->Zd0 fo ρ st0 = .ok ((SO.srtS (ZI [] (Zo ps o))).map (itV (Zo ps o))) st':=fun fo ρ st0 hfo=>by
  unfold Zd0;rw[hfo,Zbx];simp only[f2];have hk:(dsi (fun p=>(ZaH (Zo ps o) p:Int)) (ZI [] (Zo ps o))).map (·.1)=(ZI [] (Zo ps o)).map D.str:=by
   unfold dsi dsl;rw[Y0];rfl
  have hin:ZO (dsi (fun p=>(ZaH (Zo ps o) p:Int)) (ZI [] (Zo ps o)))=true:=by
   unfold ZO dsi dsl;rw[List.all_map,YB];intro p _;rfl
  rw[hk,Ze2];dsimp only;rw[Yi ⟨hin,hnd,hlen⟩];congr 1;refine Wr fun w hw => ?_;unfold ZcP itV dsi;rw[Zfz,Yi ((SO.srtS_perm _).mem_iff.mp hw)];rfl
 have hi:∀st:Sto,itemsOf st (.lst (ps.map pl))=some (ps.map pl):=fun _=>rfl;generalize (SO.srtS (ZI [] (Zo ps o))).map (itV (Zo ps o))=G1 at *;have hc:∀a b c:Option D,Zn Zcc (Zc (Za 3) Zg) [a,b,c,some (.lst ((Zo ps o).map .str))] st = .ok (.res r) st':=fun a b c=>by
  generalize (Zo ps o).map D.str=G2 at *;simp[f1]
 have hit2:=fun a b c=>hit (Zn Zcc (Zc (Za 3) Zg)) [a,b,c,some (.lst ((Zo ps o).map .str))] st (hc a b c);clear hit hc;generalize (Zo ps o).map D.str=G2 at *;generalize ps.map pl=G3 at *;unfold Zcz ZgG;simp[e0,hi,Zaa,e1,hit2]
theorem ZiZ(st:Sto)(w:Str):∀W:List Str,Zan st (.str w) (W.map D.str)=some (W.map fun g=>decide (g=w))
 | []=>rfl
 | g :: W=>by
  rw[Ys];unfold Zan;rw[ZiZ st w W,ZbD st depth (.str g) (.str w) rfl rfl];by_cases h:g=w
  ·subst h; simp
  ·have h':¬ D.str g=D.str w:=fun z=>h (D.str.inj z);simp[h,h']
theorem Zjf(w:Str):∀W:List Str,(W.map fun g=>decide (g=w)).count true=ZaH W w
 | []=>rfl
 | g :: W=>by
  have ih:=Zjf w W;unfold ZaH at *;rw[Ys,WB];by_cases h:g=w
  ·rw[Yi (by simpa using h),YS h,List.count_cons_self,ih,Yx]
  ·rw[Yh (by simpa using h),YQ h,List.count_cons_of_ne (by simp),ih]
theorem Zhe{a b:List Str}(ha:a.Nodup)(hb:b.Nodup)(h:∀x,x∈a ↔ x∈b):SO.srtS a=SO.srtS b:=by
 refine SO.srtS_uniq ((SO.srtS_perm a).trans ((Uq ha hb).mpr h)) ?_;refine List.Pairwise.imp₂ (R:=fun a b=>SO.tleB a b=true) (S:=fun a b=>a≠b) (fun a b h1 h2 => ?_) (SO.srtS_pw _) ((SO.srtS_perm a).nodup_iff.mpr ha);simp only[SO.tleB,SO.tltB,YD] at *;by_cases h5:a.cps.toList<b.cps.toList
 ·exact h5
 ·exact absurd (SO.str_cps (VZ h1 (Uk.mp h5))) h2
theorem ZoU(ps:List (List Str))(hl:ps.length<=50)(o:List Str)(st:Sto):∃st',Zb0 [.lst (ps.map pl),pl o] st = .ok (.bl true) st'/\StoK st st':=by
 obtain⟨st',eb,k⟩:=ZqL ps hl o st;refine⟨st',?_,k⟩;have eu:=ZqF ps (by omega) o st;have e1:ZG (fun _=>True) (Zw 0) ZeZ Zfx (ps.map pl) [none,some (pl o)] st [] = .ok ((ps.filter fun p=>decide (p.take o.length=o)).map pl) st:=by
  rw[Zbp pl (fun p=>decide (p.take o.length=o)) pl (fun ρ => ∃a,ρ=[a,some (pl o)]) trivial ps _ [] ⟨_,rfl⟩ (by simp; exact Z8 (by omega))]
  ·simp
  ·rintro p hm ρ ⟨a,rfl⟩;refine⟨_,rfl,⟨_,rfl⟩,?_,fun _ => ?_⟩
   ·have q1:=ZbZ o st;have q2:=ZeV p none (some (o.length:Int)) st;rw[ZbQ] at q2;have q3:=Zgn (p.take o.length) o st;unfold ZeZ;simp[q1,q2,q3]
   ·unfold Zfx;simp
 have hsl:(ps.filter fun p=>decide (p.take o.length=o)).length<=ps.length:=V4 _ _;have e2:ZG (fun _=>True) (Zw 0) Ze3 ZeA ((ps.filter fun p=>decide (p.take o.length=o)).map pl) [none,some (pl o)] st [] = .ok ((Zo ps o).map .str) st:=by
  rw[Zbp pl (fun p=>decide (o.length<p.length)) (fun p=>D.str (p.getD o.length "")) (fun ρ => ∃a,ρ=[a,some (pl o)]) trivial _ _ [] ⟨_,rfl⟩ (by simp; exact Z8 (by omega))]
  ·unfold Zo;rw[Y0,List.filter_filter];have:(fun a:List Str=>decide (o.length<a.length) && decide (a.take o.length=o))=fun p=>decide (p.take o.length=o) && decide (o.length<p.length):=by
    funext p;rw[Bool.and_comm]
   rw[this];rfl
  ·rintro p hm ρ ⟨a,rfl⟩;refine⟨[some (pl p),some (pl o)],rfl,⟨_,rfl⟩,?_,fun h => ?_⟩
   ·have q1:=ZbZ o st;have q2:=ZbZ p st;have q3:=gt_int (p.length:Int) (o.length:Int) st;have q4:decide ((o.length:Int)<(p.length:Int))=decide (o.length<p.length):=by
     by_cases z:o.length<p.length
     ·rw[YS z,YS (by omega)]
     ·rw[YQ z,YQ (by omega)]
    rw[q4] at q3;unfold Ze3;simp[q1,q2,q3]
   ·rw[YD] at h;have q1:=ZbZ o st;have q:=Zj1 h st;unfold ZeA;generalize p.getD o.length "" = W at *;simp[q1,q]
 have hwl:=ZhJ ps o;have e3:Zdz [.lst ((Zo ps o).map .str)] st = .ok ((SO.srtS (ZI [] (Zo ps o))).map D.str) st:=by
  unfold Zdz;show (match Zbd ((Zo ps o).map D.str) with
   | some ss=>if ss.length<64 then Out.ok ((SO.srtS (ddS ss)).map D.str) st else .bad
   | none => .bad)=_
  rw[Ze2];dsimp only;rw[Yi (by omega),Zhe (a:=ddS (Zo ps o)) (b:=ZI [] (Zo ps o)) (ZcS _) (ZdH _ _ QK) fun x=>by rw[ZcT,ZfD]; simp]
 have hsl2:(SO.srtS (ZI [] (Zo ps o))).length<=50:=by
  rw[<-Zhe (a:=ddS (Zo ps o)) (b:=ZI [] (Zo ps o)) (ZcS (Zo ps o)) (ZdH _ _ QK) fun x=>by rw[ZcT,ZfD]; simp];rw[(SO.srtS_perm _).length_eq];have:=ZfM (Zo ps o);omega
 have e4:ZG (fun _=>True) (Zw 0) Zah Zf1 ((SO.srtS (ZI [] (Zo ps o))).map D.str) [none,some (.lst ((Zo ps o).map .str))] st [] = .ok ((SO.srtS (ZI [] (Zo ps o))).map (itV (Zo ps o))) st:=by
  rw[Zdd D.str (itV (Zo ps o)) (fun ρ => ∃a,ρ=[a,some (.lst ((Zo ps o).map .str))]) trivial _ _ [] ⟨_,rfl⟩ (by simp only[Ua,Wl]; exact Z8 (by omega))]
  ·simp
  ·rintro w hm ρ ⟨a,rfl⟩;refine⟨[some (.str w),some (.lst ((Zo ps o).map .str))],rfl,⟨_,rfl⟩,?_⟩;have q:Zc9 (.lst ((Zo ps o).map .str)) [.str w] st = .ok (.int (ZaH (Zo ps o) w:Int)) st:=by
    unfold Zc9;show (match Zan st (.str w) ((Zo ps o).map D.str) with
     | some bs=>Out.ok (D.int (bs.count true:Nat)) st
     | none => .bad)=_
    rw[ZiZ];dsimp only;rw[Zjf]
   have hs:∀st:Sto,Zj st (.lst ((Zo ps o).map .str))=some ((Zo ps o).map .str):=fun _=>rfl;unfold Zf1 itV;generalize ZaH (Zo ps o) w=n at *;generalize (Zo ps o).map D.str=Y at *;simp[q,hs]
 have hn:nice depth (.lst ((SO.srtS (ZI [] (Zo ps o))).map (itV (Zo ps o))))=true:=ZjS _ (fun w=>rfl) _;have e5:∀{a:D},nice depth a=true->eqD a a st' = .ok (.bl true) st':=fun h=>by rw[ZfV h h]; simp
 replace e5:=e5 hn;have e6:=Zlz (ZbC ps o:Int) (ZbC ps o:Int) st;rw[YS rfl] at e6;have e7:ZK [.lst ((ps.filter fun p=>decide (p.take o.length=o)).map pl)] st = .ok (.int (ZbC ps o)) st:=by
  simp[ZK,itemsOf,Zj,ZbC]
 have hi:∀(L:List D) (st:Sto),itemsOf st (.lst L)=some L:=fun _ _=>rfl;generalize (SO.srtS (ZI [] (Zo ps o))).map (itV (Zo ps o))=G1 at *;generalize (SO.srtS (ZI [] (Zo ps o))).map D.str=G2 at *;generalize (Zo ps o).map D.str=G3 at *;generalize (ps.filter fun p=>decide (p.take o.length=o)).map pl=G4 at *;generalize ZbC ps o=u at *;generalize ps.map pl=G5 at *;unfold Zb0 Zjn;simp[hi,Zaa,e1,e2,e3,e4,e5,e6,e7,eu,eb]
def moV(ns:List Int):Nat->Int
 | 0=>0
 | i+1=>moV ns i+1+ZT ns (60+(i:Int)) 9
def ZaS(ns:List Int)(n:Nat):List Int:=(List.range n).map fun j=>moV ns (j+1)
theorem Zfe(ns:List Int)(n:Nat):(ZaS ns n).length=n:=by simp[ZaS]
theorem Zm3(ns:List Int)(n:Nat):(ZaS ns (n+1)).map D.int=(ZaS ns n).map D.int++[D.int (moV ns (n+1))]:=by
 unfold ZaS;rw[Vq,Wm,Wm];rfl
section
variable{c1 c2 c3 c4 c6 c7 c8 c11 c12 c13:Option D}
theorem ZjJ{ns:List Int}(hns:ns.length<=63){chk:Sto->Prop}(hchk:∀st,chk st)(r:Nat)(st0:Sto)(hr:st0.length<=r):∀(qs:List (List Str)) (e5:Option D) (i:Nat) (st:Sto),i+qs.length<=100->st[r]?=some (.lst ((ZaS ns i).map D.int))->StoK st0 st ->
  ∃(e':Option D) (st':Sto),ZX chk (Zw 5) Zea (qs.map pl) [some (.scr (ns.map .int)),c1,c2,c3,c4,e5,c6,c7,c8,some (.res r),some (.int (moV ns i)),c11,c12,c13] st = .nx [some (.scr (ns.map .int)),c1,c2,c3,c4,e',c6,c7,c8,some (.res r),some (.int (moV ns (i+qs.length))),c11,c12,c13] st'/\st'[r]?=some (.lst ((ZaS ns (i+qs.length)).map D.int))/\StoK st0 st'
 | [],e5,i,st,_,h,hk=>⟨e5,st,Zba (hchk st),h,hk⟩
 | p :: qs,e5,i,st,hl,h,hk=>by
  have ht:Zw 5 (pl p) [some (.scr (ns.map .int)),c1,c2,c3,c4,e5,c6,c7,c8,some (.res r),some (.int (moV ns i)),c11,c12,c13]=some [some (.scr (ns.map .int)),c1,c2,c3,c4,some (pl p),c6,c7,c8,some (.res r),some (.int (moV ns i)),c11,c12,c13]:=rfl;simp only[Yx] at hl;have e1:=Zqx h;rw[Yp,Zfe] at e1;have e2:=ZbV ns hns (60+(i:Int)) 9 (by decide) st;have ha:=ZhO (ρ:=[some (.scr (ns.map .int)),c1,c2,c3,c4,some (pl p),c6,c7,c8,some (.res r),some (.int (moV ns (i+1))),c11,c12,c13]) (j:=9) (f:=Za 10) (d:=.int (moV ns (i+1))) rfl h rfl (by rw[Yp,Zfe]; exact Yq (by omega) (Z8 (n:=100) (by omega)));rw[<-Zm3] at ha;have hm:moV ns i+1+ZT ns (60+(i:Int)) 9=moV ns (i+1):=rfl;have hb:Zea [some (.scr (ns.map .int)),c1,c2,c3,c4,some (pl p),c6,c7,c8,some (.res r),some (.int (moV ns i)),c11,c12,c13] st = .nx [some (.scr (ns.map .int)),c1,c2,c3,c4,some (pl p),c6,c7,c8,some (.res r),some (.int (moV ns (i+1))),c11,c12,c13] (st.set r (.lst ((ZaS ns (i+1)).map D.int))):=by
   unfold Zea;generalize (ZaS ns (i+1)).map D.int=G at *;generalize moV ns (i+1)=mm at *;generalize ns.map D.int=NN at *;simp[e1,e2,ZaM,hm,ha]
  obtain⟨e',st',f1,f2,f3⟩:=ZjJ hns hchk r st0 hr qs (some (pl p)) (i+1) _ (by omega) (ZbA h) (hk.set hr _);have hi:i+1+qs.length=i+(p :: qs).length:=by simp; omega
  rw[hi] at f1 f2;refine⟨e',st',?_,f2,f3⟩;rw[Ys,Zbm (hchk st) ht hb];exact f1
end
def dlV(M:List Int)(E:Int):Nat->List (List Str)->List (List Str×Int)
 | _,[]=>[]
 | j,p :: r=>(p,(M++[E]).getD (j+1) 0 - M.getD j 0) :: dlV M E (j+1) r
section
variable{c0 c1 c2 c3 c4 c6 c7 c8 c13:Option D}
theorem Zhn{M:List Int}{E:Int}(hM:M.length<=100){chk:Sto->Prop}(hchk:∀st,chk st){r9:Nat}(r:Nat)(st0:Sto)(hr:st0.length<=r)(h9:st0[r9]?=some (.lst (M.map D.int))):∀(qs:List (List Str)) (e5 e12:Option D) (j:Nat) (acc:List (List Str)) (f:List Str->Int) (st:Sto),Zero f acc->acc.length+qs.length<=100->j+qs.length=M.length->st[r]?=some (.dtt (dpi f acc))->StoK st0 st ->
  ∃(e' e'':Option D) (st':Sto),ZX chk (Zat [12,5]) ZdJ (Zal j (qs.map pl)) [c0,c1,c2,c3,c4,e5,c6,c7,c8,some (.res r9),some (.int E),some (.res r),e12,c13] st = .nx [c0,c1,c2,c3,c4,e',c6,c7,c8,some (.res r9),some (.int E),some (.res r),e'',c13] st'/\st'[r]?=some (.dtt (dpi (Zbq (dlV M E j qs) f) (Zh acc qs)))/\StoK st0 st'
 | [],e5,e12,j,acc,f,st,_,_,_,h,hk=>⟨e5,e12,st,Zba (hchk st),h,hk⟩
 | p :: qs,e5,e12,j,acc,f,st,hf,hl,hj,h,hk=>by
  have hen:Zal j ((p :: qs).map pl)=D.tup [.int (j:Int),pl p] :: Zal (j+1) (qs.map pl):=rfl;have ht:Zat [12,5] (D.tup [.int (j:Int),pl p]) [c0,c1,c2,c3,c4,e5,c6,c7,c8,some (.res r9),some (.int E),some (.res r),e12,c13]=some [c0,c1,c2,c3,c4,some (pl p),c6,c7,c8,some (.res r9),some (.int E),some (.res r),some (.int (j:Int)),c13]:=rfl;simp only[Yx] at hl hj;obtain⟨hisd,o,hat,hn⟩:=Ze7 h hf p;have g9:=hk.fr _ _ h9;have hput:=ZdE h (by omega) p (f p+(M++[E]).getD (j+1) 0 - M.getD j 0);have hget:ZaW (Za 11) (Za 5) (dC (.int 0)) [c0,c1,c2,c3,c4,some (pl p),c6,c7,c8,some (.res r9),some (.int E),some (.res r),some (.int (j:Int)),c13] st = .ok (.int (f p)) st:=by
   rw[Zd4];simp only[Zcb,z_C,YF,YL,Zbx,hisd,Wq,hat];rw[hn]
  have hcat:ZaB (.res r9) (.lst [.int E]) st = .ok ((M++[E]).map D.int) st:=by
   have:(M.map D.int).length+1<=small:=Z8 (by rw[Yp]; omega);simp[ZaB,ZaI,g9];simpa using this
  have hx:ixD (.lst ((M++[E]).map D.int)) (.int ((j:Int)+1)) st = .ok (.int ((M++[E]).getD (j+1) 0)) st:=by
   refine ZfE (j:=j+1) (by omega) ?_ st;rw[Yw,Ye,Yd (by simp; omega)];rfl
  have hy:ixD (.res r9) (.int (j:Int)) st = .ok (.int (M.getD j 0)) st:=by
   have h1:L2.atI (M.map D.int) (j:Int)=some (.int (M.getD j 0)):=Zfo (by rw[Yw,Ye,Yd (by omega)]; rfl);have h2:=getL g9;unfold ixD;rw[h2];simp only[h1]
  have q1:(1:Nat)<=small:=by decide
  have hb:ZdJ [c0,c1,c2,c3,c4,some (pl p),c6,c7,c8,some (.res r9),some (.int E),some (.res r),some (.int (j:Int)),c13] st = .nx [c0,c1,c2,c3,c4,some (pl p),c6,c7,c8,some (.res r9),some (.int E),some (.res r),some (.int (j:Int)),c13] (st.set r (.dtt (dpi (Zau f p ((M++[E]).getD (j+1) 0 - M.getD j 0)) (if p∈acc then acc else acc++[p])))):=by
   have ea:(fun q=>if q=p then f p+(M++[E]).getD (j+1) 0 - M.getD j 0 else f q)=Zau f p ((M++[E]).getD (j+1) 0 - M.getD j 0):=by
    funext q;unfold Zau;split <;> omega
   rw[ea] at hput;unfold ZdJ;generalize (M++[E]).getD (j+1) 0=x at *;generalize M.getD j 0=y at *;generalize (M++[E]).map D.int=G at *;rw[ZcH];simp[hget,hcat,hx,hy,ZaM,Ziu,hput,q1]
  have hlen:=Zep (acc:=acc) (p:=p);obtain⟨e',e'',st',e1,e2,e3⟩:=Zhn hM hchk r st0 hr h9 qs (some (pl p)) (some (.int (j:Int))) (j+1) (if p∈acc then acc else acc++[p]) (Zau f p ((M++[E]).getD (j+1) 0 - M.getD j 0)) _ (hf.add p _) (by omega) (by omega) (ZbA h) (hk.set hr _);refine⟨e',e'',st',?_,e2,e3⟩;rw[hen,Zbm (hchk st) ht hb];exact e1
end
def zlV:List (List Str)->List Int->List Int->List (List Str×Int)
 | p :: r,m :: ms,u :: us=>(p,u - m) :: zlV r ms us
 | _,_,_=>[]
theorem ZiH(M:List Int)(E:Int):∀(qs:List (List Str)) (j:Nat),j+qs.length<=M.length->zlV qs (M.drop j) ((M++[E]).drop (j+1))=dlV M E j qs
 | [],j,_=>by unfold zlV dlV; rfl
 | p :: qs,j,h=>by
  simp only[Yx] at h;have ih:=ZiH M E qs (j+1) (by omega);have h1:j<M.length:=by omega
  have h2:j+1<(M++[E]).length:=by simp; omega
  rw[QG h1,QG h2];show (p,_) :: zlV qs (M.drop (j+1)) ((M++[E]).drop (j+1+1))=_;rw[ih];unfold dlV;rw[Ye,Ye,Yd h1,Yd h2];cases qs <;> rfl
theorem ZhD{c0 c1 c2 c4:Option D}{chk:Sto->Prop}(r:Nat)(st0:Sto)(hchk:∀st,StoK st0 st->chk st)(hr:st0.length<=r):∀(qs:List (List Str)) (Ms Us:List Int) (e5 e6 e7:Option D) (acc:List (List Str)) (f:List Str->Int) (st:Sto),Zero f acc->acc.length+qs.length<=100->qs.length<=Ms.length->qs.length<=Us.length->st[r]?=some (.dtt (dpi f acc))->StoK st0 st ->
  ∃(e' e'' e3:Option D) (st':Sto),ZX chk (Zat [5,6,7]) Zei (Zaf (qs.map pl) (Ms.map D.int) (Us.map D.int)) [c0,c1,c2,some (.res r),c4,e5,e6,e7] st = .nx [c0,c1,c2,some (.res r),c4,e',e'',e3] st'/\st'[r]?=some (.dtt (dpi (Zbq (zlV qs Ms Us) f) (Zh acc qs)))/\StoK st0 st'
 | [],Ms,Us,e5,e6,e7,acc,f,st,_,_,_,_,h,hk=>⟨e5,e6,e7,st,by rw[show Zaf (([]:List (List Str)).map pl) (Ms.map D.int) (Us.map D.int)=[] by unfold Zaf; rfl]; exact Zba (hchk st hk),by rw[show zlV [] Ms Us=[] by unfold zlV; rfl]; exact h,hk⟩
 | p :: qs,[],_,_,_,_,_,_,_,_,_,h1,_,_,_=>by simp at h1
 | p :: qs,_ :: _,[],_,_,_,_,_,_,_,_,_,h1,_,_=>by simp at h1
 | p :: qs,m :: Ms,u :: Us,e5,e6,e7,acc,f,st,hf,hl,h1,h2,h,hk=>by
  have hz:Zaf ((p :: qs).map pl) ((m :: Ms).map D.int) ((u :: Us).map D.int)=D.tup [pl p,.int m,.int u] :: Zaf (qs.map pl) (Ms.map D.int) (Us.map D.int):=rfl;have hz2:zlV (p :: qs) (m :: Ms) (u :: Us)=(p,u - m) :: zlV qs Ms Us:=rfl;have ht:Zat [5,6,7] (D.tup [pl p,.int m,.int u]) [c0,c1,c2,some (.res r),c4,e5,e6,e7]=some [c0,c1,c2,some (.res r),c4,some (pl p),some (.int m),some (.int u)]:=rfl;simp only[Yx] at hl h1 h2;obtain⟨hisd,o,hat,hn⟩:=Ze7 h hf p;have hput:=ZdE h (by omega) p (f p+u - m);have hget:ZaW (Za 3) (Za 5) (dC (.int 0)) [c0,c1,c2,some (.res r),c4,some (pl p),some (.int m),some (.int u)] st = .ok (.int (f p)) st:=by
   rw[Zd4];simp only[Zcb,z_C,YF,YL,Zbx,hisd,Wq,hat];rw[hn]
  have hb:Zei [c0,c1,c2,some (.res r),c4,some (pl p),some (.int m),some (.int u)] st = .nx [c0,c1,c2,some (.res r),c4,some (pl p),some (.int m),some (.int u)] (st.set r (.dtt (dpi (Zau f p (u - m)) (if p∈acc then acc else acc++[p])))):=by
   have ea:(fun q=>if q=p then f p+u - m else f q)=Zau f p (u - m):=by
    funext q;unfold Zau;split <;> omega
   rw[ea] at hput;unfold Zei;rw[ZcH];simp[hget,ZaM,Ziu,hput]
  have hlen:=Zep (acc:=acc) (p:=p);obtain⟨e',e'',e3,st',g1,g2,g3⟩:=ZhD r st0 hchk hr qs Ms Us (some (pl p)) (some (.int m)) (some (.int u)) (if p∈acc then acc else acc++[p]) (Zau f p (u - m)) _ (hf.add p _) (by omega) (by omega) (by omega) (ZbA h) (hk.set hr _);refine⟨e',e'',e3,st',?_,g2,g3⟩;rw[hz,Zbm (hchk st hk) ht hb];exact g1
theorem Zm0(ps:List (List Str))(hl:ps.length<=100){M:List Int}(hM:M.length=ps.length)(E:Int){r9:Nat}{st:Sto}(h9:st[r9]?=some (.lst (M.map D.int))) :
  ∃(st':Sto) (r:Nat),ZcX [.lst (ps.map pl),.res r9,.int E] st = .ok (.res r) st'/\st'[r]?=some (.dtt (dpi (Zbq (dlV M E 0 ps) fun _=>0) (Zh [] ps)))/\StoK st st':=by
 have hk0:StoK st (st++[.dtt []]):=StoK.app _ _;have g9:=hk0.fr _ _ h9;have hs9:∀st',StoK st st'->Zj st' (.res r9)=some (M.map D.int):=fun st' k=>by
  have:=k.fr _ _ h9;simp[Zj,this]
 have hlz:ps.length<=(M.drop 1++[E]).length:=by simp; omega
 obtain⟨e',e'',e3,st',g1,g2,g3⟩:=ZhD (c0:=some (.lst (ps.map pl))) (c1:=some (.res r9)) (c2:=some (.int E)) (c4:=some (.lst ((M.drop 1++[E]).map D.int))) (chk:=fun st=>Zj st (.lst (ps.map pl))=some (ps.map pl)/\Zj st (.res r9)=some (M.map D.int)/\Zj st (.lst ((M.drop 1++[E]).map D.int))=some ((M.drop 1++[E]).map D.int)) st.length st (fun st' k=>⟨rfl,hs9 st' k,rfl⟩) (Yj _) ps M (M.drop 1++[E]) none none none [] (fun _=>0) (st++[.dtt []]) (fun _ _=>rfl) (by simp; omega) (by omega) hlz (Za7 _ _) hk0;have hz:zlV ps M (M.drop 1++[E])=dlV M E 0 ps:=by
  cases ps with
  | nil=>unfold zlV dlV; rfl
  | cons p ps =>
   have:=ZiH M E (p :: ps) 0 (by omega);rw[Va,List.drop_append_of_le_length (by simp at hM; omega)] at this;exact this
 rw[hz] at g2;refine⟨st',st.length,?_,g2,g3⟩;refine Zce rfl ?_;show Ze6 [some (.lst (ps.map pl)),some (.res r9),some (.int E),none,none,none,none,none] st=_;unfold Ze6;have h0:Zz 3 ZaQ [some (.lst (ps.map pl)),some (.res r9),some (.int E),none,none,none,none,none] st = .nx [some (.lst (ps.map pl)),some (.res r9),some (.int E),some (.res st.length),none,none,none,none] (st++[.dtt []]):=rfl;have hcut:ZQ (.res r9) (some 1) none (st++[.dtt []]) = .ok ((M.drop 1).map D.int) (st++[.dtt []]):=by
  have:=Ziq (M.map D.int) 1;unfold ZQ;rw[hs9 _ hk0];dsimp only;rw[show (some (1:Int))=some ((1:Nat):Int) from rfl,this,UT]
 have hlist:Za2 [.lst ((M.drop 1).map D.int)] (st++[.dtt []]) = .ok ((M.drop 1).map D.int) (st++[.dtt []]):=rfl;have hcat:ZaB (.lst ((M.drop 1).map D.int)) (.lst [.int E]) (st++[.dtt []]) = .ok ((M.drop 1++[E]).map D.int) (st++[.dtt []]):=by
  have:((M.drop 1).map D.int).length+1<=small:=Z8 (by rw[Yp,QL]; omega);unfold ZaB;simp only[ZaI];rw[Yi (by simpa using this),Wm];rfl
 have q1:(1:Nat)<=small:=by decide
 have h1:Zz 4 (dF (ZbE ZaB (dF (Zn Za2 (Zc (dF (dSl ZQ (Za 1) (ZaD (dC (.int 1))) ZaF)) Zg))) (dF (Zax (Zc (Za 2) Zg))))) [some (.lst (ps.map pl)),some (.res r9),some (.int E),some (.res st.length),none,none,none,none] (st++[.dtt []]) = .nx [some (.lst (ps.map pl)),some (.res r9),some (.int E),some (.res st.length),some (.lst ((M.drop 1++[E]).map D.int)),none,none,none] (st++[.dtt []]):=by
  generalize (M.drop 1++[E]).map D.int=G1 at *;generalize (M.drop 1).map D.int=G2 at *;generalize ps.map pl=G3 at *;simp[hcut,hlist,hcat,q1]
 have hd:ZdV (Zc (Za 0) (Zc (Za 1) (Zc (Za 4) Zg))) [some (.lst (ps.map pl)),some (.res r9),some (.int E),some (.res st.length),some (.lst ((M.drop 1++[E]).map D.int)),none,none,none] (st++[.dtt []]) = .ok (Zaf (ps.map pl) (M.map D.int) ((M.drop 1++[E]).map D.int),fun st=>Zj st (.lst (ps.map pl))=some (ps.map pl)/\Zj st (.res r9)=some (M.map D.int)/\Zj st (.lst ((M.drop 1++[E]).map D.int))=some ((M.drop 1++[E]).map D.int)) (st++[.dtt []]):=by
  have a1:(ps.map pl).length<=(M.map D.int).length:=by rw[Yp,Yp]; omega
  have a2:(ps.map pl).length<=((M.drop 1++[E]).map D.int).length:=by rw[Yp,Yp]; exact hlz
  have h9':=hs9 _ hk0;unfold ZdV;generalize (M.drop 1++[E]).map D.int=G1 at *;generalize M.map D.int=G2 at *;generalize ps.map pl=G3 at *;have s1:∀(L:List D) (st:Sto),Zj st (.lst L)=some L:=fun _ _=>rfl;simp only[Zoe,ZlE,Zcb,YF,YL,Zbx,s1,h9'];rw[Yi ⟨a1,a2⟩]
 rw[Zaz h0,Zaz h1,Zaz (by rw[Za8,hd,Zbk]; exact g1)];simp
theorem Zck{f:D->D->Option Bool}:∀xs:List D,(∀x∈xs,f x x=some true)->ZU f xs xs=some true
 | [],_=>rfl
 | x :: xs,h=>by rw[ZU,h x Yz,Zck xs fun y hy=>h y (Yv _ hy)]; rfl
theorem ZfY{n:Nat}{st:Sto}{a b:D}{X:List D}(ha:kd st a = .lst X)(hb:kd st b = .lst X)(hn:∀x∈X,nice n x=true):eqN st (n+1) a b=some true:=by
 unfold eqN;rw[ha,hb];exact Zck X fun x hx=>by rw[ZbD st n x x (hn x hx) (hn x hx)]; simp
theorem held_eq{ps:List (List Str)}{M:List Int}{r9:Nat}{st:Sto}(h9:st[r9]?=some (.lst (M.map D.int))):eqD (.lst [.lst (ps.map pl),.res r9]) (.lst [.lst (ps.map pl),.lst (M.map D.int)]) st = .ok (.bl true) st:=by
 have e1:eqN st 49 (.lst (ps.map pl)) (.lst (ps.map pl))=some true:=ZfY (n:=48) (X:=ps.map pl) rfl rfl fun x hx=>by
  obtain⟨p,_,rfl⟩:=YX.mp hx;exact Zdf 46 p
 have e2:eqN st 49 (.res r9) (.lst (M.map D.int))=some true:=ZfY (n:=48) (X:=M.map D.int) (by simp[kd,h9]) rfl fun x hx=>by
  obtain⟨p,_,rfl⟩:=YX.mp hx;rfl
 unfold eqD;have e3:eqN st depth (.lst [.lst (ps.map pl),.res r9]) (.lst [.lst (ps.map pl),.lst (M.map D.int)])=some true:=by
  show eqN st (49+1) _ _=_;unfold eqN;show ZU (eqN st 49) [.lst (ps.map pl),.res r9] [.lst (ps.map pl),.lst (M.map D.int)]=_;simp[ZU,e1,e2]
 rw[e3]
theorem Zpg{st:Sto}{a b:D}{X:List D}(ha:kd st a = .lst X)(hb:kd st b = .lst X)(hn:∀x∈X,nice 49 x=true):neD a b st = .ok (.bl false) st:=by
 unfold neD;rw[show eqN st depth a b=some true from ZfY (n:=49) ha hb hn];rfl
theorem law_true(cv:Nat->Addr):∀ns:List Int,ns.length<=63->∃st,Zdh cv [.scr (ns.map .int)] [.tab (cv 90) false] = .ok (.bl true) st:=by
 intro ns hns
 suffices h:∃st,Zfj cv [some (.scr (ns.map .int)),none,none,none,none,none,none,none,none,none,none,none,none,none] [.tab (cv 90) false] = .rt (.bl true) st by
  obtain⟨st,h⟩:=h;exact⟨st,Zce rfl h⟩
 have hpl:=ZlM ns 0;have hL4:(Zh [] (ZaC ns 0).reverse).length<=4:=by
  have:=Znv (ps:=(ZaC ns 0).reverse) (S:=Zae ns 0) fun p hp=>Zof (by simpa using hp);simpa[Zae] using this
 have hoL:∀p∈Zh [] (ZaC ns 0).reverse,p∈Zh [] (ZaC ns 0):=fun p hp=>by
  rcases (ZbS _ _ _).mp hp with z | z
  ·cases z
  ·exact (ZbS _ _ _).mpr (.inr (by simpa using z))
 obtain⟨m,hm⟩:∃m:Nat,ZT ns 56 6=(m:Int):=⟨_,(Int.toNat_of_nonneg (ZcQ ns 56 6 (by decide))).symm⟩;have e1:=places_eq ns hns 0 [.tab (cv 90) false];have e2:=ZhY ns hns 50 [.tab (cv 90) false];have e2':=ZeV (ZbF ns 50) none (some (2:Int)) [.tab (cv 90) false];have e3:=ZbV ns hns 56 6 (by decide) [.tab (cv 90) false];rw[hm] at e3;generalize hps:ZaC ns 0=ps at *;obtain⟨o,ho⟩:∃o:List Str,Zao (ZbF ns 50) none (some (2:Int))=o:=⟨_,rfl⟩;rw[ho] at e2';have q0:(0:Nat)<=small:=by decide
 have q1:(1:Nat)<=small:=by decide
 have q2:(2:Nat)<=small:=by decide
 unfold Zfj;refine Z0 (ρ':=[some (.scr (ns.map .int)),some (.lst (ps.map pl)),none,none,none,none,none,none,none,none,none,none,none,none]) (st':=[.tab (cv 90) false]) ?_ ?_
 ·unfold ZeY;generalize ps.map pl=P at *;generalize ns.map D.int=NN at *;simp[e1]
 refine Z0 (ρ':=[some (.scr (ns.map .int)),some (.lst (ps.map pl)),some (pl o),none,none,none,none,none,none,none,none,none,none,none]) (st':=[.tab (cv 90) false]) ?_ ?_
 ·unfold ZeC;generalize pl (ZbF ns 50)=PP at *;generalize ps.map pl=P at *;generalize ns.map D.int=NN at *;simp[e2,e2']
 refine Z0 (ρ':=[some (.scr (ns.map .int)),some (.lst (ps.map pl)),some (pl o),some (.int (m:Int)),none,none,none,none,none,none,none,none,none,none]) (st':=[.tab (cv 90) false]) ?_ ?_
 ·unfold Ze0;generalize ps.map pl=P at *;generalize ns.map D.int=NN at *;simp[e3]
 have hst0:([.tab (cv 90) false]:Sto)[0]?=some (.tab (cv 90) false):=rfl;generalize ([.tab (cv 90) false]:Sto)=st0 at hst0;refine Z0 (ρ':=[some (.scr (ns.map .int)),some (.lst (ps.map pl)),some (pl o),some (.int (m:Int)),some (.lst []),none,none,none,none,none,none,none,none,none]) (st':=st0) ?_ ?_
 ·unfold ZeX;generalize ps.map pl=P at *;generalize ns.map D.int=NN at *;simp[q0]
 obtain⟨e5,f5⟩:=ZjA (c0:=some (.scr (ns.map .int))) (c1:=some (.lst (ps.map pl))) (c2:=some (pl o)) (c3:=some (.int (m:Int))) (c6:=none) (c7:=none) (c8:=none) (c9:=none) (c10:=none) (c11:=none) (c12:=none) (c13:=none) (chk:=fun st=>itemsOf st (.lst (ps.map pl))=some (ps.map pl)) (fun _=>rfl) st0 ps none [] (by simp; omega);have hseq:∀(ρ:Ev) (st:Sto),ρ[1]?=some (some (.lst (ps.map pl)))->Z5 (Za 1) ρ st = .ok (ps.map pl,fun st=>itemsOf st (.lst (ps.map pl))=some (ps.map pl)) st:=fun ρ st h=>by
  unfold Z5;rw[Zcb,h];rfl
 refine Z0 (ρ':=[some (.scr (ns.map .int)),some (.lst (ps.map pl)),some (pl o),some (.int (m:Int)),some (.lst ((ZaV [] ps).map pl)),e5,none,none,none,none,none,none,none,none]) (st':=st0) ?_ ?_
 ·unfold ZfQ;rw[Za8,hseq _ _ rfl,Zbk];exact f5
 obtain⟨st1,r1,g1,g2,g3,k1⟩:=Zks ps (by omega) st0;refine Z0 (ρ':=[some (.scr (ns.map .int)),some (.lst (ps.map pl)),some (pl o),some (.int (m:Int)),some (.lst ((ZaV [] ps).map pl)),e5,none,none,none,none,none,none,none,none]) (st':=st1) ?_ ?_
 ·have hn:neD (.res r1) (.lst ((ZaV [] ps).map pl)) st1 = .ok (.bl false) st1:=Zpg (X:=(ZaV [] ps).map pl) (by simp[kd,g2]) rfl fun x hx=>by
   obtain⟨p,_,rfl⟩:=YX.mp hx;exact Zdf 47 p
  unfold Zgg;generalize (ZaV [] ps).map pl=T at *;generalize ps.map pl=P at *;generalize ns.map D.int=NN at *;simp[g1,hn]
 have t1:=k1.fr _ _ hst0;generalize (ZaV [] ps).map pl=TR at *;refine Z0 (ρ':=[some (.scr (ns.map .int)),some (.lst (ps.map pl)),some (pl o),some (.int (m:Int)),some (.lst TR),e5,some (.res st1.length),none,none,none,none,none,none,none]) (st':=st1++[.dtt []]) rfl ?_;obtain⟨e8,f8,st2,h1,h2,h3,k2⟩:=Zhw (ps:=ps) (c0:=some (.scr (ns.map .int))) (c2:=some (pl o)) (c3:=some (.int (m:Int))) (c4:=some (.lst TR)) (c7:=none) (c8:=none) (c9:=none) (c10:=none) (c11:=none) (c12:=none) (c13:=none) (by omega) (chk:=fun st=>itemsOf st (.lst (ps.map pl))=some (ps.map pl)) (fun _=>rfl) st1.length st1 (Yj _) ps e5 [] (fun _=>0) (st1++[.dtt []]) (fun q hq=>by cases hq) (by simp; omega) (Za7 _ _) (StoK.app _ _);refine Z0 (ρ':=[some (.scr (ns.map .int)),some (.lst (ps.map pl)),some (pl o),some (.int (m:Int)),some (.lst TR),e8,some (.res st1.length),none,none,none,none,none,none,none]) (st':=st2) ?_ ?_
 ·unfold Zgp;rw[Za8,hseq _ _ rfl,Zbk];exact h1
 have t2:=k2.fr _ _ t1;obtain⟨st3,r3,i1,i2,i3,k3⟩:=Zgz ps (by omega) st2;have h23:=k3.fr _ _ h2;refine Z0 (ρ':=[some (.scr (ns.map .int)),some (.lst (ps.map pl)),some (pl o),some (.int (m:Int)),some (.lst TR),e8,some (.res st1.length),none,none,none,none,none,none,none]) (st':=st3) ?_ ?_
 ·have hn:=(Zhm i2 h23 fun p hp=>(h3 p hp).symm).2;unfold Zfs;generalize ps.map pl=P at *;generalize ns.map D.int=NN at *;simp[i1,hn]
 have t3:=k3.fr _ _ t2;refine Z0 (ρ':=[some (.scr (ns.map .int)),some (.lst (ps.map pl)),some (pl o),some (.int (m:Int)),some (.lst TR),e8,some (.res st1.length),some (.lst ((Zh [] ps.reverse).map pl)),none,none,none,none,none,none]) (st':=st3) (last_eq (by omega) st3) ?_;obtain⟨st4,j1,k4⟩:=ZmR ps (by omega) m st3;refine Z0 (ρ':=[some (.scr (ns.map .int)),some (.lst (ps.map pl)),some (pl o),some (.int (m:Int)),some (.lst TR),e8,some (.res st1.length),some (.lst ((Zh [] ps.reverse).map pl)),none,none,none,none,none,none]) (st':=st4) ?_ ?_
 ·have hn:=ZiA (ZjV ((Zh [] ps.reverse).take m)) st4;have ec:ZQ (.lst ((Zh [] ps.reverse).map pl)) none (some (m:Int)) st4 = .ok (((Zh [] ps.reverse).take m).map pl) st4:=by simp only[ZQ,Zj,ZbQ,Vl]
  unfold Zgj;generalize ((Zh [] ps.reverse).take m).map pl=Q1 at *;generalize (Zh [] ps.reverse).map pl=Q2 at *;generalize ps.map pl=P at *;generalize ns.map D.int=NN at *;simp[j1,ec,hn]
 have t4:=k4.fr _ _ t3;have h24:=k4.fr _ _ h23;refine Z0 (st':=st4) (Zkt (ps:=ps) (by omega) h24 h3 hoL) ?_;obtain⟨st5,l1,k5⟩:=Znx (cv:=cv) (ps:=ps) (c0:=some (.scr (ns.map .int))) (c2:=some (pl o)) (c4:=some (.lst TR)) (e5:=e8) (c6:=some (.res st1.length)) (c9:=none) (c10:=none) (c11:=none) (c12:=none) (c13:=none) (by omega) hL4 m t4;refine Z0 l1 ?_;generalize (Zh [] ps.reverse).map pl=LL;generalize (Z4 (ZP ps (Zh [] ps.reverse))).map prD=RR;obtain⟨st6,n1,k6⟩:=ZoU ps (by omega) o st5;refine Z0 (ρ':=[some (.scr (ns.map .int)),some (.lst (ps.map pl)),some (pl o),some (.int (m:Int)),some (.lst TR),e8,some (.res st1.length),some (.lst LL),some (.lst RR),none,none,none,none,none]) (st':=st6) ?_ ?_
 ·unfold Zez;generalize ps.map pl=P at *;generalize ns.map D.int=NN at *;simp[n1]
 refine Z0 (ρ':=[some (.scr (ns.map .int)),some (.lst (ps.map pl)),some (pl o),some (.int (m:Int)),some (.lst TR),e8,some (.res st1.length),some (.lst LL),some (.lst RR),some (.res st6.length),none,none,none,none]) (st':=st6++[.lst []]) ?_ ?_
 ·unfold ZeG;generalize ps.map pl=P at *;generalize ns.map D.int=NN at *;simp[q0]
 refine Z0 (ρ':=[some (.scr (ns.map .int)),some (.lst (ps.map pl)),some (pl o),some (.int (m:Int)),some (.lst TR),e8,some (.res st1.length),some (.lst LL),some (.lst RR),some (.res st6.length),some (.int 0),none,none,none]) (st':=st6++[.lst []]) rfl ?_;obtain⟨e9,st7,o1,o2,k7⟩:=ZjJ (ns:=ns) hns (c1:=some (.lst (ps.map pl))) (c2:=some (pl o)) (c3:=some (.int (m:Int))) (c4:=some (.lst TR)) (c6:=some (.res st1.length)) (c7:=some (.lst LL)) (c8:=some (.lst RR)) (c11:=none) (c12:=none) (c13:=none) (chk:=fun st=>itemsOf st (.lst (ps.map pl))=some (ps.map pl)) (fun _=>rfl) st6.length st6 (Yj _) ps e8 0 (st6++[.lst []]) (by omega) (Za7 _ _) (StoK.app _ _);rw[Wl] at o1 o2;refine Z0 (ρ':=[some (.scr (ns.map .int)),some (.lst (ps.map pl)),some (pl o),some (.int (m:Int)),some (.lst TR),e9,some (.res st1.length),some (.lst LL),some (.lst RR),some (.res st6.length),some (.int (moV ns ps.length)),none,none,none]) (st':=st7) ?_ ?_
 ·unfold ZeQ;rw[Za8,hseq _ _ rfl,Zbk];exact o1
 obtain⟨E,hE⟩:∃E:Int,moV ns ps.length+ZT ns 80 9=E:=⟨_,rfl⟩;have hML:=Zfe ns ps.length;generalize ZaS ns ps.length=M at *;refine Z0 (ρ':=[some (.scr (ns.map .int)),some (.lst (ps.map pl)),some (pl o),some (.int (m:Int)),some (.lst TR),e9,some (.res st1.length),some (.lst LL),some (.lst RR),some (.res st6.length),some (.int E),none,none,none]) (st':=st7) ?_ ?_
 ·have ed:=ZbV ns hns 80 9 (by decide) st7;unfold ZeU;generalize ps.map pl=P at *;generalize ns.map D.int=NN at *;simp[ed,ZaM,hE]
 refine Z0 (ρ':=[some (.scr (ns.map .int)),some (.lst (ps.map pl)),some (pl o),some (.int (m:Int)),some (.lst TR),e9,some (.res st1.length),some (.lst LL),some (.lst RR),some (.res st6.length),some (.int E),some (.res st7.length),none,none]) (st':=st7++[.dtt []]) rfl ?_;obtain⟨e10,e11,st8,u1,u2,k8⟩:=Zhn (M:=M) (E:=E) (by omega) (c0:=some (.scr (ns.map .int))) (c1:=some (.lst (ps.map pl))) (c2:=some (pl o)) (c3:=some (.int (m:Int))) (c4:=some (.lst TR)) (c6:=some (.res st1.length)) (c7:=some (.lst LL)) (c8:=some (.lst RR)) (c13:=none) (chk:=fun st=>Zj st (.lst (ps.map pl))=some (ps.map pl)) (fun _=>rfl) st7.length st7 (Yj _) o2 ps e9 none 0 [] (fun _=>0) (st7++[.dtt []]) (fun _ _=>rfl) (by simp; omega) (by omega) (Za7 _ _) (StoK.app _ _);refine Z0 (ρ':=[some (.scr (ns.map .int)),some (.lst (ps.map pl)),some (pl o),some (.int (m:Int)),some (.lst TR),e10,some (.res st1.length),some (.lst LL),some (.lst RR),some (.res st6.length),some (.int E),some (.res st7.length),e11,none]) (st':=st8) ?_ ?_
 ·unfold Zfq;have hen:Zb2 (Za 1) [some (.scr (ns.map .int)),some (.lst (ps.map pl)),some (pl o),some (.int (m:Int)),some (.lst TR),e9,some (.res st1.length),some (.lst LL),some (.lst RR),some (.res st6.length),some (.int E),some (.res st7.length),none,none] (st7++[.dtt []]) = .ok (Zal 0 (ps.map pl),fun st=>Zj st (.lst (ps.map pl))=some (ps.map pl)) (st7++[.dtt []]):=rfl;rw[Za8,hen,Zbk];exact u1
 have o3:=k8.fr _ _ o2;refine Z0 (ρ':=[some (.scr (ns.map .int)),some (.lst (ps.map pl)),some (pl o),some (.int (m:Int)),some (.lst TR),e10,some (.res st1.length),some (.lst LL),some (.lst RR),some (.res st6.length),some (.int E),some (.res st7.length),e11,some (.lst [.lst (ps.map pl),.lst (M.map D.int)])]) (st':=st8) ?_ ?_
 ·have a1:∀L:List D,Za2 [.lst L] st8 = .ok L st8:=fun _=>rfl;have a2:Za2 [.res st6.length] st8 = .ok (M.map D.int) st8:=by
   have:=getL o3;simp[Za2,this]
  unfold ZeR;generalize M.map D.int=MM at *;generalize ps.map pl=P at *;generalize ns.map D.int=NN at *;simp[a1,a2,q2]
 obtain⟨st9,r9,v1,v2,k9⟩:=Zm0 ps (by omega) (by omega) E o3;have u3:=k9.fr _ _ u2;have o4:=k9.fr _ _ o3;have hq:=(Zhm v2 u3 fun _ _=>rfl).1;have hh:=held_eq (ps:=ps) o4;refine⟨st9,?_⟩;unfold Ze1;generalize M.map D.int=MM at *;generalize ps.map pl=P at *;generalize ns.map D.int=NN at *;simp[v1,hq,hh,q2]
end K60
end
section
namespace K60
open PySem L2 DL
theorem all_mk{l:PySem.W.OpenLaw}{w:World}{K:P1}{h:Heap}{mg:Str->Option P6}{fa f0 f1 f2 f3 f4 f5 f6 f7 f8 f9 f10 f11 f12 f13 f14 f15 f16  tc tT:Addr}(X:K.In h)(G:h.Ns mainGlobals mg)(hfa:mg "law" = some (.ref fa))
    {od0 an0:Option Addr} {sl0:Array (Option P6)} {oc0 kV0 dc0 pm0 cd0 ct0:P6}
    {od1 an1:Option Addr} {sl1:Array (Option P6)} {oc1 kV1 dc1 pm1 cd1 ct1:P6}
    {od2 an2:Option Addr} {sl2:Array (Option P6)} {oc2 kV2 dc2 pm2 cd2 ct2:P6}
    {od3 an3:Option Addr} {sl3:Array (Option P6)} {oc3 kV3 dc3 pm3 cd3 ct3:P6}
    {od4 an4:Option Addr} {sl4:Array (Option P6)} {oc4 kV4 dc4 pm4 cd4 ct4:P6}
    {od5 an5:Option Addr} {sl5:Array (Option P6)} {oc5 kV5 dc5 pm5 cd5 ct5:P6}
    {od6 an6:Option Addr} {sl6:Array (Option P6)} {oc6 kV6 dc6 pm6 cd6 ct6:P6}
    {od7 an7:Option Addr} {sl7:Array (Option P6)} {oc7 kV7 dc7 pm7 cd7 ct7:P6}
    {od8 an8:Option Addr} {sl8:Array (Option P6)} {oc8 kV8 dc8 pm8 cd8 ct8:P6}
    {od9 an9:Option Addr} {sl9:Array (Option P6)} {oc9 kV9 dc9 pm9 cd9 ct9:P6}
    {od10 an10:Option Addr} {sl10:Array (Option P6)} {oc10 kV10 dc10 pm10 cd10 ct10:P6}
    {od11 an11:Option Addr} {sl11:Array (Option P6)} {oc11 kV11 dc11 pm11 cd11 ct11:P6}
    {od12 an12:Option Addr} {sl12:Array (Option P6)} {oc12 kV12 dc12 pm12 cd12 ct12:P6}
    {od13 an13:Option Addr} {sl13:Array (Option P6)} {oc13 kV13 dc13 pm13 cd13 ct13:P6}
    {od14 an14:Option Addr} {sl14:Array (Option P6)} {oc14 kV14 dc14 pm14 cd14 ct14:P6}
    {od15 an15:Option Addr} {sl15:Array (Option P6)} {oc15 kV15 dc15 pm15 cd15 ct15:P6}
    {od16 an16:Option Addr} {sl16:Array (Option P6)} {oc16 kV16 dc16 pm16 cd16 ct16:P6}
    (a0:PySem.W.nsIn K mainGlobals "_law_cell" = some (some (.ref f0))) (l0:K.lookup f0=some ⟨oc0,od0,.func (PySem.W.fnOf "_law_cell" "_law_cell" (ZZ Zcj) (Zs Zcj) (Ze Zcj) .none kV0 dc0 pm0 an0 cd0 ct0),sl0⟩) (c0:PySem.W.codeIn K cd0 "_law_cell" = true) (k0:PySem.W.keepIn K (.ref f0)=true)
    (a1:PySem.W.nsIn K mainGlobals "_law_drawn" = some (some (.ref f1))) (l1:K.lookup f1=some ⟨oc1,od1,.func (PySem.W.fnOf "_law_drawn" "_law_drawn" (ZZ ZcB) (Zs ZcB) (Ze ZcB) .none kV1 dc1 pm1 an1 cd1 ct1),sl1⟩) (c1:PySem.W.codeIn K cd1 "_law_drawn" = true) (k1:PySem.W.keepIn K (.ref f1)=true)
    (a2:PySem.W.nsIn K mainGlobals "_law_place" = some (some (.ref f2))) (l2:K.lookup f2=some ⟨oc2,od2,.func (PySem.W.fnOf "_law_place" "_law_place" (ZZ Zb7) (Zs Zb7) (Ze Zb7) .none kV2 dc2 pm2 an2 cd2 ct2),sl2⟩) (c2:PySem.W.codeIn K cd2 "_law_place" = true) (k2:PySem.W.keepIn K (.ref f2)=true)
    (a3:PySem.W.nsIn K mainGlobals "_law_places" = some (some (.ref f3))) (l3:K.lookup f3=some ⟨oc3,od3,.func (PySem.W.fnOf "_law_places" "_law_places" (ZZ ZbL) (Zs ZbL) (Ze ZbL) .none kV3 dc3 pm3 an3 cd3 ct3),sl3⟩) (c3:PySem.W.codeIn K cd3 "_law_places" = true) (k3:PySem.W.keepIn K (.ref f3)=true)
    (a4:PySem.W.nsIn K mainGlobals "trail" = some (some (.ref f4))) (l4:K.lookup f4=some ⟨oc4,od4,.func (PySem.W.fnOf "trail" "trail" (ZZ Zco) (Zs Zco) (Ze Zco) .none kV4 dc4 pm4 an4 cd4 ct4),sl4⟩) (c4:PySem.W.codeIn K cd4 "trail" = true) (k4:PySem.W.keepIn K (.ref f4)=true)
    (a5:PySem.W.nsIn K mainGlobals "counts" = some (some (.ref f5))) (l5:K.lookup f5=some ⟨oc5,od5,.func (PySem.W.fnOf "counts" "counts" (ZZ Zcy) (Zs Zcy) (Ze Zcy) .none kV5 dc5 pm5 an5 cd5 ct5),sl5⟩) (c5:PySem.W.codeIn K cd5 "counts" = true) (k5:PySem.W.keepIn K (.ref f5)=true)
    (a6:PySem.W.nsIn K mainGlobals "last_first" = some (some (.ref f6))) (l6:K.lookup f6=some ⟨oc6,od6,.func (PySem.W.fnOf "last_first" "last_first" (ZZ ZcG) (Zs ZcG) (Ze ZcG) .none kV6 dc6 pm6 an6 cd6 ct6),sl6⟩) (c6:PySem.W.codeIn K cd6 "last_first" = true) (k6:PySem.W.keepIn K (.ref f6)=true)
    (a7:PySem.W.nsIn K mainGlobals "at_most" = some (some (.ref f7))) (l7:K.lookup f7=some ⟨oc7,od7,.func (PySem.W.fnOf "at_most" "at_most" (ZZ ZcJ) (Zs ZcJ) (Ze ZcJ) .none kV7 dc7 pm7 an7 cd7 ct7),sl7⟩) (c7:PySem.W.codeIn K cd7 "at_most" = true) (k7:PySem.W.keepIn K (.ref f7)=true)
    (a8:PySem.W.nsIn K mainGlobals "recent" = some (some (.ref f8))) (l8:K.lookup f8=some ⟨oc8,od8,.func (PySem.W.fnOf "recent" "recent" (ZZ Zcu) (Zs Zcu) (Ze Zcu) .none kV8 dc8 pm8 an8 cd8 ct8),sl8⟩) (c8:PySem.W.codeIn K cd8 "recent" = true) (k8:PySem.W.keepIn K (.ref f8)=true)
    (a9:PySem.W.nsIn K mainGlobals "oftenest" = some (some (.ref f9))) (l9:K.lookup f9=some ⟨oc9,od9,.func (PySem.W.fnOf "oftenest" "oftenest" (ZZ ZcI) (Zs ZcI) (Ze ZcI) .none kV9 dc9 pm9 an9 cd9 ct9),sl9⟩) (c9:PySem.W.codeIn K cd9 "oftenest" = true) (k9:PySem.W.keepIn K (.ref f9)=true)
    (a10:PySem.W.nsIn K mainGlobals "is_under" = some (some (.ref f10))) (l10:K.lookup f10=some ⟨oc10,od10,.func (PySem.W.fnOf "is_under" "is_under" (ZZ ZcL) (Zs ZcL) (Ze ZcL) .none kV10 dc10 pm10 an10 cd10 ct10),sl10⟩) (c10:PySem.W.codeIn K cd10 "is_under" = true) (k10:PySem.W.keepIn K (.ref f10)=true)
    (a11:PySem.W.nsIn K mainGlobals "under" = some (some (.ref f11))) (l11:K.lookup f11=some ⟨oc11,od11,.func (PySem.W.fnOf "under" "under" (ZZ ZbO) (Zs ZbO) (Ze ZbO) .none kV11 dc11 pm11 an11 cd11 ct11),sl11⟩) (c11:PySem.W.codeIn K cd11 "under" = true) (k11:PySem.W.keepIn K (.ref f11)=true)
    (a12:PySem.W.nsIn K mainGlobals "counts" = some (some (.ref f12))) (l12:K.lookup f12=some ⟨oc12,od12,.func (PySem.W.fnOf "counts" "counts" (ZZ Zcq) (Zs Zcq) (Ze Zcq) .none kV12 dc12 pm12 an12 cd12 ct12),sl12⟩) (c12:PySem.W.codeIn K cd12 "counts" = true) (k12:PySem.W.keepIn K (.ref f12)=true)
    (a13:PySem.W.nsIn K mainGlobals "branches" = some (some (.ref f13))) (l13:K.lookup f13=some ⟨oc13,od13,.func (PySem.W.fnOf "branches" "branches" (ZZ Zb1) (Zs Zb1) (Ze Zb1) .none kV13 dc13 pm13 an13 cd13 ct13),sl13⟩) (c13:PySem.W.codeIn K cd13 "branches" = true) (k13:PySem.W.keepIn K (.ref f13)=true)
    (a14:PySem.W.nsIn K mainGlobals "_law_is_branched" = some (some (.ref f14))) (l14:K.lookup f14=some ⟨oc14,od14,.func (PySem.W.fnOf "_law_is_branched" "_law_is_branched" (ZZ Zbb) (Zs Zbb) (Ze Zbb) .none kV14 dc14 pm14 an14 cd14 ct14),sl14⟩) (c14:PySem.W.codeIn K cd14 "_law_is_branched" = true) (k14:PySem.W.keepIn K (.ref f14)=true)
    (a15:PySem.W.nsIn K mainGlobals "stays" = some (some (.ref f15))) (l15:K.lookup f15=some ⟨oc15,od15,.func (PySem.W.fnOf "stays" "stays" (ZZ ZcA) (Zs ZcA) (Ze ZcA) .none kV15 dc15 pm15 an15 cd15 ct15),sl15⟩) (c15:PySem.W.codeIn K cd15 "stays" = true) (k15:PySem.W.keepIn K (.ref f15)=true)
    (a16:PySem.W.nsIn K mainGlobals "law" = some (some (.ref f16))) (l16:K.lookup f16=some ⟨oc16,od16,.func (PySem.W.fnOf "law" "law" (ZZ Zi) (Zs Zi) (Ze Zi) .none kV16 dc16 pm16 an16 cd16 ct16),sl16⟩) (c16:PySem.W.codeIn K cd16 "law" = true) (k16:PySem.W.keepIn K (.ref f16)=true)
    (z_enumerate:PySem.W.nsIn K mainGlobals "enumerate" = some none)    (z_len:PySem.W.nsIn K mainGlobals "len" = some none)    (z_list:PySem.W.nsIn K mainGlobals "list" = some none)    (z_max:PySem.W.nsIn K mainGlobals "max" = some none)    (z_range:PySem.W.nsIn K mainGlobals "range" = some none)    (z_reversed:PySem.W.nsIn K mainGlobals "reversed" = some none)    (z_set:PySem.W.nsIn K mainGlobals "set" = some none)    (z_sorted:PySem.W.nsIn K mainGlobals "sorted" = some none)    (z_tuple:PySem.W.nsIn K mainGlobals "tuple" = some none)    (z_zip:PySem.W.nsIn K mainGlobals "zip" = some none)    (ht1:cd9 = .ref tc) (ht2:PySem.W.codeHdIn K tc tT=true)
 :
    ∃fd:P5,(∀(s:P0) (v:P6),BindsTo s fd ⟨[v],[]⟩ [("_law_script",v)])/\∀base:Heap,K.In base->base.Ns mainGlobals mg->base.BuiltinsAt mg tT->FnOk l.prog w K mg base CX0 5 fa fd ["_law_script"] (spB K (fun cv=>cv 90=tT) Zdh):=by
  have e:=hfa.symm.trans (Y2 X G a16);cases e;obtain⟨cv,rfl⟩:∃cv:Nat->Addr,cv 90=tT:=⟨fun _=>tT,rfl⟩;have b_enumerate:=Wp X G z_enumerate;have b_len:=Wp X G z_len;have b_list:=Wp X G z_list;have b_max:=Wp X G z_max;have b_range:=Wp X G z_range;have b_reversed:=Wp X G z_reversed;have b_set:=Wp X G z_set;have b_sorted:=Wp X G z_sorted;have b_tuple:=Wp X G z_tuple;have b_zip:=Wp X G z_zip;have F0:=Zac (st:=Zcj) l0 c0 k0;have b0:=F0.binds (ps:=["_law_script", "_law_k"]) fun _ _ _ _ _ _=>by refine us2 ?_; intros; rfl
  have m0:=Y2 X G a0;have F1:=Zac (st:=ZcB) l1 c1 k1;have b1:=F1.binds (ps:=["_law_script", "_law_k", "_law_many"]) fun _ _ _ _ _ _=>by refine us3 ?_; intros; rfl
  have m1:=Y2 X G a1;have F2:=Zac (st:=Zb7) l2 c2 k2;have b2:=F2.binds (ps:=["_law_script", "_law_at"]) fun _ _ _ _ _ _=>by refine us2 ?_; intros; rfl
  have m2:=Y2 X G a2;have F3:=Zac (st:=ZbL) l3 c3 k3;have b3:=F3.binds (ps:=["_law_script", "_law_at"]) fun _ _ _ _ _ _=>by refine us2 ?_; intros; rfl
  have m3:=Y2 X G a3;have F4:=Zac (st:=Zco) l4 c4 k4;have b4:=F4.binds (ps:=["places"]) fun _ _ _ _ _ _=>by refine us1 ?_; intros; rfl
  have m4:=Y2 X G a4;have F5:=Zac (st:=Zcy) l5 c5 k5;have b5:=F5.binds (ps:=["places"]) fun _ _ _ _ _ _=>by refine us1 ?_; intros; rfl
  have m5:=Y2 X G a5;have F6:=Zac (st:=ZcG) l6 c6 k6;have b6:=F6.binds (ps:=["places"]) fun _ _ _ _ _ _=>by refine us1 ?_; intros; rfl
  have m6:=Y2 X G a6;have F7:=Zac (st:=ZcJ) l7 c7 k7;have b7:=F7.binds (ps:=["places", "most"]) fun _ _ _ _ _ _=>by refine us2 ?_; intros; rfl
  have m7:=Y2 X G a7;have F8:=Zac (st:=Zcu) l8 c8 k8;have b8:=F8.binds (ps:=["places", "most"]) fun _ _ _ _ _ _=>by refine us2 ?_; intros; rfl
  have m8:=Y2 X G a8;have F9:=Zac (st:=ZcI) l9 c9 k9;have b9:=F9.binds (ps:=["places", "most"]) fun _ _ _ _ _ _=>by refine us2 ?_; intros; rfl
  have m9:=Y2 X G a9;have F10:=Zac (st:=ZcL) l10 c10 k10;have b10:=F10.binds (ps:=["place", "other"]) fun _ _ _ _ _ _=>by refine us2 ?_; intros; rfl
  have m10:=Y2 X G a10;have F11:=Zac (st:=ZbO) l11 c11 k11;have b11:=F11.binds (ps:=["places", "other"]) fun _ _ _ _ _ _=>by refine us2 ?_; intros; rfl
  have m11:=Y2 X G a11;have F12:=Zac (st:=Zcq) l12 c12 k12;have b12:=F12.binds (ps:=["places"]) fun _ _ _ _ _ _=>by refine us1 ?_; intros; rfl
  have m12:=Y2 X G a12;have F13:=Zac (st:=Zb1) l13 c13 k13;have b13:=F13.binds (ps:=["places", "other"]) fun _ _ _ _ _ _=>by refine us2 ?_; intros; rfl
  have m13:=Y2 X G a13;have F14:=Zac (st:=Zbb) l14 c14 k14;have b14:=F14.binds (ps:=["_law_places_here", "_law_other"]) fun _ _ _ _ _ _=>by refine us2 ?_; intros; rfl
  have m14:=Y2 X G a14;have F15:=Zac (st:=ZcA) l15 c15 k15;have b15:=F15.binds (ps:=["places", "moments", "end"]) fun _ _ _ _ _ _=>by refine us3 ?_; intros; rfl
  have m15:=Y2 X G a15;have F16:=Zac (st:=Zi) l16 c16 k16;have b16:=F16.binds (ps:=["_law_script"]) fun _ _ _ _ _ _=>by refine us1 ?_; intros; rfl
  have m16:=Y2 X G a16;refine⟨PySem.W.fnOf "law" "law" (ZZ Zi) (Zs Zi) (Ze Zi) .none kV16 dc16 pm16 an16 cd16 ct16,fun s v => .of_eq rfl,fun base _ _ tba => ?_⟩;have h0:FnAt l.prog w K mg base "_law_cell" 1 ZcY:=ZoJ F0 m0 b0 b_len;have h1:FnAt l.prog w K mg base "_law_drawn" 2 Zad:=Zoh F1 m1 b1    h0;have h2:FnAt l.prog w K mg base "_law_place" 3 Zbh:=Zm5 F2 m2 b2 b_range b_tuple   h1;have h3:FnAt l.prog w K mg base "_law_places" 4 ZbY:=ZoD F3 m3 b3 b_range   h1 h2;have h4:FnAt l.prog w K mg base "trail" 1 Zcm:=Zps F4 m4 b4;have h5:FnAt l.prog w K mg base "counts" 1 Zbj:=Zkw F5 m5 b5;have h6:FnAt l.prog w K mg base "last_first" 1 Za6:=ZpI F6 m6 b6 b_list b_reversed;have h7:FnAt l.prog w K mg base "at_most" 1 ZbJ:=Zlr F7 m7 b7 b_max;have h8:FnAt l.prog w K mg base "recent" 2 Zci:=Zj3 F8 m8 b8    h7 h6;have h9:FnAt l.prog w K mg base "oftenest" 2 (ZcD cv):=Zk9 F9 m9 b9 ht1 ht2 tba b_sorted   h7 h5 h6;have h10:FnAt l.prog w K mg base "is_under" 1 Zbr:=Zm2 F10 m10 b10 b_len;have h11:FnAt l.prog w K mg base "under" 2 ZcV:=ZpW F11 m11 b11 b_len   h10;have h12:FnAt l.prog w K mg base "counts" 1 Zcc:=Zly F12 m12 b12;have h13:FnAt l.prog w K mg base "branches" 2 Zcz:=Zp6 F13 m13 b13 b_len b_sorted   h12 h10;have h14:FnAt l.prog w K mg base "_law_is_branched" 3 Zb0:=Zqu F14 m14 b14 b_len b_set b_sorted   h13 h11;have h15:FnAt l.prog w K mg base "stays" 1 ZcX:=ZpB F15 m15 b15 b_list b_zip;exact ZpK (cv:=cv) rfl (Zqq F16 b_enumerate b_len b_list b_sorted   h1 h14 h2 h3 h5 h9 h8 h15 h4)
theorem walk{tT:Addr}{l:PySem.W.OpenLaw}{q:P4}{loose:List Str}{XP:(Str->Option P6)->Heap->Prop}{YP:World->Heap->Prop}{d:DefRec}{K:Params->P1}(hn:l.most=some 63)(hdf:d.params.defaults=[])
  (hY:∀(w:World) (h:Heap),YP w h->(K w.params).In h/\h.get? tT=some (PySem.W.tabObj #[])) (hKT:∀w:World,(∃c,PySem.W.codeHdIn (K w.params) c tT=true)/\PySem.W.noTabs (K w.params)=true)
  (F:∀(w:World) (mg:Str->Option P6) (fa:Addr) (h:Heap),(K w.params).In h->h.Ns mainGlobals mg->mg d.name=some (.ref fa) ->
   ∃fd:P5,(∀(s:P0) (u:P6),BindsTo s fd ⟨[u],[]⟩ [("_law_script",u)])/\∀base:Heap,(K w.params).In base->base.Ns mainGlobals mg->base.BuiltinsAt mg tT->FnOk l.prog w (K w.params) mg base CX0 5 fa fd ["_law_script"] (spB (K w.params) (fun cv=>cv 90=tT) Zdh)) :
  PySem.W.WalkO q loose XP YP l.row.toRowW d [] (fun f vs=>PySem.call f vs) :=
 L2.walk_ofT (n:=63) (k:=5) (x:="_law_script") (CX:=fun _=>CX0) (sp:=fun w=>spB (K w.params) (fun cv=>cv 90=tT) Zdh) hn (by decide) hdf ⟨rfl,by decide,by decide⟩ hY hKT F (fun _ H a ns hl ho hT hS cv hcv=>by subst hcv; exact DL.law_spT (law_true cv) H a ns hl ho hT hS) fun _ _ _ _ _ z=>z
end K60
def PySem.W.Fast.tw9363214764283991203:Nat:=0
def PySem.W.Fast.tw7270330051091207356:Nat:=0
def PySem.W.Fast.tw10368827614151553891:Nat:=0
def PySem.W.Fast.tw13135312941875745310:Nat:=0
def PySem.W.Fast.tw7086961617601330827:Nat:=0
def PySem.W.Fast.tw861502493610598483:Nat:=0
def PySem.W.Fast.tw14038730832528328553:Nat:=0
def PySem.W.Fast.tw966166296225237126:Nat:=0
def PySem.W.Fast.tw7774113678449685934:Nat:=0
def PySem.W.Fast.tw8997383693586321770:Nat:=0
open PySem PySem.W PyProof.Rows
open_top hd for PySem.Challenge.rw_cardplaces_k60_visits
theorem PySem.Challenge.cw_cardplaces_k60_visits_holds : PySem.Challenge.rw_cardplaces_k60_visits.Holds := by
 refine hd ?_
 k_fill
 refine' K60.walk (l:=PySem.Challenge.rw_cardplaces_k60_visits) rfl rfl (fun w h Y=>⟨PySem.W.km_in_of Y,PySem.W.km_tabs_of Y _ (.head _)⟩) ?T ?F
 case F =>
  intro w mg fa h KX G hmg;refine' K60.all_mk KX G hmg ?a0 ?l0 ?c0 ?k0 ?a1 ?l1 ?c1 ?k1 ?a2 ?l2 ?c2 ?k2 ?a3 ?l3 ?c3 ?k3 ?a4 ?l4 ?c4 ?k4 ?a5 ?l5 ?c5 ?k5 ?a6 ?l6 ?c6 ?k6 ?a7 ?l7 ?c7 ?k7 ?a8 ?l8 ?c8 ?k8 ?a9 ?l9 ?c9 ?k9 ?a10 ?l10 ?c10 ?k10 ?a11 ?l11 ?c11 ?k11 ?a12 ?l12 ?c12 ?k12 ?a13 ?l13 ?c13 ?k13 ?a14 ?l14 ?c14 ?k14 ?a15 ?l15 ?c15 ?k15 ?a16 ?l16 ?c16 ?k16 ?z_enumerate ?z_len ?z_list ?z_max ?z_range ?z_reversed ?z_set ?z_sorted ?z_tuple ?z_zip ?ht1 ?ht2
  (case a0=>k_is)
  (case l0=>k_is)
  (case c0=>k_is)
  (case k0=>k_is)
  (case a1=>k_is)
  (case l1=>k_is)
  (case c1=>k_is)
  (case k1=>k_is)
  (case a2=>k_is)
  (case l2=>k_is)
  (case c2=>k_is)
  (case k2=>k_is)
  (case a3=>k_is)
  (case l3=>k_is)
  (case c3=>k_is)
  (case k3=>k_is)
  (case a4=>k_is)
  (case l4=>k_is)
  (case c4=>k_is)
  (case k4=>k_is)
  (case a5=>k_is)
  (case l5=>k_is)
  (case c5=>k_is)
  (case k5=>k_is)
  (case a6=>k_is)
  (case l6=>k_is)
  (case c6=>k_is)
  (case k6=>k_is)
  (case a7=>k_is)
  (case l7=>k_is)
  (case c7=>k_is)
  (case k7=>k_is)
  (case a8=>k_is)
  (case l8=>k_is)
  (case c8=>k_is)
  (case k8=>k_is)
  (case a9=>k_is)
  (case l9=>k_is)
  (case c9=>k_is)
  (case k9=>k_is)
  (case a10=>k_is)
  (case l10=>k_is)
  (case c10=>k_is)
  (case k10=>k_is)
  (case a11=>k_is)
  (case l11=>k_is)
  (case c11=>k_is)
  (case k11=>k_is)
  (case a12=>k_is)
  (case l12=>k_is)
  (case c12=>k_is)
  (case k12=>k_is)
  (case a13=>k_is)
  (case l13=>k_is)
  (case c13=>k_is)
  (case k13=>k_is)
  (case a14=>k_is)
  (case l14=>k_is)
  (case c14=>k_is)
  (case k14=>k_is)
  (case a15=>k_is)
  (case l15=>k_is)
  (case c15=>k_is)
  (case k15=>k_is)
  (case a16=>k_is)
  (case l16=>k_is)
  (case c16=>k_is)
  (case k16=>k_is)
  (case z_enumerate=>k_is)
  (case z_len=>k_is)
  (case z_list=>k_is)
  (case z_max=>k_is)
  (case z_range=>k_is)
  (case z_reversed=>k_is)
  (case z_set=>k_is)
  (case z_sorted=>k_is)
  (case z_tuple=>k_is)
  (case z_zip=>k_is)
  (case ht1=>rfl)
  (case ht2=>rfl)
 case T=>exact fun w=>⟨by first | exact⟨57,rfl⟩ | exact⟨56,rfl⟩ | exact⟨59,rfl⟩ | exact⟨60,rfl⟩ | exact⟨62,rfl⟩ | exact⟨55,rfl⟩,rfl⟩
end
